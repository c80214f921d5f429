import PyProof.Rows.All
import Wide.All
import OpenK.AllK
import Wide.FinOn
import HandS.ForMost
import HandS.Wide
import HandS.ExcInit
import HandS.FStr
import HandS.Nested
import HandS.TryOnly
import HandS.ExcField
import HandS.WordsExc
import HandS.IsInst
import HandS.Codes
import HandS.Gcd
import HandS.Star
import HandS.ClsMeth
import KE.KTupSum
import HandS.Defaults
import HandS.ExcIs
import KE.KExcSuper
import KE.KMathG
import HandS.FStrTup
import HandS.OwnEq
import HandS.TupLe
import HandS.DeepEq
import HandS.MakeKw
import HandS.Walk
import HandS.AnyAll
import HandS.WordsDict
import HandS.More
import HandS.Deep
import HandS.Style
import HandS.Flow
import HandS.CallSlots
import KE.GoesRaise
import PyProof.ReprReads
import HandS.MethStar
import HandS.SortInts
import HandS.DictComp
import KE.KSortedM
import HandS.DictTup
import HandS.Zip
import HandS.Conv
import HandS.TupMul
import HandS.TupAny
import KE.KStateDown
import HandS.Head0
import HandS.Head1
import HandS.Head2
import HandS.HeadEnd
import HandS.HeadHook1
import HandS.HeadHook2
import PySem.Challenge.RW_rungbounds_k23_lists_in_bounds
set_option Elab.async false
set_option linter.all false
set_option maxRecDepth 100000
set_option maxHeartbeats 4000000
/-! The head's facts, read off the heap behind the top by their paths. -/
namespace Hk
open PySem PySem.Spec PyProof.Rows L2 He
abbrev Fr : Type := PySem.W.Frag
abbrev FnE : Type := Option (Str × Str × Arguments × FuncBody × Scope × Addr × List Str × Addr)
def fnE (K : Fr) (a : Addr) : FnE := match K.lookup a with
  | some ⟨_, _, .func fd, _⟩ => some (fd.name, fd.qualname, fd.params, fd.body, fd.scope, fd.globals, fd.closure.map (·.1), fd.builtins)
  | _ => none
/-- one def of the text: where it stands, its name, its qualified name, its statement, its cells -/
structure Df where
  at_ : Addr
  name : Str
  qual : Str
  st : Stmt
  cl : List Str := []
abbrev sig (name qual : Str) (st : Stmt) (cl : List Str) : FnE := some (name, qual, defArgs st, .stmts (defBody st), defScope st, mainGlobals, cl, builtinsNs)
def Df.val (d : Df) : FnE := sig d.name d.qual d.st d.cl
abbrev Ob : Type := Bool × List FnE
def obsK (fx : List (Fr → Bool)) (fn : List Df) (K : Fr) : Ob := (fx.all fun f => f K, fn.map fun d => fnE K d.at_)
def valK (fn : List Df) : Ob := (true, fn.map Df.val)
def Says (fx : List (Fr → Bool)) (fn : List Df) (K : Fr) : Prop := obsK fx fn K = valK fn
def obK (as : List Addr) (fx : List (Fr → Bool)) (fn : List Df) (g : Addr → Option Obj) : Ob := obsK fx fn (frG g as)
def hookK (as : List Addr) (fx : List (Fr → Bool)) (fn : List Df) : PySem.W.Hook where
  α := Ob
  obs := fun s => obK as fx fn s.heap.get?
  val := fun _ => valK fn
  says := fun _ h => ∃ K : Fr, K.In h ∧ Says fx fn K
  of := fun _ _ e => ⟨_, frG_in, e⟩
  keeps := fun _ _ _ ⟨K, hK, c⟩ k => ⟨K, PySem.W.Frag.In.keeps hK k, c⟩
theorem obK_eq {as : List Addr} {fx : List (Fr → Bool)} {fn : List Df} {g : Addr → Option Obj} {s : Shared} (h : ∀ a, g a = s.heap.get? a) : obK as fx fn g = (hookK as fx fn).obs s := by
  have e : g = s.heap.get? := funext h
  rw [e] <;> rfl
section
variable {fx : List (Fr → Bool)} {fn : List Df} {K : Fr}
theorem Says.fact (c : Says fx fn K) (i : Nat) {f : Fr → Bool} (h : fx[i]? = some f) : f K = true := by
  have c1 : (fx.all fun f => f K) = true := congrArg (fun z : Ob => z.1) c
  exact List.all_eq_true.mp c1 f (List.mem_of_getElem? h)
theorem Says.fn_ (c : Says fx fn K) (i : Nat) {d : Df} (h : fn[i]? = some d) : fnE K d.at_ = d.val := by
  have e : fn.map (fun d => fnE K d.at_) = fn.map Df.val := congrArg (fun z : Ob => z.2) c
  have e2 : (fn.map fun d => fnE K d.at_)[i]? = (fn.map Df.val)[i]? := by rw [e]
  rw [List.getElem?_map, List.getElem?_map, h] at e2
  exact Option.some.inj e2
end
/-! ### defs -/
def plainB (qual : Str) (a : Addr) (K : Fr) : Bool := match K.lookup a with
  | some ⟨_, _, .func fd, _⟩ => PySem.W.codeIn K fd.code qual && decide (fd.defaults = .none)
  | _ => false
theorem def_ok {K : Fr} {a : Addr} {name qual : Str} {st : Stmt} (e : fnE K a = sig name qual st []) (c : plainB qual a K = true) :
    ∃ oc od osl kV doc pm an cdv ct, K.lookup a = some ⟨oc, od, .func (PySem.W.fnOf name qual (defArgs st) (defBody st) (defScope st) .none kV doc pm an cdv ct), osl⟩ ∧ PySem.W.codeIn K cdv qual = true := by
  unfold fnE at e
  unfold plainB at c
  cases q : K.lookup a with
  | none =>
    rw [q] at c
    cases c
  | some o =>
    obtain ⟨oc, od, dt, osl⟩ := o
    rw [q] at c e
    cases dt with
    | func fd =>
      obtain ⟨n1, n2, n3, n4, n5, n6, n7, n8, n9, n10, n11, n12, n13, n14, n15⟩ := fd
      have e2 : (some (n1, n2, n3, n4, n5, n6, n7.map (·.1), n15) : FnE) = some (name, qual, defArgs st, .stmts (defBody st), defScope st, mainGlobals, [], builtinsNs) := e
      simp only [Option.some.injEq, Prod.mk.injEq, List.map_eq_nil_iff] at e2
      obtain ⟨h1, h2, h3, h4, h5, h6, h7, h8⟩ := e2
      obtain ⟨c1, c2⟩ := ba c
      have d2 : n8 = .none := of_decide_eq_true c2
      subst h1 h2 h3 h4 h5 h6 h7 h8 d2
      exact ⟨oc, od, osl, n9, n10, n11, n12, n13, n14, rfl, c1⟩
    | _ => cases c
/-- one default, an object -/
def oneRef : List Value → Bool
  | [.ref _] => true
  | _ => false
theorem oneRef_ok : ∀ {l : List Value}, oneRef l = true → ∃ b, l = [.ref b]
  | [], h => by cases h
  | [v], h => by
    cases v with
    | ref b => exact ⟨b, rfl⟩
    | _ => cases h
  | v :: u :: r, h => by cases v <;> cases h
def dflB1 (qual : Str) (a : Addr) (K : Fr) : Bool := match K.lookup a with
  | some ⟨_, _, .func fd, _⟩ => PySem.W.codeIn K fd.code qual && (match fd.defaults with
    | .ref T => (match K.lookup T with
      | some ⟨_, _, .seq its _, _⟩ => oneRef its.toList
      | _ => false)
    | _ => false)
  | _ => false
theorem dfl1_ok {K : Fr} {a : Addr} {name qual : Str} {st : Stmt} (e : fnE K a = sig name qual st []) (c : dflB1 qual a K = true) :
    ∃ oc od osl kV doc pm an cdv ct T xo xd xs xn b, K.lookup a = some ⟨oc, od, .func (PySem.W.fnOf name qual (defArgs st) (defBody st) (defScope st) (.ref T) kV doc pm an cdv ct), osl⟩ ∧ PySem.W.codeIn K cdv qual = true ∧
      K.lookup T = some ⟨xo, xd, .seq #[.ref b] xn, xs⟩ := by
  unfold fnE at e
  unfold dflB1 at c
  cases q : K.lookup a with
  | none =>
    rw [q] at c
    cases c
  | some o =>
    obtain ⟨oc, od, dt, osl⟩ := o
    rw [q] at c e
    cases dt with
    | func fd =>
      obtain ⟨n1, n2, n3, n4, n5, n6, n7, n8, n9, n10, n11, n12, n13, n14, n15⟩ := fd
      have e2 : (some (n1, n2, n3, n4, n5, n6, n7.map (·.1), n15) : FnE) = some (name, qual, defArgs st, .stmts (defBody st), defScope st, mainGlobals, [], builtinsNs) := e
      simp only [Option.some.injEq, Prod.mk.injEq, List.map_eq_nil_iff] at e2
      obtain ⟨h1, h2, h3, h4, h5, h6, h7, h8⟩ := e2
      subst h1 h2 h3 h4 h5 h6 h7 h8
      obtain ⟨c1, c2⟩ := ba c
      cases n8 with
      | ref T =>
        have c3 : (match K.lookup T with
          | some ⟨_, _, .seq its _, _⟩ => oneRef its.toList
          | _ => false) = true := c2
        cases q2 : K.lookup T with
        | none =>
          rw [q2] at c3
          cases c3
        | some o2 =>
          obtain ⟨xo, xd, dt2, xs⟩ := o2
          rw [q2] at c3
          cases dt2 with
          | seq its xn =>
            obtain ⟨l⟩ := its
            obtain ⟨b, e⟩ := oneRef_ok (show oneRef l = true from c3)
            rw [e] at q2
            exact ⟨oc, od, osl, n9, n10, n11, n12, n13, n14, T, xo, xd, xs, xn, b, rfl, c1, q2⟩
          | _ => cases c3
      | _ => cases c2
    | _ => cases c
/-! ### errors -/
def excB (C : Addr) (K : Fr) : Bool := match K.lookup C with
  | some ⟨.type "type", _, .cls cd, sl⟩ => (match cd.mro, sl.toList with
    | .ref C' :: bm, [_, _, _, _, some (.builtin n), _] => decide (C' = C) && (decide (n = "ValueError.__new__") && (!cd.hasDel && (cd.hasDict && PySem.HandSPX.refsVE bm)))
    | _, _ => false)
  | _ => false
theorem exc_ok {K : Fr} {C : Addr} (c : excB C K = true) : ∃ nm q N bs bm sn sub ab col dd k0 k1 k2 k3 k5, K.lookup C = some (excClassObj nm q C N bs bm true sn sub ab col dd k0 k1 k2 k3 k5 "ValueError.__new__") ∧ PySem.HandSPX.refsVE bm = true := by
  unfold excB at c
  split at c
  · rename_i dd cd sl ho
    split at c
    · rename_i C' bm k0 k1 k2 k3 n k5 hm hs
      obtain ⟨c1, c⟩ := ba c
      obtain ⟨c2, c⟩ := ba c
      obtain ⟨c3, c⟩ := ba c
      obtain ⟨c4, c5⟩ := ba c
      have d1 : C' = C := of_decide_eq_true c1
      have d2 : n = "ValueError.__new__" := of_decide_eq_true c2
      subst d1 d2
      obtain ⟨nm, bs, mro, ns, qn, hd, sn, sub, ab, col, del⟩ := cd
      dsimp only at hm c3 c4
      have d3 : del = false := by
        cases del with
        | false => rfl
        | true => cases c3
      subst hm d3 c4
      have hsl : sl = #[k0, k1, k2, k3, some (.builtin "ValueError.__new__"), k5] := by
        obtain ⟨l⟩ := sl
        simp only at hs
        rw [hs]
      subst hsl
      exact ⟨nm, qn, ns, bs, bm, sn, sub, ab, col, dd, k0, k1, k2, k3, k5, ho, c5⟩
    · cases c
  · cases c
def isStr (fl : Str) : Option Value → Bool
  | some (.str y _) => decide (y = fl)
  | _ => false
theorem isStr_ok {fl : Str} : ∀ {v : Option Value}, isStr fl v = true → ∃ t, v = some (.str fl t)
  | none, h => by cases h
  | some v, h => by
    cases v with
    | str y t =>
      have e : y = fl := of_decide_eq_true h
      exact ⟨t, by rw [e]⟩
    | _ => cases h
def isCell (C : Addr) : Data → Bool
  | .cell (some (.ref D)) => decide (D = C)
  | _ => false
theorem isCell_ok {C : Addr} : ∀ {d : Data}, isCell C d = true → d = .cell (some (.ref C)) := by
  intro d h
  unfold isCell at h
  split at h
  · have e : _ = C := of_decide_eq_true h
    rw [e]
  · cases h
def errB (fl qual : Str) (C a : Addr) (K : Fr) : Bool := match K.lookup a with
  | some ⟨_, _, .func fd, _⟩ => decide (fd.defaults = .none) && (PySem.W.codeIn K fd.code qual && ((match fd.code with
    | .ref c => (match K.lookup c with
      | some ⟨_, _, .fields vk, _⟩ => isStr fl vk[2]?
      | _ => false)
    | _ => false) && (match fd.closure with
    | [(_, cc)] => (match K.lookup cc with
      | some o => isCell C o.data
      | _ => false)
    | _ => false)))
  | _ => false
theorem err_ok {K : Fr} {C a : Addr} {name qual fl : Str} {st : Stmt} (e : fnE K a = sig name qual st ["__class__"]) (c : errB fl qual C a K = true) :
    ∃ oc od osl kV doc pm an cda ct cc ck dk vk sk tf ce de se, K.lookup a = some ⟨oc, od, .func (PySem.W.fnX name qual (defArgs st) (defBody st) (defScope st) [("__class__", cc)] .none kV doc pm an (.ref cda) ct), osl⟩ ∧
      PySem.W.codeIn K (.ref cda) qual = true ∧ K.lookup cda = some ⟨ck, dk, .fields vk, sk⟩ ∧ vk[2]? = some (.str fl tf) ∧ K.lookup cc = some ⟨ce, de, .cell (some (.ref C)), se⟩ := by
  unfold fnE at e
  unfold errB at c
  cases q : K.lookup a with
  | none =>
    rw [q] at c
    cases c
  | some o =>
    obtain ⟨oc, od, dt, osl⟩ := o
    rw [q] at c e
    cases dt with
    | func fd =>
      obtain ⟨n1, n2, n3, n4, n5, n6, n7, n8, n9, n10, n11, n12, n13, n14, n15⟩ := fd
      have e2 : (some (n1, n2, n3, n4, n5, n6, n7.map (·.1), n15) : FnE) = some (name, qual, defArgs st, FuncBody.stmts (defBody st), defScope st, mainGlobals, [("__class__" : Str)], builtinsNs) := e
      simp only [Option.some.injEq, Prod.mk.injEq] at e2
      obtain ⟨h1, h2, h3, h4, h5, h6, h7, h8⟩ := e2
      obtain ⟨c1, c⟩ := ba c
      obtain ⟨c2, c⟩ := ba c
      obtain ⟨c3, c4⟩ := ba c
      have d1 : n8 = .none := of_decide_eq_true c1
      subst h1 h2 h3 h4 h5 h6 h8 d1
      dsimp only at c2 c3 c4
      cases n13 with
      | ref cda =>
        have c3 : (match K.lookup cda with
          | some ⟨_, _, .fields vk, _⟩ => isStr fl vk[2]?
          | _ => false) = true := c3
        cases q3 : K.lookup cda with
        | none =>
          rw [q3] at c3
          cases c3
        | some o3 =>
          obtain ⟨ck, dk, dt3, sk⟩ := o3
          rw [q3] at c3
          cases dt3 with
          | fields vk =>
            obtain ⟨tf, qv⟩ := isStr_ok (show isStr fl vk[2]? = true from c3)
            cases n7 with
            | nil => cases h7
            | cons p r =>
              obtain ⟨x, cc⟩ := p
              cases r with
              | cons p2 r => cases h7
              | nil =>
                have hx : x = "__class__" := (List.cons.inj h7).1
                subst hx
                have c4 : (match K.lookup cc with
                  | some o => isCell C o.data
                  | _ => false) = true := c4
                cases q4 : K.lookup cc with
                | none =>
                  rw [q4] at c4
                  cases c4
                | some o4 =>
                  obtain ⟨ce, de, dt4, se⟩ := o4
                  rw [q4] at c4
                  have d4 := isCell_ok (show isCell C dt4 = true from c4)
                  subst d4
                  exact ⟨oc, od, osl, n9, n10, n11, n12, cda, n14, cc, ck, dk, vk, sk, tf, ce, de, se, rfl, c2, q3, qv, q4⟩
          | _ => cases c3
      | _ => cases c3
    | _ => cases c
/-! ### constants -/
def intB (x : Str) (i : Int) (K : Fr) : Bool := match PySem.W.nsIn K mainGlobals x with
  | some (some (.int j _)) => decide (j = i)
  | _ => false
theorem int_ok {K : Fr} {x : Str} {i : Int} (c : intB x i K = true) : ∃ t, PySem.W.nsIn K mainGlobals x = some (some (.int i t)) := by
  unfold intB at c
  split at c
  · rename_i j t e
    have c : j = i := of_decide_eq_true c
    rw [c] at e
    exact ⟨t, e⟩
  · cases c
def strB (x z : Str) (K : Fr) : Bool := match PySem.W.nsIn K mainGlobals x with
  | some (some (.str y _)) => decide (y = z)
  | _ => false
theorem str_ok {K : Fr} {x z : Str} (c : strB x z K = true) : ∃ t, PySem.W.nsIn K mainGlobals x = some (some (.str z t)) := by
  unfold strB at c
  split at c
  · rename_i y t e
    have c : y = z := of_decide_eq_true c
    rw [c] at e
    exact ⟨t, e⟩
  · cases c
theorem of_ {p : Prop} [Decidable p] (h : decide p = true) : p := of_decide_eq_true h
end Hk

/-! Errors whose making calls super().__init__ on a text, then keeps a field. -/
namespace Sup
open PySem PySem.Spec PyProof.Rows L2 NdefX

abbrev mwrap (x : Addr) : Obj := PySem.W.kxs_mw "ValueError.__init__" x

/-- the wrapper of ValueError.__init__ bound to a, called -/
theorem call_wrap {prog : Program} {w : World} {A : Around} {E : Value → Shared → Prop} {h : Heap} {g : Array GenState} {d : Drawn} {t : Nat} {os : OsState}
    {nm q : Str} {C N : Addr} {bs bm : List Value} {hd : Bool} {sn : List Str} {sub : List Value} {ab : Bool} {col : Option Bool} {dd : Option Addr} {k0 k1 k2 k3 k5 : Option Value}
    {u a t0 : Addr} {us : List Value} {Q : Value → Shared → Prop}
    (hC : h.get? C = some (excClassObj nm q C N bs bm hd sn sub ab col dd k0 k1 k2 k3 k5 "ValueError.__new__"))
    (ha : h.get? a = some (PySem.HandSPX.excO C t0)) (hu : h.get? u = some (mwrap a)) (hl : us.length ≤ sizeLine)
    (hq : ∀ h' t1, (∀ b o, b ≠ a → h.get? b = some o → h'.get? b = some o) → h'.get? a = some (PySem.HandSPX.excO C t1) → Q .none ⟨h', g, d, t, os⟩) :
    wpAny (model prog w) A (call (.ref u) us) Q E ⟨h, g, d, t, os⟩ := by
  have FB := F.excBase_ValueError
  refine wpAny_call (codeAny_of_tree ?_)
  show wpAny _ A.in1 (callAny (.ref u) ⟨us, []⟩) _ _ _
  unfold callAny
  refine wpAny_bind (wpAny_load hu ?_)
  have k1' : (Value.type "method-wrapper" == Value.type "method" || Value.type "method-wrapper" == Value.type "builtin_function_or_method" || Value.type "method-wrapper" == Value.type "method-wrapper") = true := by decide
  simp only [mwrap, PySem.W.kxs_mw, k1', if_true]
  refine PySem.W.KFB.if_so (by decide) ?_
  refine wpAny_bind (PySem.W.check_bound_init FB.toExcCallFacts hC ha rfl ?_)
  refine wpAny_bind (wpAny_pure (wpAny_pure ?_))
  refine ⟨plainId_quiet FB.init.plain _, codeAny_builtin FB.initEntry ?_⟩
  exact PySem.W.exc_init_tree (cls := .ref C) (t0 := t0) (dv := none) (c2 := .none) (c3 := .none) (b4 := .bool false) ha hl fun h' k e _ => hq h' _ k e

/-- what the written part says of an own error's class at C and its __init__ at f -/
structure ErrTxt (P : Program) (K : PySem.W.Frag) (mg : Str → Option Value) (C f cda cc : Addr) (qual : Str) (st : Stmt) : Prop where
  oex : OexC K C
  iC : PySem.W.findIn K (.ref C) "__init__" = some (some (.ref f))
  tI : PySem.W.typeIn K (.ref f) = some (.type "function")
  fn : ∃ (oc : Value) (od an : Option Addr) (kV doc pm ct : Value) (osl : Array (Option Value)),
    K.lookup f = some ⟨oc, od, .func (PySem.W.fnX "__init__" qual (defArgs st) (defBody st) (defScope st) [("__class__", cc)] .none kV doc pm an (.ref cda) ct), osl⟩
  code : PySem.W.codeIn K (.ref cda) qual = true
  file : ∃ (o : Obj) (vs : Array Value) (fl : Str) (tf : Tok), K.lookup cda = some o ∧ o.data = .fields vs ∧ vs[2]? = some (.str fl tf) ∧ ((P.main.file : Str) == fl) = true
  cell : ∃ (o : Obj), K.lookup cc = some o ∧ o.data = .cell (some (.ref C))
  self : PySem.W.mroIn K C (.ref C) = some true
  opaque_ : PySem.W.nsIn K cStatics "thirdparty.any" = some none
  up : PySem.W.ks_superIn K C C "__init__" = some (some (.builtin "ValueError.__init__"))
  isVE : PySem.W.subIn K (.ref C) (.type "ValueError") = some true
  top : (P.main.scope.names.lookup ("super" : Str)).isSome = false
  noSup : mg "super" = none

section
variable {X : Cx} {pins : List (Addr × Obj)} {σ : L2.St} {H : Hp} {s : Shared} {a C f cda cc : Addr} {qual : Str} {st : Stmt} {e : Expr} {te : TE} {body : List Stmt} {p0 p1 p2 p3 : Pos} {Q : Hp → Prop} {scope : Scope} {ar : Arg}
theorem super_init (T : ErrTxt X.prog X.K X.mg C f cda cc qual st) (I : Inv X pins σ H s)
    (henv : X.env = PySem.W.envX qual scope X.env.locals f (.ref cda) [("__class__", cc)])
    (hks : scope.names.lookup ("super" : Str) = some .globalImplicit) (hkc : scope.names.lookup ("__class__" : Str) = some .free)
    (hks' : scope.names.lookup ar.arg = some .local)
    (har : ((defArgs st).posonlyargs ++ (defArgs st).args).head? = some ar)
    (h0 : X.N[0]? = some ar.arg) (hs0 : σ[0]? = some (some (V.ref a))) (ha : H a = some (exo a C none))
    (he : PE X e te) (hq : te σ H fun x H1 => [x].length ≤ 1 ∧ H1 a = some (exo a C none) ∧ Q H1) {pl : Sem Bool}
    (hform : eval (.Call (.Attribute (.Call (.Name "super" p0) [] [] p1) "__init__" p2) [e] [] p3) X.env = (do
      let ov ← attributeBase (.Call (.Name "super" p0) [] [] p1) "__init__" X.env (eval (.Call (.Name "super" p0) [] [] p1) X.env)
      standAt p2.atName
      let (g, first) ← holding [ov] (getMethod ov "__init__" pl)
      callWith p3 g first (backTo p3 (starEach [e] X.env)) []) := by rfl)
    (hse : starEach [e] X.env = (false, eval e X.env) :: starEach [] X.env := by rfl) :
    _root_.PySem.wpAt (model X.prog X.w) X.A (.func body X.env) (eval (.Call (.Attribute (.Call (.Name "super" p0) [] [] p1) "__init__" p2) [e] [] p3) X.env)
      (fun _ s' => ∃ H', Inv X pins σ H' s' ∧ Q H') X.xe s := by
  have kS : X.env.kindOf "super" = some .globalImplicit := by rw [henv]; exact hks
  have kC : X.env.kindOf "__class__" = some .free := by rw [henv]; exact hkc
  have kA : X.env.kindOf ar.arg = some .local := by rw [henv]; exact hks'
  have cL : X.env.cells.lookup ("__class__" : Str) = some cc := by rw [henv]; rfl
  have fL : X.env.func = some f := by rw [henv]
  have dL : X.env.code = .ref cda := by rw [henv]
  obtain ⟨nm, q, N, bs, bm, sn, sub, ab, col, dd, k0, k1, k2, k3, k5, hC, hbm⟩ := T.oex.cls
  have hcl : PySem.W.clsIn X.K C = some { name := nm, bases := bs, mro := .ref C :: bm, ns := N, qualname := q, hasDict := true, slotNames := sn, subclasses := sub, abstract := ab, collection := col, hasDel := false } := by
    unfold PySem.W.clsIn; rw [hC] <;> rfl
  obtain ⟨oc, od, an, kV, doc, pm, ct, osl, lf⟩ := T.fn
  obtain ⟨oF, vs, fl, tf, lc, hvf, hv2, hfl⟩ := T.file
  obtain ⟨oc2, lcell, dcell⟩ := T.cell
  obtain ⟨t1, hga⟩ := exo_at I.hok ha
  refine ks_wpAt_MethodCall (o := .Call (.Name "super" p0) [] [] p1) (name := "__init__") (apos := p2) (pos := p3) (args := [e]) (env := X.env) ?_ hform
  refine ks_wpAt_super_base (env := X.env) (cc := cda) (ar := ar) kS kC (by decide) fL (I.kIn _ _ lf) rfl har dL (I.kIn _ _ lc) hvf hv2 hfl T.top ?_
  -- the name super
  obtain ⟨mb, hb1, hb2⟩ := I.mod.blt
  refine PySem.W.ks_loadName_global I.ok.kind kS (Calls.loadGlobal_builtin (v := .type "super") (by rw [I.ok.glob]; exact I.mod.glob.keeps I.bk) T.noSup
    (by rw [I.ok.blt]; exact hb1.keeps I.bk) ((hb2 _ (by decide)).trans (by decide +kernel)) ⟨rfl, ?_⟩)
  -- the cell __class__
  refine wpAny_loadName_free I.ok.kind kC cL (v := .ref C) ⟨_, I.kIn _ _ lcell, dcell⟩ ?_
  -- self
  obtain ⟨m, hn, hlm⟩ := I.loc
  obtain ⟨u, ru, hlook⟩ := hlm 0 ar.arg (V.ref a) h0 hs0 (.inl (by rw [henv]; exact hks'))
  obtain rfl : u = Value.ref a := ru
  have hma : m ar.arg = some (Value.ref a) := by
    rcases hlook with ⟨_, z⟩ | ⟨z, _⟩
    · exact z
    · rw [kA] at z
      rcases z with z | z <;> cases z
  refine wpAny_loadName_local I.ok.kind kA hn hma ?_
  have gC := I.kIn _ _ hC
  refine ks_wpAny_isType_cls gC rfl ⟨rfl, ?_⟩
  obtain ⟨hp, g, d, t, os⟩ := s
  refine ks_wpAny_call_super gC rfl hga rfl (fun c z => by cases z) (PySem.W.looks_mroIn I.kIn T.self) fun h1 e1 k1 => ?_
  have J1 : Inv X pins σ H ⟨h1, g, d, t, os⟩ := I.kept (t' := t) k1
  have I1 : PySem.W.InstAt h1 a (PySem.HandSPX.excO C t1) C none := ⟨k1 _ _ hga, rfl, rfl, trivial⟩
  have hup := T.up
  unfold PySem.W.ks_superIn at hup
  rw [hcl] at hup
  refine PySem.W.kxs_getMethod PySem.W.kxs_ValueError e1 (PySem.W.looks_opaque J1.kIn T.opaque_)
    (fun A' Q' E' s' k q => wpAny_bind ((PySem.W.looks_clsIn J1.kIn hcl) A' _ E' s' k (wpAny_pure q))) rfl J1.kIn hup
    (I1.type.andThen (PySem.W.looks_subIn J1.kIn T.isVE)) (PySem.W.ks_ne J1.kIn I1 hcl) (by decide) ?_
  have gu : (h1.push (mwrap a)).get? h1.objs.size = some (mwrap a) := Heap.get?_push_at rfl rfl
  have J2 : Inv X pins σ H ⟨h1.push (mwrap a), g, d, t + 1, os⟩ := J1.kept (t' := t + 1) fun b o z => Heap.get?_push_of_some _ z
  have J3 : Inv X ((h1.objs.size, mwrap a) :: pins) σ H ⟨h1.push (mwrap a), g, d, t + 1, os⟩ := J2.pins_of fun p hp => by
    rcases List.mem_cons.mp hp with rfl | hp
    · refine ⟨gu, J1.hok.fresh (Nat.le_refl _), fun z => ?_, J1.nofs (Nat.le_refl _), fun v z => by cases z⟩
      have z' : h1.objs.size = X.env.locals := z
      have y := J1.lt
      rw [← z'] at y
      exact absurd y (Nat.lt_irrefl _)
    · exact J2.pin p (List.mem_append_right _ hp)
  show wpAny _ _ (callWith p3 (.ref h1.objs.size) [] (backTo p3 (starEach [e] X.env)) []) _ _ _
  have hq' : tCons te tNil σ H fun xs H1 => xs.length ≤ 1 ∧ H1 a = some (exo a C none) ∧ Q H1 := hq
  rw [hse]
  refine PySem.W.kxs_callWith (i := "ValueError.__init__") (x := a) (by rfl) ?_
  refine Calls.evalArgs_plain ?_
  have pr := (pa_cons he pa_nil hse).run p3 _ _ σ H _ J3 hq'
  rw [hse] at pr
  refine thn pr fun us s2 hh => ?_
  obtain ⟨xs, H2, I2, r2, hx1, ha2, hQ2⟩ := hh
  have gw := (I2.pin (h1.objs.size, mwrap a) (List.mem_append_right _ List.mem_cons_self)).1
  refine ⟨gw, ?_⟩
  obtain ⟨t2, hga2⟩ := exo_at I2.hok ha2
  obtain ⟨hp2, g2, d2, tk2, os2⟩ := s2
  have hul : us.length ≤ sizeLine := by
    rw [← r2.length, sizeLine_eq]
    omega
  refine call_wrap (us := us) (I2.kIn _ _ hC) hga2 gw hul fun h3 t3 k3' e3 => ?_
  have J4 := I2.write (t' := tk2) (x := a) (e := a) (o := exo a C none) (by rw [ha2]; exact True.intro) (.inl rfl) k3' ⟨_, e3⟩ (exo_ok e3)
  have eu : upd H2 a (exo a C none) = H2 := by
    funext b
    by_cases hb : b = a
    · rw [hb, upd_same, ha2]
    · exact upd_ne hb
  rw [eu] at J4
  exact ⟨H2, J4.pins_of fun p hp => J4.pin p (List.mem_append_right _ (List.mem_cons_of_mem _ hp)), hQ2⟩
end

/-! ### the making of an own error, as a promise -/
/-- at a an exception of the class at C is being made; the argument v goes to the field fl -/
def spErr (C : Addr) (fl : Str) (ok : V → Prop) : Sp := fun vs H Q _ => ∃ (a : Addr) (v : V), vs = [.ref a, v] ∧ H a = some (exo a C none) ∧ ok v ∧
  ∀ dx, H dx = none → dx ≠ a → Q .non (upd (upd H dx (exd dx [(fl, v)])) a (exo a C (some dx)))

def okInt : V → Prop := fun v => ∃ i : Int, v = .int i ∧ i.natAbs.log2 < 1920
def okTxt : V → Prop := fun v => ∃ y : Str, v = .str y ∧ (reprText y).length ≤ 10000

section
variable {P : Program} {w : World} {K : PySem.W.Frag} {mg : Str → Option Value} {base : Heap} {C f cda cc : Addr} {qual pn : Str} {st : Stmt} {N : List Str}

abbrev supNF (qual : Str) (st : Stmt) (cda cc : Addr) : NF := ⟨"__init__", qual, defArgs st, defBody st, defScope st, [("__class__", cc)], cda⟩

/-- a def that closes over __class__ alone, entered: its body runs in the frame of NdefX -/
theorem sup_fn {CX : CXT} {sp : Sp} {k : Nat} {ps : List Str} (T : ErrTxt P K mg C f cda cc qual st) (S : NScope N ps ["__class__"] (defScope st))
    (len : ∀ vs H Q E, sp vs H Q E → vs.length = ps.length)
    (hb : ∀ (oc : Value) (od an : Option Addr) (kV doc pm ct : Value) (us : List Value), us.length = ps.length →
      bindArgs (PySem.W.fnX "__init__" qual (defArgs st) (defBody st) (defScope st) [("__class__", cc)] .none kV doc pm an (.ref cda) ct) ⟨us, []⟩ = pure (ps.zip us))
    (hbody : ∀ (A : Around) (outer : List Env) (s : Shared) (H : Hp) (vs : List V) (Q : VK) (E : XK), sp vs H Q E → Room k (ncx CX P w K mg base N (supNF qual st cda cc) f A outer s H E).A →
      ∀ s1, L2.Inv (ncx CX P w K mg base N (supNF qual st cda cc) f A outer s H E) [] (startF N vs [none]) H s1 →
        _root_.PySem.wpAt (model P w) (ncx CX P w K mg base N (supNF qual st cda cc) f A outer s H E).A (.func (defBody st) (ncx CX P w K mg base N (supNF qual st cda cc) f A outer s H E).env)
          (execs (defBody st) (ncx CX P w K mg base N (supNF qual st cda cc) f A outer s H E).env)
          (SP (ncx CX P w K mg base N (supNF qual st cda cc) f A outer s H E) [] { nx := fun _ H' => Q .non H', rt := Q })
          (ncx CX P w K mg base N (supNF qual st cda cc) f A outer s H E).xe s1) :
    ∃ fd, FnOk P w K mg base CX (k + 1) f fd ps sp ∧ Binds K fd ps [] := by
  obtain ⟨oc, od, an, kV, doc, pm, ct, osl, lf⟩ := T.fn
  obtain ⟨oc2, lcell, dcell⟩ := T.cell
  refine ⟨_, ⟨len, fun A outer s H args us vs Q E hr e0 hbd r hsp => ?_⟩, Binds.all (hb oc od an kV doc pm ct)⟩
  have hl := len _ _ _ _ hsp
  have KX : K.In s.heap := e0.mod.kin.keeps fun b o e => (e0.bs b o e).1
  have lim : s.heap.NoLimit := e0.mod.nolimit.keeps fun b o e => (e0.bs b o e).1
  have hH : H cc = none := (e0.bs cc oc2 (e0.mod.kin _ _ lcell)).2
  have CA : CellsAt [("__class__", cc)] ["__class__"] [none] s.heap H := {
    len := rfl
    all := fun y c h => by
      have h' : (if y = ("__class__" : Str) then some cc else none) = some c := by
        by_cases e : y = ("__class__" : Str)
        · subst e; exact h
        · have q : (y == ("__class__" : Str)) = false := by simpa using e
          have z : List.lookup y [(("__class__" : Str), cc)] = none := by simp [List.lookup, q]
          rw [z] at h; cases h
      split at h'
      · cases h'
        exact ⟨hH, some (.ref C), oc2, KX _ _ lcell, dcell⟩
      · cases h'
    inj := fun x y c h1 h2 => by
      have key : ∀ z : Str, List.lookup z [(("__class__" : Str), cc)] = some c → z = "__class__" := fun z hz => by
        by_cases e : z = ("__class__" : Str)
        · exact e
        · have q : (z == ("__class__" : Str)) = false := by simpa using e
          have w : List.lookup z [(("__class__" : Str), cc)] = none := by simp [List.lookup, q]
          rw [w] at hz; cases hz
      exact (key x h1).trans (key y h2).symm
    has := fun i y h => by
      match i, h with
      | 0, h =>
        have e : ("__class__" : Str) = y := Option.some.inj h
        subst e
        exact ⟨cc, by simp [List.lookup], fun v z => by cases z⟩
      | i + 1, h => cases h }
  refine ks_codeAny_call_defAt (binds := ps.zip us) hr.depth (KX _ _ lf) rfl lim (PySem.W.codeRec_of KX T.code) rfl hbd S.nocell (fun ⟨n, _⟩ hy => S.par n (List.of_mem_zip hy).1) (fun h1 hns kp => ?_) S.co S.gen S.kind
  have I : L2.Inv (ncx CX P w K mg base N (supNF qual st cda cc) f A outer s H E) [] (startF N vs [none]) H { s with heap := h1, toks := s.toks + (ps.zip us).length } :=
    inv_startN S hr.hd e0 hl r CA hns kp
  refine _root_.PySem.wpAt_mono (hbody A outer s H vs Q E hsp (hr.deeper _) _ I) (fun fl s' hs => ?_) fun e s' hs => hs
  cases fl with
  | ret u =>
    obtain ⟨v, σ', H', J, rv, q⟩ := hs
    exact ⟨v, H', J.os, J.bare, J.base, J.hok, rv, q⟩
  | next =>
    obtain ⟨σ', H', J, q⟩ := hs
    exact ⟨V.non, H', J.os, J.bare, J.base, J.hok, rfl, q⟩
  | brk =>
    obtain ⟨_, _, _, q⟩ := hs
    exact False.elim q
  | cont =>
    obtain ⟨_, _, _, q⟩ := hs
    exact False.elim q
end

section
variable {P : Program} {w : World} {K : PySem.W.Frag} {mg : Str → Option Value} {base : Heap} {C f cda cc : Addr} {qual pn : Str} {st : Stmt} {N : List Str}

/-- the body: super().__init__(e), then one statement more -/
theorem two_run {X : Cx} {σ : L2.St} {H : Hp} {s : Shared} {a : Addr} {e : Expr} {te : TE} {t2 : TS} {st2 : Stmt} {body : List Stmt} {p0 p1 p2 p3 p4 : Pos} {scope : Scope} {ar : Arg} {D : Ends}
    (T : ErrTxt X.prog X.K X.mg C f cda cc qual st) (I : L2.Inv X [] σ H s)
    (henv : X.env = PySem.W.envX qual scope X.env.locals f (.ref cda) [("__class__", cc)])
    (hks : scope.names.lookup ("super" : Str) = some .globalImplicit) (hkc : scope.names.lookup ("__class__" : Str) = some .free)
    (hka : scope.names.lookup ar.arg = some .local)
    (har : ((defArgs st).posonlyargs ++ (defArgs st).args).head? = some ar)
    (h0 : X.N[0]? = some ar.arg) (hs0 : σ[0]? = some (some (V.ref a))) (ha : H a = some (exo a C none))
    (he : PE X e te) (h2 : PS X st2 t2) (hq : te σ H fun x H1 => [x].length ≤ 1 ∧ H1 a = some (exo a C none) ∧ t2 D σ H1) {pl : Sem Bool}
    (hform : eval (.Call (.Attribute (.Call (.Name "super" p0) [] [] p1) "__init__" p2) [e] [] p3) X.env = (do
      let ov ← attributeBase (.Call (.Name "super" p0) [] [] p1) "__init__" X.env (eval (.Call (.Name "super" p0) [] [] p1) X.env)
      standAt p2.atName
      let (g, first) ← holding [ov] (getMethod ov "__init__" pl)
      callWith p3 g first (backTo p3 (starEach [e] X.env)) []) := by rfl)
    (hse : starEach [e] X.env = (false, eval e X.env) :: starEach [] X.env := by rfl) (hi : interactive X.env = false := by rfl) :
    _root_.PySem.wpAt (model X.prog X.w) X.A (.func body X.env)
      (execs [.Expr (.Call (.Attribute (.Call (.Name "super" p0) [] [] p1) "__init__" p2) [e] [] p3) p4, st2] X.env) (SP X [] D) X.xe s := by
  refine ks_wpAt_execs_cons (ks_wpAt_Expr_any ?_ hi)
  refine _root_.PySem.wpAt_mono (super_init (Q := fun H1 => t2 D σ H1) T I henv hks hkc hka har h0 hs0 ha he hq hform hse) (fun v s' hh => ?_) fun _ _ z => z
  obtain ⟨H1, I1, q⟩ := hh
  exact _root_.PySem.wpAt_of_wpAny ((pss_one h2).run [] s' σ H1 D I1 q)

theorem form_of (env : Env) {p0 p1 p2 p3 q4 : Pos} {ps : List Expr} (hln : (p2.endLine == p3.line) = true) : eval (.Call (.Attribute (.Call (.Name "super" p0) [] [] p1) "__init__" p2) [.JoinedStr ps q4] [] p3) env = (do
      let ov ← attributeBase (.Call (.Name "super" p0) [] [] p1) "__init__" env (eval (.Call (.Name "super" p0) [] [] p1) env)
      standAt p2.atName
      let (g, first) ← holding [ov] (getMethod ov "__init__" (do return (← importBound (.Call (.Name "super" p0) [] [] p1) env).getD true))
      callWith p3 g first (backTo p3 (starEach [.JoinedStr ps q4] env)) []) := by
  have hp : methodCallPos true (.Call (.Name "super" p0) [] [] p1) env p2 p3 = pure p3 := by
    unfold methodCallPos
    rw [hln]
    rfl
  show (do
    let ov ← attributeBase (.Call (.Name "super" p0) [] [] p1) "__init__" env (eval (.Call (.Name "super" p0) [] [] p1) env)
    standAt p2.atName
    let (g, first) ← holding [ov] (getMethod ov "__init__" (do return (← importBound (.Call (.Name "super" p0) [] [] p1) env).getD true))
    let cp ← methodCallPos true (.Call (.Name "super" p0) [] [] p1) env p2 p3
    callWith cp g first (backTo p3 (starEach [.JoinedStr ps q4] env)) []) = _
  rw [hp]
  rfl
theorem lit_small {lit : Str} (hl : lit.length ≤ 1000) : (Str.empty ++ lit).length ≤ 1000 := by
  rw [Str.length_append]
  exact Nat.le_trans (Nat.le_of_eq (Nat.zero_add _)) hl
theorem err_int {lit : Str} {j : Nat} {q1 q2 q3 q4 p0 p1 p2 p3 p4 r1 r2 r3 r4 : Pos} {ar : Arg} (T : ErrTxt P K mg C f cda cc qual st)
    (hbd : defBody st = [.Expr (.Call (.Attribute (.Call (.Name "super" p0) [] [] p1) "__init__" p2) [.JoinedStr [.Constant (.str lit) j q1, .FormattedValue (.Name pn q2) (-1) none q3] q4] [] p3) p4,
      .Assign [.Attribute (.Name "self" r1) pn r2] (.Name pn r3) r4]) (hln : (p2.endLine == p3.line) = true)
    (S : NScope ["self", pn, "__class__"] ["self", pn] ["__class__"] (defScope st))
    (hb : ∀ (oc : Value) (od an : Option Addr) (kV doc pm ct : Value) (us : List Value), us.length = 2 →
      bindArgs (PySem.W.fnX "__init__" qual (defArgs st) (defBody st) (defScope st) [("__class__", cc)] .none kV doc pm an (.ref cda) ct) ⟨us, []⟩ = pure ((["self", pn] : List Str).zip us))
    (hks : (defScope st).names.lookup ("super" : Str) = some .globalImplicit)
    (har : ((defArgs st).posonlyargs ++ (defArgs st).args).head? = some ar) (har2 : ar.arg = "self")
    (hd1 : (pn == ("__debug__" : Str)) = false) (hd2 : (pn == ("__classdict__" : Str)) = false)
    (hlit : lit.length ≤ 1000) (hno : PySem.W.findIn K (.ref C) pn = some none) :
    ∃ fd, FnOk P w K mg base CX0 2 f fd ["self", pn] (spErr C pn okInt) ∧ Binds K fd ["self", pn] [] := by
  refine sup_fn T S (fun vs H Q E h => ?_) hb fun A outer s H vs Q E hsp hroom s1 I => ?_
  · obtain ⟨a, v, rfl, _⟩ := h
    rfl
  · obtain ⟨a, v, rfl, ha, ⟨i, rfl, hi⟩, hQ⟩ := hsp
    have vN : Vis (ncx CX0 P w K mg base ["self", pn, "__class__"] (supNF qual st cda cc) f A outer s H E).env.scope pn := .inl (S.par _ (by simp))
    have vS : Vis (ncx CX0 P w K mg base ["self", pn, "__class__"] (supNF qual st cda cc) f A outer s H E).env.scope "self" := .inl (S.par _ (by simp))
    rw [hbd]
    refine two_run (te := fun σ H Q => tJs [tC (.str lit), tFmt (tVar 1)] Str.empty σ H fun out H1 => Q (.str out) H1) T I rfl hks (S.frk _ (by simp)) (by rw [har2]; exact S.par _ (by simp)) har (by rw [har2]; rfl) rfl ha
      (pe_joined (.cons pe_str (.cons (pe_fmt (pe_var (i := 1) rfl vN hd1 hd2)) .nil)))
      (ps_ost (pe_var (i := 0) rfl vS) (pe_var (i := 1) rfl vN hd1 hd2)) ?_ (form_of _ hln) (by rfl) (by show ((defScope st).kind == _ && _) = false; rw [S.kind]; rfl)
    have e0 := lit_small hlit
    have e1 := int_text_length_le (k := 1920) (by decide) hi
    refine ⟨lit, rfl, by rw [sizeLine_eq]; omega, _, rfl, .inr ⟨i, rfl, hi, Str.ofString (toString i), rfl, ?_, Nat.le_refl _, ha, ?_⟩⟩
    · rw [Str.length_append, PySem.ofString_length, sizeLine_eq]
      omega
    · exact ⟨_, rfl, _, rfl, a, C, rfl, T.oex, hno, .inl ⟨ha, fun dx h1 h2 => hQ dx h1 h2⟩⟩
/-- the same where the argument is a text, shown by its repr -/
theorem err_txt {lit : Str} {j : Nat} {q1 q2 q3 q4 p0 p1 p2 p3 p4 r1 r2 r3 r4 : Pos} {ar : Arg} (T : ErrTxt P K mg C f cda cc qual st)
    (hbd : defBody st = [.Expr (.Call (.Attribute (.Call (.Name "super" p0) [] [] p1) "__init__" p2) [.JoinedStr [.Constant (.str lit) j q1, .FormattedValue (.Name pn q2) 114 none q3] q4] [] p3) p4,
      .Assign [.Attribute (.Name "self" r1) pn r2] (.Name pn r3) r4]) (hln : (p2.endLine == p3.line) = true)
    (S : NScope ["self", pn, "__class__"] ["self", pn] ["__class__"] (defScope st))
    (hb : ∀ (oc : Value) (od an : Option Addr) (kV doc pm ct : Value) (us : List Value), us.length = 2 →
      bindArgs (PySem.W.fnX "__init__" qual (defArgs st) (defBody st) (defScope st) [("__class__", cc)] .none kV doc pm an (.ref cda) ct) ⟨us, []⟩ = pure ((["self", pn] : List Str).zip us))
    (hks : (defScope st).names.lookup ("super" : Str) = some .globalImplicit)
    (har : ((defArgs st).posonlyargs ++ (defArgs st).args).head? = some ar) (har2 : ar.arg = "self")
    (hd1 : (pn == ("__debug__" : Str)) = false) (hd2 : (pn == ("__classdict__" : Str)) = false)
    (hlit : lit.length ≤ 1000) (hno : PySem.W.findIn K (.ref C) pn = some none) :
    ∃ fd, FnOk P w K mg base CX0 2 f fd ["self", pn] (spErr C pn okTxt) ∧ Binds K fd ["self", pn] [] := by
  refine sup_fn T S (fun vs H Q E h => ?_) hb fun A outer s H vs Q E hsp hroom s1 I => ?_
  · obtain ⟨a, v, rfl, _⟩ := h
    rfl
  · obtain ⟨a, v, rfl, ha, ⟨y, rfl, hy⟩, hQ⟩ := hsp
    have vN : Vis (ncx CX0 P w K mg base ["self", pn, "__class__"] (supNF qual st cda cc) f A outer s H E).env.scope pn := .inl (S.par _ (by simp))
    have vS : Vis (ncx CX0 P w K mg base ["self", pn, "__class__"] (supNF qual st cda cc) f A outer s H E).env.scope "self" := .inl (S.par _ (by simp))
    rw [hbd]
    refine two_run (te := fun σ H Q => tJs [tC (.str lit), tFmtR (tVar 1)] Str.empty σ H fun out H1 => Q (.str out) H1) T I rfl hks (S.frk _ (by simp)) (by rw [har2]; exact S.par _ (by simp)) har (by rw [har2]; rfl) rfl ha
      (pe_joined (.cons pe_str (.cons (pe_fmtR (pe_var (i := 1) rfl vN hd1 hd2)) .nil)))
      (ps_ost (pe_var (i := 0) rfl vS) (pe_var (i := 1) rfl vN hd1 hd2)) ?_ (form_of _ hln) (by rfl) (by show ((defScope st).kind == _ && _) = false; rw [S.kind]; rfl)
    have e0 := lit_small hlit
    refine ⟨lit, rfl, by rw [sizeLine_eq]; omega, _, rfl, .inl ⟨y, rfl, by rw [sizeLine_eq]; omega, reprText y, rfl, ?_, Nat.le_refl _, ha, ?_⟩⟩
    · rw [Str.length_append, sizeLine_eq]
      omega
    · exact ⟨_, rfl, _, rfl, a, C, rfl, T.oex, hno, .inl ⟨ha, fun dx h1 h2 => hQ dx h1 h2⟩⟩
end

/-! ### an own error, ready to be raised and caught -/
structure ErrOk (P : Program) (w : World) (K : PySem.W.Frag) (mg : Str → Option Value) (base : Heap) (nm : Str) (C : Addr) (fl : Str) (ok : V → Prop) : Prop where
  oex : OexC K C
  xf : XfC K C
  g : mg nm = some (.ref C)
  no : PySem.W.findIn K (.ref C) fl = some none
  te : PySem.W.exmOne K (.ref C) (.ref C) = some true
  run : ∃ (f : Addr) (fd : FuncData), PySem.W.findIn K (.ref C) "__init__" = some (some (.ref f)) ∧ PySem.W.typeIn K (.ref f) = some (.type "function") ∧
    FnOk P w K mg base CX0 2 f fd ["self", fl] (spErr C fl ok) ∧ Binds K fd ["self", fl] []

section
variable {X : Cx} {nm : Str} {C : Addr} {fl : Str} {ok : V → Prop} {e : Expr} {ta : TA} {p pos pos2 : Pos} {W : WX}
/-- raise nm(e) -/
def tErr (C : Addr) (fl : Str) (ok : V → Prop) (ta : TA) (W : WX) : TS := fun _ σ H => tMkO C (spErr C fl ok) [] ta σ H fun cls d H' => W cls d σ H'
theorem ps_err (R : ErrOk X.prog X.w X.K X.mg X.base nm C fl ok) (hc : X.calm = true) (tk : Takes X W) (hr : Room 3 X.A) (ha : PA X [e] ta) (hg : Gl X nm)
    (hdb : (nm == ("__debug__" : Str)) = false := by decide) (he : starEach [e] X.env = (false, eval e X.env) :: starEach [] X.env := by rfl) (hpl : (backTo pos (starEach [] X.env)).any (·.1) = false := by rfl) :
    PS X (.Raise (some (.Call (.Name nm p) [e] [] pos)) none pos2) (tErr C fl ok ta W) := by
  obtain ⟨f, fd, h1, h2, h3, h4⟩ := R.run
  exact ps_raise hc tk (pmk_oex R.oex h1 h2 h3 hr h4 .nil pass0 hg R.g ha hdb he hpl)
/-- what such a raise asks: the argument is fit, and every way out is met -/
theorem err_way {H1 : Hp} {v : V} {Q : XK} (hv : ok v) (h : ∀ d, H1 d = none → Q (.ref C) (some d) (upd H1 d (.xd [(fl, v)]))) :
    [v].length ≤ 1000 ∧ ∀ a, H1 a = none → spErr C fl ok (.ref a :: ([v] ++ [])) (upd H1 a (exo a C none))
      (fun r H2 => r = .non ∧ ∃ (d : Addr) (fs : List (Str × V)), H2 a = some (exo a C (some d)) ∧ H2 d = some (exd d fs) ∧ H1 d = none ∧ Q (.ref C) (some d) (upd (del H2 a) d (.xd fs))) (fun _ _ _ => False) := by
  refine ⟨by show 1 ≤ 1000; omega, fun a hn => ⟨a, v, rfl, upd_same, hv, fun dx hdx hne => ⟨rfl, dx, _, upd_same, by rw [upd_ne hne, upd_same], ?_, ?_⟩⟩⟩
  · rw [upd_ne hne] at hdx
    exact hdx
  · have hd1 : H1 dx = none := by
      rw [upd_ne hne] at hdx
      exact hdx
    have e : upd (del (upd (upd (upd H1 a (exo a C none)) dx (exd dx [(fl, v)])) a (exo a C (some dx))) a) dx (.xd [(fl, v)]) = upd H1 dx (.xd [(fl, v)]) := by
      funext b
      by_cases hb : b = dx
      · rw [hb, upd_same, upd_same]
      · rw [upd_ne hb, upd_ne hb]
        by_cases hba : b = a
        · rw [hba, del_same, hn]
        · rw [del_ne hba, upd_ne hba, upd_ne hb, upd_ne hba]
    rw [e]
    exact h dx hd1
end
end Sup

/-! The text of a list, whatever is under way: some text of bounded length. -/
namespace Txs
open PySem PySem.Spec PyProof.Rows
section
variable {prog : Program} {w : World}
/-- the text of an item: some text of at most m signs; what stands in h0 is kept by whoever asks -/
def Tx (prog : Program) (w : World) (h0 : Heap) (m : Nat) (x : Value) : Prop :=
  ∀ (b : Nat), b + m ≤ sizeLine → ∀ (A : Around) (E : Value → Shared → Prop) (s : Shared) (Q : Str → Shared → Prop), A.units + 4 < cLine →
    (∀ c o, h0.get? c = some o → s.heap.get? c = some o) → (∀ (t : Str) (tk : Tok), t.length ≤ m → Q t { s with toks := tk }) → wpAny (model prog w) A (pyReprUnder b x) Q E s
theorem Tx.int {h0 : Heap} {i : Int} (t : Tok) (hi : i.natAbs.log2 < 1920) : Tx prog w h0 1921 (.int i t) := by
  intro b hb A E s Q _ _ h
  have e := int_text_length_le (k := 1920) (by decide) hi
  have e2 : (Str.ofString (toString i)).length ≤ 1921 := by rw [PySem.ofString_length]; exact e
  exact ReprIs.int t hi b (by omega) A E s Q fun tk => h _ tk e2
theorem Tx.mono {h0 : Heap} {m n : Nat} {x : Value} (T : Tx prog w h0 m x) (hmn : m ≤ n) : Tx prog w h0 n x := fun b hb A E s Q hu hk h =>
  T b (by omega) A E s Q hu hk fun t tk ht => h t tk (by omega)
theorem way_len : ("(...)" : Str).length ≤ 5 := by decide +kernel
/-- a tuple of things whose texts are settled -/
theorem Tx.tup {h0 : Heap} {a : Addr} {o : Obj} {items : Array Value} {n : Nat} {ts : List Str} (ha : h0.get? a = some o) (hc : o.cls = .type "tuple") (hd : o.data = .seq items n) (hT : ReprAll prog w items.toList ts) :
    Tx prog w h0 ((tupleText ts).length + 5) (.ref a) := by
  intro b hb A E s Q hu hk h
  have ha' := hk _ _ ha
  refine wpAny_pyReprUnder_ref (by omega) (wpAny_pyReprObjUnder_twin (T := "tuple") (twin := "tuple.__repr__.under") ⟨o, ha', hc⟩ F.slot_tuple_repr rfl (by omega) ?_)
  refine call_twin_own (F.quiet_tuple_repr_under _) F.entry_tuple_repr_under F.check_tuple_repr_under ⟨o, ha', hc⟩ F.slot_tuple_repr (F.args_tuple_repr_1 _) (wpOwn_of_wpAny ?_)
  show wpAny _ _ (Builtin.tupleReprAt b ⟨[.ref a], []⟩) _ _ s
  rw [tuple_repr_tree]
  refine wpAny_bind (fmt_underWay fun c => ?_)
  cases c with
  | true =>
    refine PySem.W.KFB.if_so rfl (wpAny_bind (wpAny_rule (wpAny_bind (wpAny_mkStr (wpAny_pure ?_) (by decide +kernel)))))
    exact ⟨⟨_, _, rfl⟩, _, _, rfl, h "(...)" _ (Nat.le_trans way_len (Nat.le_add_left _ _))⟩
  | false =>
    refine PySem.W.KFB.if_not rfl (wpAny_tupleReprRest ha' hd hT (fun u tk => ?_) (by omega))
    exact ⟨⟨_, _, rfl⟩, _, _, rfl, h (tupleText ts) tk (Nat.le_add_right _ _)⟩
theorem piled_le {m : Nat} : ∀ {ts : List Str}, (∀ t ∈ ts, t.length ≤ m) → piled ts ≤ (m + 2) * ts.length
  | [], _ => Nat.zero_le _
  | t :: ts, h => by
    have h1 := h t List.mem_cons_self
    have h2 := piled_le (ts := ts) fun u hu => h u (List.mem_cons_of_mem _ hu)
    rw [piled_cons, List.length_cons, Nat.mul_succ]
    omega
theorem listText_le : ∀ ts : List Str, (listText ts).length ≤ piled ts + 2
  | [] => by
    show (listText []).length ≤ 2
    rw [listText_nil]
    decide +kernel
  | t :: r => by
    have h := textFrom_length_pos r 1 (("[" : Str) ++ (if (0 : Nat) > 0 then ", " else "" : String) ++ t) (Nat.succ_pos 0)
    have e : ((("[" : Str) ++ (if (0 : Nat) > 0 then ", " else "" : String) ++ t)).length = 1 + t.length := by
      rw [strLen_append, strLen_append]; rfl
    have e3 : (listText (t :: r)).length = (textFrom 1 (("[" : Str) ++ (if (0 : Nat) > 0 then ", " else "" : String) ++ t) r).length + 1 := by
      show (textFrom 1 _ r ++ "]").length = _
      rw [strLen_append]; rfl
    rw [e3, h, e, piled_cons]
    omega
variable {A : Around} {R : Result → Shared → Prop}
theorem units_loop (A : Around) (args : Args) : (A.under (.builtin "list.__repr__.loop" args)).units ≤ A.units + 1 := by
  have e : (A.under (.builtin "list.__repr__.loop" args)).units = A.units + 1 ∨ (A.under (.builtin "list.__repr__.loop" args)).units = A.units := by
    first
      | exact .inl rfl
      | exact .inr rfl
      | simp [Around.under, Code.cUnits, Code.frames, Code.isFrame]
  rcases e with e | e <;> omega
theorem run_loop {h0 : Heap} {a Pa : Addr} {items : Array Value} {m b : Nat} (hP0 : h0.get? Pa = none) (hT : ∀ (i : Nat) (x : Value), items[i]? = some x → Tx prog w h0 m x)
    (hsz : b + ((m + 2) * items.size + 2 + m) ≤ sizeLine) (hu : A.units + 5 < cLine) {oa : Obj} {na : Nat} (ha : h0.get? a = some oa) (hda : oa.data = .seq items na) :
    ∀ (k i : Nat) (s : Shared) (acc : Array Value) (c : Nat) (done : List (Str × Tok)), items.size - i = k → i ≤ items.size → (∀ c o, h0.get? c = some o → s.heap.get? c = some o) →
    s.heap.get? Pa = some { cls := .type "list", dict := none, data := .seq acc c, slots := #[] } → acc.toList = strValues done → done.length = i → (∀ p ∈ done, p.1.length ≤ m) →
    (∀ h' (t : Str) u tk, t.length ≤ (m + 2) * items.size + 2 → (∀ b o, b ≠ Pa → s.heap.get? b = some o → h'.get? b = some o) → R (.ok (.ret (.str t u))) { s with heap := h', toks := tk }) →
    codeAny (model prog w) A (.builtin "list.__repr__.loop" ⟨[.ref a, rawInt i, .ref Pa, rawInt ((b + piled (done.map (·.1)) : Nat) : Int)], []⟩) R s := by
  intro k
  induction k with
  | zero =>
    intro i s acc c done hk hi hk0 hP hacc hdone hm hR
    have hin : i = items.size := by omega
    refine codeAny_builtin F.entry_list_repr_loop ?_
    show wpAny _ _ (Builtin.«list.__repr__.loop» ⟨[.ref a, .int i 0, .ref Pa, .int ((b + piled (done.map (·.1)) : Nat) : Int) 0], []⟩) _ _ s
    rw [repr_loop_tree]
    refine wpAny_bind (wpAny_listItems (hk0 _ _ ha) hda ?_)
    have hnone : items[(i : Int).toNat]? = none := by simp [hin]
    simp only [hnone]
    unfold reprEnd
    refine wpAny_bind (wpAny_listItems hP rfl ?_)
    rw [hacc, repr_fold]
    have hpl := piled_le (m := m) (ts := done.map (·.1)) fun t ht => by
      obtain ⟨p, hp, rfl⟩ := List.mem_map.mp ht
      exact hm p hp
    have hlt := listText_le (done.map (·.1))
    rw [List.length_map, hdone, hin] at hpl
    refine wpAny_bind (wpAny_pure (wpAny_bind (wpAny_mkStr (wpAny_pure ?_) (show (listText (done.map (·.1))).length ≤ sizeLine by omega))))
    exact hR s.heap (listText (done.map (·.1))) _ _ (by omega) (fun _ _ _ e => e)
  | succ k ih =>
    intro i s acc c done hk hi hk0 hP hacc hdone hm hR
    have hlt : i < items.size := by omega
    have hrep := hT i items[i] (by simp [hlt])
    have hpl := piled_le (m := m) (ts := done.map (·.1)) fun t ht => by
      obtain ⟨p, hp, rfl⟩ := List.mem_map.mp ht
      exact hm p hp
    rw [List.length_map, hdone] at hpl
    have hmul : (m + 2) * i ≤ (m + 2) * items.size := Nat.mul_le_mul_left _ hi
    refine codeAny_builtin F.entry_list_repr_loop ?_
    show wpAny _ _ (Builtin.«list.__repr__.loop» ⟨[.ref a, .int i 0, .ref Pa, .int ((b + piled (done.map (·.1)) : Nat) : Int) 0], []⟩) _ _ s
    rw [repr_loop_tree]
    refine wpAny_bind (wpAny_listItems (hk0 _ _ ha) hda ?_)
    have hsome : items[(i : Int).toNat]? = some items[i] := by simp [hlt]
    simp only [hsome]
    rw [Int.toNat_natCast]
    have hul := units_loop A ⟨[.ref a, .int i 0, .ref Pa, .int ((b + piled (done.map (·.1)) : Nat) : Int) 0], []⟩
    refine wpAny_bind (wpAny_holding (hrep (b + piled (done.map (·.1)) + 1) (by omega) _ _ _ _ (Nat.lt_of_le_of_lt (Nat.add_le_add_right hul 4) (by omega)) hk0 fun t tk ht => ?_))
    refine wpAny_bind (wpAny_mkStr ?_ (show t.length ≤ sizeLine by omega))
    refine wpAny_bind ?_
    show wpAny _ _ (updateSeq Pa _) _ _ _
    have hasz : acc.size ≤ sizeLine := by
      have e1 : acc.toList.length = acc.size := by simp
      have e2 : (strValues done).length = done.length := by simp [strValues]
      have e3 : i ≤ (m + 2) * items.size := Nat.le_trans hi (Nat.le_mul_of_pos_left _ (by omega))
      rw [hacc] at e1; omega
    refine wpAny_updateSeq hP rfl (wpAny_pure ⟨F.quiet_list_repr_loop _, ?_⟩) hasz
    have e1 : ((i : Int) + 1) = ((i + 1 : Nat) : Int) := by omega
    have e2 : b + piled (done.map (·.1)) + (t.length + 2) = b + piled ((done ++ [(t, tk)]).map (·.1)) := by
      rw [List.map_append, piled_append]
      simp [piled]
      omega
    rw [e1]
    show codeAny _ _ (.builtin "list.__repr__.loop" ⟨[.ref a, rawInt ((i + 1 : Nat) : Int), .ref Pa, rawInt ((b + piled (done.map (·.1)) + (t.length + 2) : Nat) : Int)], []⟩) _ _
    rw [e2]
    have nP : ∀ c o, h0.get? c = some o → Pa ≠ c := fun c o e z => by
      rw [z, e] at hP0
      cases hP0
    refine ih (i + 1) _ (acc.push (.str t tk)) _ (done ++ [(t, tk)]) (by omega) hlt (fun c o e => (Heap.get?_update_other _ _ (nP c o e)).trans (hk0 c o e)) (Heap.get?_update_self _ hP rfl) (by simp [hacc, strValues]) (by rw [List.length_append, hdone]; rfl)
      (fun p hp => ?_) fun h' t' u tk' ht' hh => ?_
    · rcases List.mem_append.mp hp with z | z
      · exact hm p z
      · rw [List.mem_singleton.mp z]
        exact ht
    · exact hR h' t' u tk' ht' fun b o hb e => hh b o hb ((Heap.get?_update_other _ _ (fun z : Pa = b => hb z.symm)).trans e)
end
section
variable {prog : Program} {w : World} {A : Around} {E : Value → Shared → Prop} {s : Shared}
/-- {xs}, a list: some text -/
theorem fmt_list {a : Addr} {items : Array Value} {n m : Nat} {Q : Value → Shared → Prop} (hu : A.units + 8 < cLine) (ha : s.heap.get? a = some { cls := .type "list", data := .seq items n })
    (hT : ∀ (i : Nat) (x : Value), items[i]? = some x → Tx prog w s.heap m x) (hsz : (m + 2) * items.size + 2 + m ≤ sizeLine)
    (h : ∀ h' (t : Str) (u : Tok) tk, t.length ≤ (m + 2) * items.size + 5 → (∀ b o, s.heap.get? b = some o → h'.get? b = some o) → Q (.str t u) { s with heap := h', toks := tk }) : wpAny (model prog w) A (formatField (.ref a) Str.empty) Q E s := by
  refine wpAny_formatField_slot (T := "list") (idr := "list.__repr__") (fun _ _ => nofun) (by omega) ⟨_, ha, rfl⟩ F.slot_list_format F.slot_list_str F.slot_list_repr.toG ?_
  have hs0 : ({ s with toks := s.toks + 1 } : Shared).heap = s.heap := rfl
  refine wpAny_call (codeAny_call_builtin F.slot_list_repr.plain F.entry_list_repr (F.slot_list_repr.check _ _ _ _ _ _ _ _ ⟨_, ha, rfl⟩ (F.args_list_repr_1 _) ?_))
  show wpAny _ _ (Builtin.listReprAt 0 ⟨[.ref a], []⟩) _ _ { s with toks := s.toks + 1 }
  have fin : ∀ h' (t : Str) (u : Tok) tk, t.length ≤ (m + 2) * items.size + 5 → (∀ b o, s.heap.get? b = some o → h'.get? b = some o) → ∃ x t', Value.str t u = .str x t' ∧ Q (.str t u) { s with heap := h', toks := tk } :=
    fun h' t u tk h1 h2 => ⟨t, u, rfl, h h' t u tk h1 h2⟩
  unfold Builtin.listReprAt
  refine wpAny_bind (wpAny_of_eq (a := (Value.ref a, ([] : List Value))) (by first | rfl | (simp only [slotArgs]; rfl)) ?_)
  show wpAny _ _ (Builtin.List.listItems (.ref a) >>= _) _ _ { s with toks := s.toks + 1 }
  refine wpAny_bind (wpAny_listItems (s := { s with toks := s.toks + 1 }) ha rfl ?_)
  by_cases he : items.isEmpty = true
  · refine PySem.W.KFB.if_so he (wpAny_bind (wpAny_rule ?_))
    refine wpAny_bind (wpAny_mkStr (wpAny_pure ?_) (by decide +kernel))
    exact fin s.heap _ _ _ (Nat.le_trans (by decide +kernel : ("[]" : Str).length ≤ 5) (Nat.le_add_left _ _)) fun _ _ e => e
  · refine PySem.W.KFB.if_not (by simpa using he) ?_
    refine wpAny_bind (wpAny_stack_any fun st => ?_)
    dsimp only
    refine wpAny_ite_split (fun _ => ?_) (fun _ => ?_)
    · refine wpAny_bind (wpAny_rule ?_)
      refine wpAny_bind (wpAny_mkStr (wpAny_pure ?_) (by decide +kernel))
      exact fin s.heap _ _ _ (Nat.le_trans (by decide +kernel : ("[...]" : Str).length ≤ 5) (Nat.le_add_left _ _)) fun _ _ e => e
    · refine wpAny_bind (m := newList []) (wpAny_newObj_type ?_)
      refine wpAny_pure ⟨F.quiet_list_repr_loop _, ?_⟩
      have q := run_loop (prog := prog) (w := w) (A := A.in1.in1) (h0 := s.heap) (a := a) (Pa := s.heap.objs.size) (items := items) (m := m) (b := 0) (R := fun r s' => match r with
          | .ok (.ret v) => ∃ x t, v = Value.str x t ∧ Q v s'
          | .ok _ => False
          | .error e => E e s') (Heap.get?_none_of_le (Nat.le_refl _)) hT (by omega) (by show A.units + 2 + 5 < cLine; omega) ha rfl items.size 0
          { s with heap := s.heap.push { cls := .type "list", data := .seq #[] }, toks := s.toks + 1 } #[] 0 [] (by omega) (by omega) (fun c o e => Heap.get?_push_of_some _ e) (Heap.get?_push_size _ rfl) rfl rfl (fun p hp => absurd hp (by simp)) ?_
      · exact q
      · intro h' t u tk ht hk
        exact fin h' t u tk (by omega) fun b o e => hk b o (Nat.ne_of_lt (Heap.lt_size e)) (Heap.get?_push_of_some _ e)
end
end Txs
namespace Sup
open PySem PySem.Spec PyProof.Rows L2
/-- what a shown list may hold: whole numbers, tuples of whole numbers -/
def Shown (H : Hp) (xs : List V) : Prop := ∀ v ∈ xs, (∃ i : Int, v = .int i ∧ i.natAbs.log2 < 1920) ∨ ∃ (t : Addr) (ns : List Int), v = .ref t ∧ H t = some (.tup (ns.map V.int)) ∧ ns.length ≤ 10 ∧ ∀ i ∈ ns, i.natAbs.log2 < 1920
theorem reprs_int {prog : Program} {w : World} : ∀ {ns : List Int} {its : List Value}, Vals (ns.map V.int) its → (∀ i ∈ ns, i.natAbs.log2 < 1920) → ReprAll prog w its (ns.map fun i => Str.ofString (toString i))
  | [], _, r, _ => by
    cases r
    exact .nil
  | i :: ns, _, r, h => by
    cases r with
    | cons r1 r2 =>
      obtain ⟨t, rfl⟩ := r1
      exact .cons (ReprIs.int t (h i List.mem_cons_self)) (reprs_int r2 fun z hz => h z (List.mem_cons_of_mem _ hz))
def tFmtL (te : TE) : TE := fun σ H Q => te σ H fun x H1 => ∃ (a : Addr) (xs : List V), x = .ref a ∧ H1 a = some (.lst xs) ∧ xs.length ≤ 60 ∧ Shown H1 xs ∧ ∀ y : Str, y.length ≤ 2000000 → Q (.str y) H1
theorem pe_fmtL {X : Cx} {e : Expr} {te : TE} {pos : Pos} (hu : X.A.units + 64 < cLine) (he : PE X e te) : PE X (.FormattedValue e (-1) none pos) (tFmtL te) := by
  refine ⟨fun pins s σ H Q I h => ?_⟩
  refine wpAny_FormattedValue_plain (thn (he.run pins s σ H _ I h) fun v s1 hv => ?_)
  obtain ⟨x, H1, I1, r1, a, xs, rfl, ht, hlen, hsh, q⟩ := hv
  cases r1
  obtain ⟨_, its, n, rv, ho⟩ := (show ObjOk X.prog X.w H1 s1.heap a (.lst xs) from I1.hok a _ ht)
  have hl : its.length = xs.length := rv.length.symm
  have hsz : (20000 + 2) * its.toArray.size + 2 + 20000 ≤ sizeLine := by
    rw [List.size_toArray, hl, sizeLine_eq]
    omega
  refine Txs.fmt_list (m := 20000) (by omega) ho (fun i y hy => ?_) hsz fun h' t u tk htl hk => ⟨.str t, H1, I1.kept hk, ⟨u, rfl⟩, q t ?_⟩
  · have hy' : its[i]? = some y := by simpa using hy
    have hi : i < xs.length := by
      rw [← hl]
      exact (List.getElem?_eq_some_iff.mp hy').1
    obtain ⟨u, hu', ru⟩ := rv.get (List.getElem?_eq_getElem hi)
    rw [hy'] at hu'
    obtain rfl := Option.some.inj hu'
    rcases hsh _ (List.getElem_mem hi) with ⟨j, ej, hj⟩ | ⟨t, ns, et, htt, h10, hns⟩
    · rw [ej] at ru
      obtain ⟨tk, rfl⟩ := ru
      exact (Txs.Tx.int tk hj).mono (by decide)
    · rw [et] at ru
      obtain rfl : y = Value.ref t := ru
      obtain ⟨its2, r2, ⟨o, ho2, hc2, n2, hd2⟩, _⟩ := I1.tuple (.inl (.inl htt))
      have T := Txs.Tx.tup (prog := X.prog) (w := X.w) (h0 := s1.heap) ho2 hc2 hd2 (reprs_int r2 hns)
      refine T.mono ?_
      have h1 := fmt_text (ns.map fun i => Str.ofString (toString i))
      have h2 := Txs.piled_le (m := 1921) (ts := ns.map fun i => Str.ofString (toString i)) fun z hz => by
        obtain ⟨i, hi, rfl⟩ := List.mem_map.mp hz
        have e := int_text_length_le (k := 1920) (by decide) (hns i hi)
        rw [PySem.ofString_length]
        exact e
      rw [List.length_map] at h2
      have h3 : (1921 + 2) * ns.length ≤ (1921 + 2) * 10 := Nat.mul_le_mul_left _ h10
      omega
  · rw [List.size_toArray, hl] at htl
    omega
end Sup

namespace Sup
open PySem PySem.Spec PyProof.Rows L2 NdefX
/-- the form of super().__init__('..') -/
theorem form_const (env : Env) {p0 p1 p2 p3 q : Pos} {c : Const} {j : Nat} (hln : (p2.endLine == p3.line) = true) : eval (.Call (.Attribute (.Call (.Name "super" p0) [] [] p1) "__init__" p2) [.Constant c j q] [] p3) env = (do
      let ov ← attributeBase (.Call (.Name "super" p0) [] [] p1) "__init__" env (eval (.Call (.Name "super" p0) [] [] p1) env)
      standAt p2.atName
      let (g, first) ← holding [ov] (getMethod ov "__init__" (do return (← importBound (.Call (.Name "super" p0) [] [] p1) env).getD true))
      callWith p3 g first (backTo p3 (starEach [.Constant c j q] env)) []) := by
  have hp : methodCallPos true (.Call (.Name "super" p0) [] [] p1) env p2 p3 = pure p3 := by
    unfold methodCallPos
    rw [hln]
    rfl
  show (do
    let ov ← attributeBase (.Call (.Name "super" p0) [] [] p1) "__init__" env (eval (.Call (.Name "super" p0) [] [] p1) env)
    standAt p2.atName
    let (g, first) ← holding [ov] (getMethod ov "__init__" (do return (← importBound (.Call (.Name "super" p0) [] [] p1) env).getD true))
    let cp ← methodCallPos true (.Call (.Name "super" p0) [] [] p1) env p2 p3
    callWith cp g first (backTo p3 (starEach [.Constant c j q] env)) []) = _
  rw [hp]
  rfl
/-- an error without a field is made -/
def spErr0 (C : Addr) : Sp := fun vs H Q _ => ∃ a : Addr, vs = [.ref a] ∧ H a = some (exo a C none) ∧ Q .non H
/-- an error that keeps a copy of a list -/
def spErrL (C : Addr) (fl : Str) : Sp := fun vs H Q _ => ∃ (a l : Addr) (xs : List V), vs = [.ref a, .ref l] ∧ H a = some (exo a C none) ∧ H l = some (.lst xs) ∧ xs.length ≤ 60 ∧ Shown H xs ∧
  ∀ c dx, H c = none → H dx = none → dx ≠ a → c ≠ a → dx ≠ c → Q .non (upd (upd (upd H c (.lst xs)) dx (exd dx [(fl, .ref c)])) a (exo a C (some dx)))
section
variable {P : Program} {w : World} {K : PySem.W.Frag} {mg : Str → Option Value} {base : Heap} {C f cda cc : Addr} {qual pn : Str} {st : Stmt} {N : List Str}
theorem err_nil {lit : Str} {j : Nat} {q1 p0 p1 p2 p3 p4 : Pos} {ar : Arg} (T : ErrTxt P K mg C f cda cc qual st)
    (hbd : defBody st = [.Expr (.Call (.Attribute (.Call (.Name "super" p0) [] [] p1) "__init__" p2) [.Constant (.str lit) j q1] [] p3) p4]) (hln : (p2.endLine == p3.line) = true)
    (S : NScope ["self", "__class__"] ["self"] ["__class__"] (defScope st))
    (hb : ∀ (oc : Value) (od an : Option Addr) (kV doc pm ct : Value) (us : List Value), us.length = 1 →
      bindArgs (PySem.W.fnX "__init__" qual (defArgs st) (defBody st) (defScope st) [("__class__", cc)] .none kV doc pm an (.ref cda) ct) ⟨us, []⟩ = pure ((["self"] : List Str).zip us))
    (hks : (defScope st).names.lookup ("super" : Str) = some .globalImplicit)
    (har : ((defArgs st).posonlyargs ++ (defArgs st).args).head? = some ar) (har2 : ar.arg = "self") :
    ∃ fd, FnOk P w K mg base CX0 2 f fd ["self"] (spErr0 C) ∧ Binds K fd ["self"] [] := by
  refine sup_fn T S (fun vs H Q E h => ?_) hb fun A outer s H vs Q E hsp hroom s1 I => ?_
  · obtain ⟨a, rfl, _⟩ := h
    rfl
  · obtain ⟨a, rfl, ha, hQ⟩ := hsp
    rw [hbd]
    refine ks_wpAt_execs_cons (ks_wpAt_Expr_any ?_ (by show ((defScope st).kind == _ && _) = false; rw [S.kind]; rfl))
    refine _root_.PySem.wpAt_mono (super_init (Q := fun H1 => Q .non H1) T I rfl hks (S.frk _ (by simp)) (by rw [har2]; exact S.par _ (by simp)) har (by rw [har2]; rfl) rfl ha
      (pe_str (x := lit)) ⟨Nat.le_refl _, ha, hQ⟩ (form_const _ hln) (by rfl)) (fun v s' hh => ?_) fun _ _ z => z
    obtain ⟨H1, I1, q⟩ := hh
    exact _root_.PySem.wpAt_of_wpAny (pss_nil.run [] s' _ H1 { nx := fun _ H' => Q .non H', rt := Q } I1 q)
theorem err_lst {lit : Str} {j : Nat} {q1 q2 q3 q4 p0 p1 p2 p3 p4 r1 r2 r3 r4 r5 r6 : Pos} {ar : Arg} (T : ErrTxt P K mg C f cda cc qual st)
    (hbd : defBody st = [.Expr (.Call (.Attribute (.Call (.Name "super" p0) [] [] p1) "__init__" p2) [.JoinedStr [.Constant (.str lit) j q1, .FormattedValue (.Name pn q2) (-1) none q3] q4] [] p3) p4,
      .Assign [.Attribute (.Name "self" r1) pn r2] (.Call (.Name "list" r3) [.Name pn r4] [] r5) r6]) (hln : (p2.endLine == p3.line) = true)
    (S : NScope ["self", pn, "__class__"] ["self", pn] ["__class__"] (defScope st))
    (hb : ∀ (oc : Value) (od an : Option Addr) (kV doc pm ct : Value) (us : List Value), us.length = 2 →
      bindArgs (PySem.W.fnX "__init__" qual (defArgs st) (defBody st) (defScope st) [("__class__", cc)] .none kV doc pm an (.ref cda) ct) ⟨us, []⟩ = pure ((["self", pn] : List Str).zip us))
    (hks : (defScope st).names.lookup ("super" : Str) = some .globalImplicit)
    (har : ((defArgs st).posonlyargs ++ (defArgs st).args).head? = some ar) (har2 : ar.arg = "self")
    (hd1 : (pn == ("__debug__" : Str)) = false) (hd2 : (pn == ("__classdict__" : Str)) = false)
    (hlit : lit.length ≤ 1000) (hno : PySem.W.findIn K (.ref C) pn = some none)
    (hgl : (defScope st).names.lookup ("list" : Str) = some .globalImplicit) (hml : mg "list" = none) :
    ∃ fd, FnOk P w K mg base CX0 2 f fd ["self", pn] (spErrL C pn) ∧ Binds K fd ["self", pn] [] := by
  refine sup_fn T S (fun vs H Q E h => ?_) hb fun A outer s H vs Q E hsp hroom s1 I => ?_
  · obtain ⟨a, l, xs, rfl, _⟩ := h
    rfl
  · obtain ⟨a, l, xs, rfl, ha, hl, h60, hsh, hQ⟩ := hsp
    have vN : Vis (ncx CX0 P w K mg base ["self", pn, "__class__"] (supNF qual st cda cc) f A outer s H E).env.scope pn := .inl (S.par _ (by simp))
    have vS : Vis (ncx CX0 P w K mg base ["self", pn, "__class__"] (supNF qual st cda cc) f A outer s H E).env.scope "self" := .inl (S.par _ (by simp))
    rw [hbd]
    refine two_run (te := fun σ H Q => tJs [tC (.str lit), tFmtL (tVar 1)] Str.empty σ H fun out H1 => Q (.str out) H1) T I rfl hks (S.frk _ (by simp)) (by rw [har2]; exact S.par _ (by simp)) har (by rw [har2]; rfl) rfl ha
      (pe_joined (.cons pe_str (.cons (pe_fmtL hroom.units (pe_var (i := 1) rfl vN hd1 hd2)) .nil)))
      (ps_ost (pe_var (i := 0) rfl vS) (pe_callTy call_list_of hgl hml (by decide +kernel) (pa_cons (pe_var (i := 1) rfl vN hd1 hd2) pa_nil))) ?_ (form_of _ hln) (by rfl) (by show ((defScope st).kind == _ && _) = false; rw [S.kind]; rfl)
    have e0 := lit_small hlit
    refine ⟨lit, rfl, by rw [sizeLine_eq]; omega, _, rfl, l, xs, rfl, hl, h60, hsh, fun y hy => ⟨y, rfl, ?_, Nat.le_refl _, ha, ?_⟩⟩
    · rw [Str.length_append, sizeLine_eq]
      omega
    · refine ⟨_, rfl, l, xs, rfl, .inl (SqL.of hl), fun c hc => ?_⟩
      have nca : c ≠ a := fun z => by
        rw [z, ha] at hc
        cases hc
      refine ⟨_, rfl, a, C, rfl, T.oex, hno, .inl ⟨by rw [upd_ne (Ne.symm nca)]; exact ha, fun dx h1 h2 => ?_⟩⟩
      have ndc : dx ≠ c := fun z => by
        rw [z, upd_same] at h1
        cases h1
      rw [upd_ne ndc] at h1
      exact hQ c dx hc h1 h2 nca ndc
end
section
variable {X : Cx} {x : Str} {C fI : Addr} {k : Nat} {fd : FuncData} {ps : List Str} {sp : Sp} {e : Expr} {es : List Expr} {ta : TA} {p pos : Pos}
/-- what follows where an own error has just been made, for positional values vs in the heap H1 -/
structure MkV (C : Addr) (sp : Sp) (vs : List V) (H1 : Hp) (Q : VK) : Prop where
  few : vs.length ≤ 1000
  run : ∀ a, H1 a = none → sp (.ref a :: vs) (upd H1 a (exo a C none)) (fun v H2 => v = .non ∧ Q (.ref a) H2) (fun _ _ _ => False)
theorem run_mkV {pins : List (Addr × Obj)} {σ : L2.St} {H1 : Hp} {s1 : Shared} {us : List Value} {vs : List V} {Q : VK} (T : OexC X.K C) (iC : PySem.W.findIn X.K (.ref C) "__init__" = some (some (.ref fI))) (tI : PySem.W.typeIn X.K (.ref fI) = some (.type "function"))
    (F1 : FnOk X.prog X.w X.K X.mg X.base CX0 k fI fd ps sp) (hr : Room (k + 1) X.A) (hb : Binds X.K fd ps []) (I1 : L2.Inv X pins σ H1 s1) (r1 : Vals vs us) (h : MkV C sp vs H1 Q) :
    wpAny (model X.prog X.w) X.A (call (.ref C) us) (EP X pins σ Q) X.xe s1 := by
  obtain ⟨nm, q, N, bs, bm, sn, sub, ab, col, dd, k0, k1, k2, k3, k5, hC, hbm⟩ := T.cls
  obtain ⟨hz, q1⟩ := h
  obtain ⟨hp, g, dr, tk, os⟩ := s1
  have hsz : hp.objs.size ≤ hp.objs.size + 1 := Nat.le_succ _
  have hn : H1 (hp.objs.size + 1) = none := I1.hok.fresh hsz
  have hq := q1 (hp.objs.size + 1) hn
  have kk : ∀ b o, hp.get? b = some o → ((hp.push (PySem.W.kdv_tup us)).push (PySem.HandSPX.excO C hp.objs.size)).get? b = some o :=
    fun b o z => Heap.get?_push_of_some _ (Heap.get?_push_of_some _ z)
  have hget : ((hp.push (PySem.W.kdv_tup us)).push (PySem.HandSPX.excO C hp.objs.size)).get? (hp.objs.size + 1) = some (PySem.HandSPX.excO C hp.objs.size) := by heap_get
  have I2 : L2.Inv X pins σ (upd H1 (hp.objs.size + 1) (exo (hp.objs.size + 1) C none)) ⟨(hp.push (PySem.W.kdv_tup us)).push (PySem.HandSPX.excO C hp.objs.size), g, dr, tk, os⟩ :=
    I1.laid (t' := tk) (a := hp.objs.size + 1) (o := exo (hp.objs.size + 1) C none)
      (h' := (hp.push (PySem.W.kdv_tup us)).push (PySem.HandSPX.excO C hp.objs.size)) kk hsz (exo_ok hget)
  have r2 : Vals (V.ref (hp.objs.size + 1) :: vs) (Value.ref (hp.objs.size + 1) :: us) := .cons rfl r1
  have hl : (Value.ref (hp.objs.size + 1) :: us).length = ps.length := by
    have e := r2.length
    rw [F1.len _ _ _ _ hq] at e
    exact e.symm
  have hus : us.length ≤ sizeLine := by
    rw [← Paired.length r1, sizeLine_eq]
    omega
  have hbd := hb _ (Value.ref (hp.objs.size + 1) :: us) I2.kIn (by rw [List.append_nil]; exact hl)
  rw [List.append_nil] at hbd
  refine wpAny_call (PySem.HandSPX.call_own F.excBase_ValueError (fun Y => PySem.HandSPX.refsVE_contains Y bm hbm) (I1.kIn _ _ hC) (PySem.W.looks_findIn I1.kIn iC) (fun self => PySem.W.bind_fn I1.kIn self tI) hus
    (codeAny_mono (F1.run _ X.stack _ _ ⟨Value.ref (hp.objs.size + 1) :: us, []⟩ (Value.ref (hp.objs.size + 1) :: us) _ _ (fun _ _ _ => False) (hr.make C us []) (I2.env0.make C us []) hbd r2 hq) fun r s' hq' => ?_))
  cases r with
  | error er => exact False.elim hq'
  | ok fl =>
    cases fl with
    | ret u =>
      obtain ⟨v, H2, os2, bare2, un2, hok2, rv, ev, q2⟩ := hq'
      subst ev
      have J := I2.call' (s' := s') (ch := []) os2 un2 hok2 bare2 (fun b z => absurd z (by simp))
      exact ⟨rv, .ref (hp.objs.size + 1), H2, J, rfl, q2⟩
    | next => exact False.elim hq'
    | brk => exact False.elim hq'
    | cont => exact False.elim hq'
theorem pe_mkV (T : OexC X.K C) (iC : PySem.W.findIn X.K (.ref C) "__init__" = some (some (.ref fI))) (tI : PySem.W.typeIn X.K (.ref fI) = some (.type "function"))
    (F1 : FnOk X.prog X.w X.K X.mg X.base CX0 k fI fd ps sp) (hr : Room (k + 1) X.A) (hb : Binds X.K fd ps []) (hg : Gl X x) (hm : X.mg x = some (.ref C)) (ha : PA X (e :: es) ta)
    (hdb : (x == ("__debug__" : Str)) = false := by decide) (he : starEach (e :: es) X.env = (false, eval e X.env) :: starEach es X.env := by rfl) (hpl : (backTo pos (starEach es X.env)).any (·.1) = false := by rfl) :
    PE X (.Call (.Name x p) (e :: es) [] pos) (fun σ H Q => ta σ H fun vs H1 => MkV C sp vs H1 Q) := by
  refine ⟨fun pins s σ H Q I h => ?_⟩
  refine wpAny_Call_Name_kw (ld_glob I hg hm ?_ hdb)
  refine PySem.W.callWith_K (h₀ := X.base) I.ok.mod.kin T.kC
    (thn (ha.run pos pins s σ H _ I h) fun us s1 ⟨vs, H1, I1, r1, q⟩ => ⟨I1.kIn, ?_⟩) he hpl
  exact run_mkV T iC tI F1 hr hb I1 r1 q
theorem pe_mkV0 (T : OexC X.K C) (iC : PySem.W.findIn X.K (.ref C) "__init__" = some (some (.ref fI))) (tI : PySem.W.typeIn X.K (.ref fI) = some (.type "function"))
    (F1 : FnOk X.prog X.w X.K X.mg X.base CX0 k fI fd ps sp) (hr : Room (k + 1) X.A) (hb : Binds X.K fd ps []) (hg : Gl X x) (hm : X.mg x = some (.ref C))
    (hdb : (x == ("__debug__" : Str)) = false := by decide) : PE X (.Call (.Name x p) [] [] pos) (fun σ H Q => MkV C sp [] H Q) := by
  refine ⟨fun pins s σ H Q I h => ?_⟩
  refine wpAny_Call_Name_kw (ld_glob I hg hm ?_ hdb)
  exact PySem.W.callWith_K0 I.kIn T.kC (run_mkV (us := []) T iC tI F1 hr hb I .nil h)
/-- what stands at a is an error of the class at C with these fields -/
def ErrAt (H : Hp) (a C : Addr) (fs : List (Str × V)) : Prop := (H a = some (exo a C none) ∧ fs = []) ∨ ∃ d, H a = some (exo a C (some d)) ∧ H d = some (exd d fs)
theorem ErrAt.inst {pins : List (Addr × Obj)} {σ : L2.St} {H : Hp} {s : Shared} {a : Addr} {fs : List (Str × V)} (I : L2.Inv X pins σ H s) (h : ErrAt H a C fs) :
    ∃ (ox : Obj) (od : Option Obj), PySem.W.InstAt s.heap a ox C od := by
  rcases h with ⟨h, _⟩ | ⟨d, h, hd⟩
  · obtain ⟨t, ho⟩ := exo_at I.hok h
    exact ⟨_, none, ho, rfl, rfl, trivial⟩
  · obtain ⟨t, ho⟩ := exo_at I.hok h
    obtain ⟨mA, hns, _⟩ := exd_at I.hok hd
    obtain ⟨ob, hob, _⟩ := lookIn_ns hns
    exact ⟨_, some ob, ho, rfl, rfl, hob⟩
end
end Sup

namespace Sup
open PySem PySem.Spec PyProof.Rows L2
/-- an own error, ready to be made -/
structure MkE (P : Program) (w : World) (K : PySem.W.Frag) (mg : Str → Option Value) (base : Heap) (nm : Str) (C : Addr) (sp : Sp) (ps : List Str) : Prop where
  oex : OexC K C
  g : mg nm = some (.ref C)
  run : ∃ (f : Addr) (fd : FuncData), PySem.W.findIn K (.ref C) "__init__" = some (some (.ref f)) ∧ PySem.W.typeIn K (.ref f) = some (.type "function") ∧ FnOk P w K mg base CX0 2 f fd ps sp ∧ Binds K fd ps []
section
variable {X : Cx} {nm : Str} {C : Addr} {sp : Sp} {ps : List Str} {e : Expr} {es : List Expr} {ta : TA} {p pos : Pos}
theorem pe_err (M : MkE X.prog X.w X.K X.mg X.base nm C sp ps) (hr : Room 3 X.A) (hg : Gl X nm) (ha : PA X (e :: es) ta)
    (hdb : (nm == ("__debug__" : Str)) = false := by decide) (he : starEach (e :: es) X.env = (false, eval e X.env) :: starEach es X.env := by rfl) (hpl : (backTo pos (starEach es X.env)).any (·.1) = false := by rfl) :
    PE X (.Call (.Name nm p) (e :: es) [] pos) (fun σ H Q => ta σ H fun vs H1 => MkV C sp vs H1 Q) := by
  obtain ⟨f, fd, h1, h2, h3, h4⟩ := M.run
  exact pe_mkV M.oex h1 h2 h3 hr h4 hg M.g ha hdb he hpl
theorem pe_err0 (M : MkE X.prog X.w X.K X.mg X.base nm C sp ps) (hr : Room 3 X.A) (hg : Gl X nm)
    (hdb : (nm == ("__debug__" : Str)) = false := by decide) : PE X (.Call (.Name nm p) [] [] pos) (fun σ H Q => MkV C sp [] H Q) := by
  obtain ⟨f, fd, h1, h2, h3, h4⟩ := M.run
  exact pe_mkV0 M.oex h1 h2 h3 hr h4 hg M.g hdb
end
theorem ErrAt.same {H H' : Hp} {a C : Addr} {fs : List (Str × V)} (h : ErrAt H a C fs) (s : Same H H') : ErrAt H' a C fs := by
  rcases h with ⟨h, e⟩ | ⟨d, h, hd⟩
  · exact .inl ⟨s _ _ h, e⟩
  · exact .inr ⟨d, s _ _ h, s _ _ hd⟩
/-- another object is written -/
theorem ErrAt.upd {H : Hp} {a C p : Addr} {fs : List (Str × V)} {xs : List V} {o : HO} (h : ErrAt H a C fs) (hp : H p = some (.lst xs)) : ErrAt (upd H p o) a C fs := by
  have key : ∀ {b : Addr} {φ : Heap → Prop}, H b = some (.ext φ) → b ≠ p := fun {b φ} e z => by
    rw [z, hp] at e
    cases e
  rcases h with ⟨h, e⟩ | ⟨d, h, hd⟩
  · exact .inl ⟨by rw [upd_ne (key h)]; exact h, e⟩
  · exact .inr ⟨d, by rw [upd_ne (key h)]; exact h, by rw [upd_ne (key hd)]; exact hd⟩
theorem mk_one {C : Addr} {fl : Str} {ok : V → Prop} {v : V} {H1 : Hp} {Q : VK} (hv : ok v) (h : ∀ (a : Addr) (H2 : Hp), H1 a = none → Same H1 H2 → ErrAt H2 a C [(fl, v)] → Q (.ref a) H2) : MkV C (spErr C fl ok) [v] H1 Q := by
  refine ⟨by show 1 ≤ 1000; omega, fun a hn => ⟨a, v, rfl, upd_same, hv, fun dx hdx hne => ⟨rfl, h a _ hn (fun b o e => ?_) (.inr ⟨dx, upd_same, by rw [upd_ne hne, upd_same]⟩)⟩⟩⟩
  rw [upd_ne hne] at hdx
  rw [upd_ne (ne_of_none e hn), upd_ne (ne_of_none e hdx), upd_ne (ne_of_none e hn)]
  exact e
theorem mk_nil {C : Addr} {H1 : Hp} {Q : VK} (h : ∀ (a : Addr) (H2 : Hp), H1 a = none → Same H1 H2 → ErrAt H2 a C [] → Q (.ref a) H2) : MkV C (spErr0 C) [] H1 Q := by
  refine ⟨Nat.zero_le _, fun a hn => ⟨a, rfl, upd_same, rfl, h a _ hn (fun b o e => ?_) (.inl ⟨upd_same, rfl⟩)⟩⟩
  rw [upd_ne (ne_of_none e hn)]
  exact e
theorem mk_lst {C l : Addr} {fl : Str} {xs : List V} {H1 : Hp} {Q : VK} (hl : H1 l = some (.lst xs)) (h60 : xs.length ≤ 60) (hs : Shown H1 xs)
    (h : ∀ (a c : Addr) (H2 : Hp), H1 a = none → H1 c = none → Same H1 H2 → H2 c = some (.lst xs) → ErrAt H2 a C [(fl, .ref c)] → Q (.ref a) H2) : MkV C (spErrL C fl) [.ref l] H1 Q := by
  refine ⟨by show 1 ≤ 1000; omega, fun a hn => ⟨a, l, xs, rfl, upd_same, by rw [upd_ne (ne_of_none hl hn)]; exact hl, h60, fun v hv => ?_, fun c dx hc hdx n1 n2 n3 => ⟨rfl, h a c _ hn ?_ (fun b o e => ?_) ?_ (.inr ⟨dx, upd_same, by rw [upd_ne n1, upd_same]⟩)⟩⟩⟩
  · rcases hs v hv with z | ⟨t, ns, e, ht, r⟩
    · exact .inl z
    · exact .inr ⟨t, ns, e, by rw [upd_ne (ne_of_none ht hn)]; exact ht, r⟩
  · rw [upd_ne n2] at hc
    exact hc
  · rw [upd_ne n2] at hc
    rw [upd_ne n1] at hdx
    rw [upd_ne (ne_of_none e hn), upd_ne (ne_of_none e hdx), upd_ne (ne_of_none e hc), upd_ne (ne_of_none e hn)]
    exact e
  · rw [upd_ne n2, upd_ne (Ne.symm n3), upd_same]
/-- e.f, e an error that stands in the heap -/
def tEx (K : PySem.W.Frag) (n : Str) (te : TE) : TE := fun σ H Q => te σ H fun x H1 => ∃ (a C : Addr) (fs : List (Str × V)) (v : V), x = .ref a ∧ XfC K C ∧ PySem.W.findIn K (.ref C) n = some none ∧ ErrAt H1 a C fs ∧ fs.lookup n = some v ∧ Q v H1
theorem pe_ex {X : Cx} {e : Expr} {te : TE} {pos : Pos} {n : Str} (he : PE X e te) (hb : attributeBase e n X.env (eval e X.env) = eval e X.env := by rfl) : PE X (.Attribute e n pos) (tEx X.K n te) := by
  refine ⟨fun pins s σ H Q I h => attr_of hb (thn (he.run pins s σ H _ I h) fun u s1 hh => ?_)⟩
  obtain ⟨x, H1, I1, rx, a, C, fs, v, rfl, T, hno, hE, hl, q⟩ := hh
  obtain rfl : u = Value.ref a := rx
  rcases hE with ⟨_, e0⟩ | ⟨d, h1, h2⟩
  · rw [e0] at hl
    cases hl
  · obtain ⟨t, ho⟩ := exo_at I1.hok h1
    obtain ⟨mA, hns, hrel⟩ := exd_at I1.hok h2
    obtain ⟨od, hod, hlk⟩ := lookIn_ns hns
    obtain ⟨u, hu, ru⟩ := RelO.some_of (v := v) (o := mA n) (by rw [← hl]; exact hrel n)
    have J : PySem.W.InstAt s1.heap a _ C (some od) := ⟨ho, rfl, rfl, hod⟩
    exact HandSPX.exc_get I1.kIn J T.ga T.gg T.exC (PySem.W.findObj_own T.hdC hno rfl (by rw [hlk, hu])) (handed_of ru) ⟨v, H1, I1.tok _, ru, q⟩
end Sup

namespace Law
open PySem PySem.Spec PyProof.Rows L2 Sup
/-! isinstance of a caught error that has its own dict -/
section
open PySem.W
variable {prog : Program} {w : World} {A : Around} {E : Value → Shared → Prop} {s : Shared} {K : Frag} {x D : Addr} {ox : Obj} {od : Option Obj}
theorem find_data {C : Addr} {nm : Str} {a g : Value} (h1 : (clsIn K C).isSome = true) (h2 : findIn K (.ref C) nm = some (some a)) (h3 : specialIn K a "__get__" = some (some g)) (h4 : takesIn K a = some true) :
    findObj K C od nm = some (.bind g a) := by
  obtain ⟨cd, hcd⟩ := Option.isSome_iff_exists.mp h1
  simp [findObj, hcd, h2, h3, h4]
theorem class_of_err (T : ExcC K D) {Q : Option Value → Shared → Prop} (X : K.In s.heap) (I : InstAt s.heap x ox D od) (h : Q (some (.ref D)) { s with toks := s.toks + 1 }) :
    wpAny (model prog w) A (getAttr? (.ref x) "__class__") Q E s := by
  have isS : (clsIn K D).isSome = true := by
    obtain ⟨cd, hcd, _⟩ := any_some T.hd
    rw [hcd]; rfl
  have hf : findObj K D od "__class__" = some (.bind (.builtin "getset_descriptor.__get__") (.builtin "object.__class__")) :=
    find_data isS T.ha T.hn T.ht
  obtain ⟨hp, g, d, t, os⟩ := s
  have M0 := I.type (M := model prog w)
  have M1 := looks_findIn (M := model prog w) X T.hg
  have M2 := looks_findIn (M := model prog w) X T.hk
  have M3 := looks_find (M := model prog w) X I hf
  have sub : Looks (model prog w) hp (isInstance (.ref x) (.type "BaseException")) true := M0.andThen (looks_subIn X T.hs)
  have n0 : (false && onTheHeap (Value.builtin "BaseException.__getattribute__")) = false := rfl
  have n1 : (onTheHeap (Value.ref D) && Value.builtin "BaseException.__getattribute__" == Value.builtin "object.__getattribute__") = false := by
    have z : (Value.builtin "BaseException.__getattribute__" == Value.builtin "object.__getattribute__") = false := by decide +kernel
    rw [z]; rfl
  unfold getAttr? getAttrBy? getAttrBy
  refine wpAny_bind (wpAny_mkText (wpAny_bind (wpAny_attempt (wpAny_holding (wpAny_bind (M0.at (wpAny_bind (M1.at ?_))))))))
  show wpAny _ _ (if (onTheHeap (Value.ref D) && Value.builtin "BaseException.__getattribute__" == Value.builtin "object.__getattribute__") = true
    then _ else _) _ _ _
  rw [n1, if_neg Bool.false_ne_true]
  unfold getAttrByItsOwn hookBefore
  refine wpAny_bind ?_
  rw [if_pos (show onTheHeap (Value.ref D) = true from rfl)]
  refine M2.at ?_
  refine wpAny_bind (wpAny_attempt (wpAny_holding ?_))
  unfold callGetattribute
  rw [n0, if_neg Bool.false_ne_true]
  unfold boundAndCalled
  rw [PySem.F.excAttr_ValueError.ga.bind (.ref x)]
  refine wpAny_bind (wpAny_pure ?_)
  show wpAny _ _ (call (.builtin "BaseException.__getattribute__")
    [.ref x, .str "__class__" t]) _ _ _
  refine wpAny_call (codeAny_call_builtin PySem.F.excAttr_ValueError.ga.plain PySem.F.entry_bexc_ga ?_)
  refine @check_slot (model prog w) _ _ ⟨hp, g, d, t + 1, os⟩ "BaseException.__getattribute__" "BaseException" "__getattribute__" (.ref x)
    [.str "__class__" t] [] _ (by decide +kernel) (by decide +kernel) sub (PySem.F.args_bexc_ga (.ref x) (.str "__class__" t)) ?_
  unfold Builtin.«object.__getattribute__»
  refine wpAny_bind (wpAny_of_eq (a := ((Value.ref x : Value), [Value.str "__class__" t])) (by first | rfl | (simp only [slotArgs]; rfl)) ?_)
  refine wpAny_bind (wpAny_pure (wpAny_bind (M0.at (wpAny_bind (M3.at ?_)))))
  show wpAny _ _ (holding [Value.builtin "object.__class__"] (call (.builtin "getset_descriptor.__get__")
    [.builtin "object.__class__", .ref x, .ref D]) >>= ret) _ _ _
  refine wpAny_bind (wpAny_holding (wpAny_call (class_get (s := ⟨hp, g, d, t + 1, os⟩) (ox := ox) (od := od) X I T.hm ?_)))
  refine wpAny_pure ?_
  show wpAny _ _ (handedOut (.ref D)) _ _ _
  rw [handedOut_of (v := .ref D) rfl]
  first
    | exact wpAny_pure (wpAny_pure h)
    | exact wpAny_pure h
    | exact wpAny_pure (wpAny_bind (wpAny_pure (wpAny_pure h)))
theorem kit_err (T : ExcC K D) : KitX K (.ref x) (.ref D) (fun h => ∃ od, InstAt h x ox D od) where
  ty := fun _ _ _ ⟨_, I⟩ => I.type
  it := fun _ _ X _ => by
    obtain ⟨cdD, hcD, _⟩ := any_some T.hd
    unfold clsIn at hcD
    split at hcD
    · rename_i ho
      intro A' Q' E' s' k q
      unfold isType loadHead
      exact wpAny_bind (wpAny_loadPart (k _ _ (X _ _ ho)) (wpAny_pure q))
    · cases hcD
  ne := fun h tp dd its n sl X htp => by
    obtain ⟨cdD, hcD, _⟩ := any_some T.hd
    unfold clsIn at hcD
    split at hcD
    · rename_i ho
      refine Bool.eq_false_iff.mpr fun q => ?_
      have e : D = tp := Value.ref.inj (beq_iff_eq.mp q)
      subst e
      have z := (X _ _ ho).symm.trans htp
      cases z
    · cases hcD
  ca := fun X I k => by
    obtain ⟨od, I⟩ := I
    exact class_of_err T X I k
end
/-- isinstance(e, c), e the exception that the suite holds, its own dict at d -/
def rIsD (K : PySem.W.Frag) (D a : Addr) (cls : Value) (d : Option Addr) : List V → Hp → VK → Prop := fun xs H Q =>
  ∃ (c : V) (cv : Value) (b : Bool) (dd : Addr) (fs : List (Str × V)), xs = [.ref a, c] ∧ cls = .ref D ∧ d = some dd ∧ H dd = some (.xd fs) ∧ (∀ u, RelV c u → u = cv) ∧ PySem.W.kitOne K (.ref D) cv = some b ∧ Q (.bl b) H
theorem call_isD {X : Cx} {a D : Addr} {oe : Obj} {cls : Value} {d : Option Addr} {pn : List (Addr × Obj)} (T : ExcC X.K D) (hz : Zc cls d oe) (hf : ∃ vs, oe.data = .fields vs) :
    CallR (X.suite a ((a, oe) :: pn)) (.builtin "isinstance") (rIsD X.K D a cls d) := by
  intro pins s σ H xs us Q I r h
  obtain ⟨c, cv, b, dd, fs, rfl, rfl, rfl, hd, hcv, e, q⟩ := h
  cases r with
  | cons rx rr =>
    cases rr with
    | cons rt rr =>
      cases rr
      cases rx
      have ec := hcv _ rt
      subst ec
      obtain ⟨hget, _⟩ := I.pin (a, oe) (List.mem_append.mpr (.inl List.mem_cons_self))
      obtain ⟨vs, hv⟩ := hf
      obtain ⟨mA, hns, _⟩ := (show ObjOk X.prog X.w H s.heap dd (.xd fs) from I.hok dd _ hd)
      obtain ⟨ob, ho, _⟩ := lookIn_ns hns
      have J : ∃ od, PySem.W.InstAt s.heap a oe D od := ⟨some ob, hget, hz.1, by unfold PySem.W.notCls; rw [hv], by rw [hz.2]; exact ho⟩
      exact PySem.W.kia_one (kit_err T) I.kIn J e (fun z => nomatch z) fun tk => ⟨.bl b, H, I.kept (t' := tk) fun _ _ z => z, rfl, q⟩
end Law

/-! Operators, repr and call of instances of own classes. -/
namespace Own
open PySem PySem.Spec PyProof.Rows L2
section
variable {X : Cx} {CX : CXT} {k : Nat} {C g : Addr} {sp : Sp} {E : XK} {pins : List (Addr × Obj)} {σ : L2.St} {H : Hp} {s : Shared}
theorem not_ni {v : V} {u : Value} (r : RelV v u) : u ≠ .notImplemented := fun z => by
  subst z
  cases v <;> first | (cases r; done) | (obtain ⟨_, z⟩ := r; cases z; done) | (obtain ⟨_, z⟩ := r; nomatch z)
theorem back {Q : VK} {u : Value} {s' : Shared} (h : EP X pins σ Q u s') : PySem.W.CmpBack (EP X pins σ Q) u s' := by
  obtain ⟨v, H', I', rv, q⟩ := id h
  have n := not_ni rv
  cases u <;> first | exact h | exact absurd rfl n
/-- a promise of an own method, asked at other surroundings with the same frames -/
theorem run_at {A : Around} {Q : VK} {us : List Value} {vs : List V} (F : FnR X.prog X.w X.K X.mg X.base CX k g sp) (hr : Room k A) (hfr : A.frames = some X.stack) (hx : Passes CX X E) (I : Inv X pins σ H s) (r : Vals vs us) (h : sp vs H Q E) :
    wpAny (model X.prog X.w) A (call (.ref g) us) (EP X pins σ Q) X.xe s := by
  have e0 : Env0 X.prog X.w X.K X.mg X.base A X.stack s H := by
    have e := I.env0
    exact ⟨hfr, e.mod, e.bs, e.bsz, e.funs, e.frf, e.hok, e.bare⟩
  refine wpAny_call (codeAny_mono (F A X.stack s H us vs Q E hr e0 r h) fun r s' hq => ?_)
  cases r with
  | error e => exact hx pins σ H s e s' I hq
  | ok fl =>
    cases fl with
    | ret u => exact I.after hq
    | next => exact False.elim hq
    | brk => exact False.elim hq
    | cont => exact False.elim hq
/-- two instances of the class at C, and what the operator's def promises of them -/
def rOwn (C : Addr) (sp : Sp) (E : XK) : R2 := fun x y H Q => ∃ a b dx dy fs gs, x = .ref a ∧ y = .ref b ∧ H a = some (.ins C dx fs) ∧ H b = some (.ins C dy gs) ∧ sp [.ref a, .ref b] H Q E
theorem op_cmp {op : CmpOp} (hop : ∀ v u, compareOp op v u = richCompare op v u) (F : FnR X.prog X.w X.K X.mg X.base CX k g sp) (hs : PySem.W.findIn X.K (.ref C) (cmpInfo op).2.1 = some (some (.ref g))) (hf : PySem.W.isFn X.K (.ref g) = true)
    (hr : Room k X.A) (hx : Passes CX X E) : OpR X (compareOp op) (rOwn C sp E) := by
  intro pins s σ H x y v u Q I rx ry h
  obtain ⟨a, b, dx, dy, fs, gs, rfl, rfl, ha, hb, hsp⟩ := h
  cases rx
  cases ry
  obtain ⟨mA, J, _⟩ := ins_get I.hok ha
  obtain ⟨mB, J', _⟩ := ins_get I.hok hb
  obtain ⟨od, J, _⟩ := J.look
  obtain ⟨od', J', _⟩ := J'.look
  obtain ⟨m, hF⟩ := I.fr
  rw [hop]
  refine PySem.W.cmp_K (op := op) (tb := .ref C) hr.units0 hF I.ok.mod.kin J J'.type (by simp [PySem.W.notFirst]) hs hf ?_
  exact wpAny_mono (wpAny_call (run_fnR F hr hx I (us := [.ref a, .ref b]) (vs := [.ref a, .ref b]) (.cons rfl (.cons rfl .nil)) hsp)) (fun _ _ z => back z) fun _ _ z => z
theorem op_bin {op : Operator} (hop : ∀ v u : Value, PySem.binaryOp op v u = PySem.binaryOp op v u) (F : FnR X.prog X.w X.K X.mg X.base CX k g sp) (hs : PySem.W.findIn X.K (.ref C) (PySem.dunder op.info.2) = some (some (.ref g))) (hf : PySem.W.isFn X.K (.ref g) = true)
    (hc : PySem.W.selfFirst X.K C = true) (hr : Room k X.A) (hx : Passes CX X E) : OpR X (PySem.binaryOp op) (rOwn C sp E) := by
  intro pins s σ H x y v u Q I rx ry h
  obtain ⟨a, b, dx, dy, fs, gs, rfl, rfl, ha, hb, hsp⟩ := h
  cases rx
  cases ry
  obtain ⟨mA, J, _⟩ := ins_get I.hok ha
  obtain ⟨mB, J', _⟩ := ins_get I.hok hb
  obtain ⟨od, J, _⟩ := J.look
  obtain ⟨od', J', _⟩ := J'.look
  obtain ⟨m, hF⟩ := I.fr
  refine PySem.W.binop_K (op := op) hF I.ok.mod.kin J J'.type hc hs hf ?_
  exact wpAny_mono (wpAny_call (run_fnR F hr hx I (us := [.ref a, .ref b]) (vs := [.ref a, .ref b]) (.cons rfl (.cons rfl .nil)) hsp)) (fun _ _ z => back z) fun _ _ z => z
/-- repr of an instance -/
def rRepr (C : Addr) (sp : Sp) (E : XK) : List V → Hp → VK → Prop := fun xs H Q => ∃ a dx fs, xs = [.ref a] ∧ H a = some (.ins C dx fs) ∧ sp [.ref a] H (fun v H' => ∃ y, v = .str y ∧ Q v H') E
theorem call_repr (F : FnR X.prog X.w X.K X.mg X.base CX k g sp) (hs : PySem.W.findIn X.K (.ref C) "__repr__" = some (some (.ref g))) (hf : PySem.W.isFn X.K (.ref g) = true)
    (hr : Room (k + 1) X.A) (hx : Passes CX X E) : CallR X (.builtin "repr") (rRepr C sp E) := by
  intro pins s σ H xs us Q I r h
  obtain ⟨a, dx, fs, rfl, ha, hsp⟩ := h
  obtain ⟨u, rfl, r1⟩ : ∃ u, us = [u] ∧ RelV (.ref a) u := by
    cases r with
    | cons r1 rr =>
      cases rr
      exact ⟨_, rfl, r1⟩
  cases r1
  obtain ⟨mA, J, _⟩ := ins_get I.hok ha
  obtain ⟨od, J, _⟩ := J.look
  obtain ⟨m, hF⟩ := I.fr
  refine PySem.W.repr_K ?_ hF I.ok.mod.kin J hs hf (wpAny_mono (run_at F ?_ ?_ hx I (us := [.ref a]) (vs := [.ref a]) (.cons rfl .nil) hsp) (fun u s' z => ?_) fun _ _ z => z)
  · have := hr.un
    show X.A.units + 1 < _
    omega
  · exact hr.in1
  · exact I.env0.frames
  · obtain ⟨v, H', I', rv, y, rfl, q⟩ := z
    obtain ⟨t, rfl⟩ := rv
    exact ⟨.str y, H', I', ⟨t, rfl⟩, q⟩
/-! ### != by the own == -/
theorem ifBound_B {M : Model} {A : Around} {Er : Value → Shared → Prop} {s : Shared} {K : PySem.W.Frag} {x C : Addr} {ox : Obj} {od : Option Obj} {name : Str} {id : String} {args : List Value} {Q : Option Value → Shared → Prop} (X : K.In s.heap) (I : PySem.W.InstAt s.heap x ox C od)
    (hs : PySem.W.findIn K (.ref C) name = some (some (.builtin id))) (hb : ∀ self, bindSpecial (.builtin id) self = pure (.builtin id, [self]))
    (h : wpAny M A (call (.builtin id) (.ref x :: args)) (fun v => Q (some v)) Er s) : wpAny M A (callSpecialIfBound? (.ref x) name args) Q Er s := by
  simp only [callSpecialIfBound?, bindSpecialIfBound?]
  refine wpAny_holding (wpAny_bind (wpAny_bind (wpAny_bind (I.type.here ((PySem.W.looks_findIn X hs).here ?_)))))
  refine wpAny_bind (wpAny_askSetting (wpAny_ite ?_))
  have fin : wpAny M A (call (.builtin id) ([.ref x] ++ args) >>= fun v => pure (some v)) Q Er s := wpAny_bind (wpAny_mono h (fun v s' h' => wpAny_pure h') fun _ _ h' => h')
  split
  · exact wpAny_bind ((PySem.W.Looks.of_pure (hb _)).here (wpAny_pure (by exact fin)))
  · exact wpAny_tryCatch (wpAny_bind ((PySem.W.Looks.of_pure (hb _)).here (wpAny_pure (by exact fin))))
def rOwnNe (C : Addr) (sp : Sp) (E : XK) : R2 := fun x y H Q => ∃ a b dx dy fs gs, x = .ref a ∧ y = .ref b ∧ H a = some (.ins C dx fs) ∧ H b = some (.ins C dy gs) ∧ sp [.ref a, .ref b] H (fun v H' => ∃ t, v = .bl t ∧ Q (.bl (!t)) H') E
theorem op_ne (F : FnR X.prog X.w X.K X.mg X.base CX k g sp) (hs : PySem.W.findIn X.K (.ref C) "__eq__" = some (some (.ref g))) (hn : PySem.W.findIn X.K (.ref C) "__ne__" = some (some (.builtin "object.__ne__"))) (hm : PySem.W.mroIn X.K C (.type "object") = some true)
    (hf : PySem.W.isFn X.K (.ref g) = true) (hr : Room (k + 1) X.A) (hx : Passes CX X E) : OpR X (compareOp .NotEq) (rOwnNe C sp E) := by
  intro pins s σ H x y v u Q I rx ry h
  obtain ⟨a, b, dx, dy, fs, gs, rfl, rfl, ha, hb, hsp⟩ := h
  cases rx
  cases ry
  obtain ⟨mA, J, _⟩ := ins_get I.hok ha
  obtain ⟨mB, J', _⟩ := ins_get I.hok hb
  obtain ⟨od, J, _⟩ := J.look
  obtain ⟨od', J', _⟩ := J'.look
  have KI := I.kIn
  have hu1 : X.A.in1.units < cLine := by
    have := hr.un
    show X.A.units + 1 < _
    omega
  have one : wpAny (model X.prog X.w) X.A (tryCompare (.ref a) (cmpInfo .NotEq).2.1 (.ref b)) (fun r s' => ∃ v, r = some v ∧ EP X pins σ Q v s') X.xe s := by
    unfold tryCompare
    refine wpAny_bind (ifBound_B KI J hn PySem.F.cmp_object.ne.bind (wpAny_call (codeAny_call_builtin PySem.F.cmp_object.ne.plain PySem.F.cmpEntry_ne
      (PySem.W.check_slot PySem.F.cmpKind_ne PySem.F.cmpSplit_ne (J.type.andThen (PySem.W.looks_mroIn KI hm)) (PySem.F.cmpArgs_ne _ _) ?_))))
    unfold Builtin.«object.__ne__»
    refine wpAny_bind (m := slotArgs "__ne__" 1 _) (wpAny_pure ?_)
    refine wpAny_bind (m := cRoomFor _ _) (wpAny_cRoomFor hu1 ?_)
    refine wpAny_bind (m := callSpecialIfBound? (.ref a) (Str.ofString "__eq__") _) (PySem.W.ifBound_K KI J hs hf (wpAny_mono (run_at F hr.in1 I.env0.frames hx I (us := [.ref a, .ref b]) (vs := [.ref a, .ref b]) (.cons rfl (.cons rfl .nil)) hsp) (fun u s' z => ?_) fun _ _ z => z))
    obtain ⟨v, H', I', rv, t, rfl, q⟩ := z
    cases rv
    refine wpAny_bind (m := truthy (.bool t)) (wpAny_truthy_bool ?_)
    first
      | exact wpAny_pure (wpAny_pure ⟨_, rfl, .bl (!t), H', I', rfl, q⟩)
      | exact wpAny_pure ⟨_, rfl, .bl (!t), H', I', rfl, q⟩
  show wpAny _ _ (richCompare .NotEq (.ref a) (.ref b)) _ _ _
  unfold richCompare
  simp only [PySem.oneThing_ref]
  refine wpAny_holding (wpAny_bind (wpAny_cRoomFor hr.units0 ?_))
  refine wpAny_bind (J.type.here (wpAny_bind (J'.type.here ?_)))
  rw [if_neg (by simp)]
  refine wpAny_bind (wpAny_pure ?_)
  simp only [Bool.false_eq_true, if_false]
  refine wpAny_bind (wpAny_mono one (fun r s' z => ?_) fun _ _ e => e)
  obtain ⟨v, rfl, hq⟩ := z
  exact wpAny_pure hq
end
/-! ### a def that returns NotImplemented -/
section
variable {P : Program} {w : World} {K : PySem.W.Frag} {mg : Str → Option Value} {base : Heap}
/-- on values of which pre holds the def at f returns NotImplemented and changes nothing -/
def NiOk (P : Program) (w : World) (K : PySem.W.Frag) (mg : Str → Option Value) (base : Heap) (k : Nat) (f : Addr) (pre : List V → Hp → Prop) : Prop :=
  ∀ (A : Around) (outer : List Env) (s : Shared) (H : Hp) (us : List Value) (vs : List V), Room k A → Env0 P w K mg base A outer s H → Vals vs us → pre vs H →
    codeAny (model P w) A (.call (.ref f) ⟨us, []⟩) (fun r s' => r = .ok (.ret .notImplemented) ∧ CE outer P w H s (fun _ H' => H' = H) .none s') s
theorem ni_def {x qual : Str} {st : Stmt} {f : Addr} {fd : FuncData} {N ps : List Str} {k : Nat} {pre : List V → Hp → Prop} {t : Expr} {els rest : List Stmt} {p2 p3 p4 : Pos} (F : Fun K x qual st f fd) (S : FnScope N ps (defScope st)) (hb : Binds K fd ps [])
    (len : ∀ vs H, pre vs H → vs.length = ps.length) (hbd : defBody st = .If t [.Return (some (.Name "NotImplemented" p2)) p3] els p4 :: rest) (hg : (defScope st).names.lookup ("NotImplemented" : Str) = some .globalImplicit) (hm : mg "NotImplemented" = none)
    (htest : ∀ (cdv : Value) (A : Around) (outer : List Env) (s : Shared) (H : Hp) (vs : List V), Room k (A.deeper (envOfC qual (defScope st) s.heap.objs.size f cdv)) → pre vs H →
      ∃ tt, PT (cxOf CX0 P w K mg base N qual (defScope st) f cdv A outer s H (fun _ _ _ => False)).nox t tt ∧ tt (start N vs) H (fun b H' => b = true ∧ H' = H)) :
    NiOk P w K mg base (k + 1) f pre := by
  intro A outer s H us vs hr e0 r hp
  have hl := len _ _ hp
  have hbind := hb s us (e0.mod.kin.keeps fun b o e => (e0.bs b o e).1) (by rw [List.append_nil, ← r.length]; exact hl)
  rw [List.append_nil] at hbind
  obtain ⟨oc, od, kV, doc, pm, an, cdv, ct, osl, rfl, lk, hcd⟩ := F.ex
  have KX : K.In s.heap := e0.mod.kin.keeps fun b o e => (e0.bs b o e).1
  have lim : s.heap.NoLimit := e0.mod.nolimit.keeps fun b o e => (e0.bs b o e).1
  have hkind : ∀ y ∈ ps.zip us, (defScope st).names.lookup y.1 = some .local ∨ ((defScope st).names.lookup y.1 = some .cell ∧ ((cellsFrom (s.heap.objs.size + 1) (defScope st).names []).lookup y.1).isSome = true) := fun ⟨n, v⟩ hy => by
    rcases S.par n (List.of_mem_zip hy).1 with q | q
    · exact .inl q
    · exact .inr ⟨q, PySem.W.cellsFrom_some _ _ _ (.inl q)⟩
  refine codeAny_call_function hr.depth (KX _ _ lk) rfl S.co S.gen rfl (PySem.W.codeRec_of KX hcd) (hbind _ _ _ _ ?_)
  refine wpAny_newFunctionEnv_cells S.kind hkind fun env he s1 x => ?_
  subst he
  refine ⟨lim.keeps x.toInCall.keep, codeAny_func ?_⟩
  obtain ⟨tt, ht, hq⟩ := htest cdv A outer s H vs (hr.deeper _) hp
  have I : L2.Inv (cxOf CX0 P w K mg base N qual (defScope st) f cdv A outer s H (fun _ _ _ => False)) [] (start N vs) H s1 := inv_start S hr.hd e0 hl r x
  rw [hbd]
  refine wpAny_execs_cons (wpAny_If (wpAny_mono (ht.run [] s1 (start N vs) H _ (I.wish _) hq) (fun b s2 h2 => ?_) fun e s' z => False.elim z))
  obtain ⟨H2, I2, rfl, rfl⟩ := h2
  refine wpAny_execs_cons (wpAny_Return_some (ld_blt I2 hg hm (u := .notImplemented) (by decide +kernel) ?_))
  exact ⟨rfl, .non, _, I2.os, I2.bare, I2.base, I2.hok, rfl, rfl⟩
end
section
variable {X : Cx} {CX : CXT} {k : Nat} {C g : Addr} {sp : Sp} {E : XK} {pre : List V → Hp → Prop}
theorem int_eq_ref (a : Int) (t : Tok) (b C dx : Addr) : Meets (Builtin.«int.__eq__» ⟨[.int a t, .ref b], []⟩) (fun _ R s => s.heap.get? b = some (PySem.W.instObj C dx) ∧ R (.ok (.ret Value.notImplemented)) s) :=
  .of_wp fun prog w A R s h => by
    obtain ⟨hp, g, d, tk, os⟩ := s
    obtain ⟨hl, h⟩ := h
    wp_walk using wpAny_load' hl
    exact ⟨_, rfl, h⟩
/-- an instance == a whole number, where the own == declines -/
def rEqI (C : Addr) (pre : List V → Hp → Prop) : R2 := fun x y H Q => ∃ a dx fs i, x = .ref a ∧ y = .int i ∧ H a = some (.ins C dx fs) ∧ pre [.ref a, .int i] H ∧ Q (.bl false) H
theorem op_eqI (N : NiOk X.prog X.w X.K X.mg X.base k g pre) (hs : PySem.W.findIn X.K (.ref C) "__eq__" = some (some (.ref g))) (hf : PySem.W.isFn X.K (.ref g) = true) (hsub : PySem.W.subIn X.K (.type "int") (.ref C) = some false)
    (hr : Room k X.A) : OpR X (compareOp .Eq) (rEqI C pre) := by
  intro pins s σ H x y v u Q I rx ry h
  obtain ⟨a, dx, fs, i, rfl, rfl, ha, hp, q⟩ := h
  cases rx
  obtain ⟨t, rfl⟩ := ry
  obtain ⟨mA, J, _⟩ := ins_get I.hok ha
  obtain ⟨od, J, _⟩ := J.look
  have KI := I.kIn
  show wpAny _ _ (richCompare .Eq (.ref a) (.int i t)) _ _ _
  unfold richCompare
  simp only [PySem.oneThing_ref]
  refine wpAny_holding (wpAny_bind (wpAny_cRoomFor hr.units0 ?_))
  refine wpAny_bind (J.type.here (wpAny_bind ((PySem.W.Looks.of_pure (M := model X.prog X.w) (h := s.heap) (show typeOf (.int i t) = pure (.type "int") from rfl)).here ?_)))
  have hne : (Value.ref C != Value.type "int") = true := by
    have z : (Value.ref C == Value.type "int") = false := Bool.eq_false_iff.mpr fun q => by cases beq_iff_eq.mp q
    show (!(Value.ref C == Value.type "int")) = true
    rw [z]; rfl
  rw [if_pos hne]
  refine wpAny_bind ((PySem.W.looks_subIn KI hsub).here ?_)
  simp only [Bool.false_eq_true, if_false]
  refine wpAny_bind (m := tryCompare (.ref a) _ (.int i t)) ?_
  unfold tryCompare
  have cl : wpAny (model X.prog X.w) X.A (call (.ref g) [.ref a, .int i t]) (fun u s' => u = .notImplemented ∧ L2.Inv X pins σ H s') X.xe s := by
    refine wpAny_call (codeAny_mono (N X.A X.stack s H [.ref a, .int i t] [.ref a, .int i] hr I.env0 (.cons rfl (.cons ⟨t, rfl⟩ .nil)) hp) fun r s' z => ?_)
    obtain ⟨rfl, z⟩ := z
    obtain ⟨v, H', I', rv, e⟩ := I.after z
    rw [e] at I'
    exact ⟨rfl, I'⟩
  refine wpAny_bind (PySem.W.ifBound_K KI J hs hf (wpAny_mono cl (fun u s' z => ?_) fun _ _ z => z))
  obtain ⟨rfl, I'⟩ := z
  refine wpAny_pure ?_
  obtain ⟨mA', J', _⟩ := ins_get I'.hok ha
  obtain ⟨od', J', _⟩ := J'.look
  dsimp only
  refine wpAny_bind (m := tryCompare (.int i t) _ (.ref a)) ?_
  refine wpAny_tryCompare_declines (typeIs_int _ i t) PySem.F.slot_int_eq (call_meets PySem.F.slot_int_eq (typeIs_int _ i t) PySem.F.entry_int_eq (PySem.F.args_int_eq_2 _ _) (int_eq_ref i t a C dx) ⟨J'.at_, rfl, ?_⟩)
  dsimp only
  refine wpAny_bind (wpAny_rule (wpAny_bind (wpAny_isSame_plain (by rfl) (wpAny_pure ?_))))
  have z : (Value.ref a == Value.int i t) = false := Bool.eq_false_iff.mpr fun q => by cases beq_iff_eq.mp q
  rw [z]
  exact ⟨.bl false, H, I', rfl, q⟩
end
/-! ### x(e, ..) and x(), x a local name that holds an instance -/
section
variable {X : Cx} {CX : CXT} {k i : Nat} {C g : Addr} {sp : Sp} {E : XK} {x : Str} {e : Expr} {es : List Expr} {t : TA} {p pos : Pos}
theorem run_ins {pins : List (Addr × Obj)} {σ : L2.St} {H : Hp} {s : Shared} {Q : VK} {a dx : Addr} {fs : List (Str × V)} {us : List Value} {vs : List V} (c : StX.CallO X.K C g) (F : FnR X.prog X.w X.K X.mg X.base CX k g sp) (hr : Room k X.A) (hx : Passes CX X E) (I : L2.Inv X pins σ H s)
    (ha : H a = some (.ins C dx fs)) (r : Vals vs us) (h : sp (V.ref a :: vs) H Q E) : wpAny (model X.prog X.w) X.A (call (.ref a) us) (EP X pins σ Q) X.xe s := by
  obtain ⟨mA, J, _⟩ := ins_get I.hok ha
  obtain ⟨od, J, _⟩ := J.look
  exact wpAny_call (PySem.W.kco_code I.kIn J rfl c.at_ c.fn c.fi (run_fnR (us := .ref a :: us) (vs := .ref a :: vs) F hr hx I (.cons rfl r) h))
def tCallI (i : Nat) (C : Addr) (sp : Sp) (E : XK) (t : TA) : TE := fun σ H Q => ∃ a, σ[i]? = some (some (.ref a)) ∧ t σ H fun vs H1 => (∃ dx fs, H1 a = some (.ins C dx fs)) ∧ sp (V.ref a :: vs) H1 Q E
theorem pe_callI (c : StX.CallO X.K C g) (F : FnR X.prog X.w X.K X.mg X.base CX k g sp) (hr : Room k X.A) (hx : Passes CX X E) (hN : X.N[i]? = some x) (hv : Vis X.env.scope x) (ha : PA X (e :: es) t)
    (hd : (x == ("__debug__" : Str)) = false := by decide) (hcd : (x == ("__classdict__" : Str)) = false := by decide)
    (he : starEach (e :: es) X.env = (false, eval e X.env) :: starEach es X.env := by rfl) (hpl : (backTo pos (starEach es X.env)).any (·.1) = false := by rfl) : PE X (.Call (.Name x p) (e :: es) [] pos) (tCallI i C sp E t) := by
  refine ⟨fun pins s σ H Q I h => ?_⟩
  obtain ⟨a, hs, h⟩ := h
  refine wpAny_Call_Name_kw (thn ((pe_var (pos := p) (i := i) hN hv hd hcd).run pins s σ H (fun v H1 => v = .ref a ∧ H1 = H) I ⟨.ref a, hs, rfl, rfl⟩) fun u s1 ⟨v, H1, I1, r1, ev, eH⟩ => ?_)
  subst ev
  rw [eH] at I1
  cases r1
  refine StX.callO_with (thn (ha.run pos pins s1 σ H _ I1 h) fun us s2 ⟨vs, H2, I2, r, ⟨dx, fs, hi⟩, q2⟩ => ?_) he hpl
  obtain ⟨mA, J, _⟩ := ins_get I2.hok hi
  obtain ⟨od, J, _⟩ := J.look
  exact ⟨⟨C, _, _, J, rfl⟩, run_ins c F hr hx I2 hi r q2⟩
theorem pe_callI0 (c : StX.CallO X.K C g) (F : FnR X.prog X.w X.K X.mg X.base CX k g sp) (hr : Room k X.A) (hx : Passes CX X E) (hN : X.N[i]? = some x) (hv : Vis X.env.scope x)
    (hd : (x == ("__debug__" : Str)) = false := by decide) (hcd : (x == ("__classdict__" : Str)) = false := by decide) : PE X (.Call (.Name x p) [] [] pos) (tCallI i C sp E tNil) := by
  refine ⟨fun pins s σ H Q I h => ?_⟩
  obtain ⟨a, hs, ⟨dx, fs, hi⟩, h⟩ := h
  refine wpAny_Call_Name_kw (thn ((pe_var (pos := p) (i := i) hN hv hd hcd).run pins s σ H (fun v H1 => v = .ref a ∧ H1 = H) I ⟨.ref a, hs, rfl, rfl⟩) fun u s1 ⟨v, H1, I1, r1, ev, eH⟩ => ?_)
  subst ev
  rw [eH] at I1
  cases r1
  obtain ⟨mA, J, _⟩ := ins_get I1.hok hi
  obtain ⟨od, J, _⟩ := J.look
  exact PySem.W.kco_callWith0 (K := X.K) I1.kIn J rfl c.at_ (run_ins (us := []) c F hr hx I1 hi .nil h)
end
end Own

namespace Own
open PySem PySem.Spec PyProof.Rows L2
/-- a promise told of the values as they come -/
theorem fnr_of {P : Program} {w : World} {K : PySem.W.Frag} {mg : Str → Option Value} {base : Heap} {CX : CXT} {k : Nat} {f : Addr} {fd : FuncData} {ps : List Str} {sp : Sp} {dvs : List V} {ds : List Value} (G : FnOk P w K mg base CX k f fd ps sp) (hb : Binds K fd ps ds) (hd : Vals dvs ds) :
    FnR P w K mg base CX k f (fun vs H Q E => sp (vs ++ dvs) H Q E) := fun A outer s H us vs Q E hr e0 r h => by
  have KX : K.In s.heap := e0.mod.kin.keeps fun b o e => (e0.bs b o e).1
  have hl : (us ++ ds).length = ps.length := by
    have e := (r.append hd).length
    rw [G.len _ _ _ _ h] at e
    exact e.symm
  exact G.run A outer s H ⟨us, []⟩ (us ++ ds) (vs ++ dvs) Q E hr e0 (hb s us KX hl) (r.append hd) h
theorem fnr0 {P : Program} {w : World} {K : PySem.W.Frag} {mg : Str → Option Value} {base : Heap} {CX : CXT} {k : Nat} {f : Addr} {fd : FuncData} {ps : List Str} {sp : Sp} (G : FnOk P w K mg base CX k f fd ps sp) (hb : Binds K fd ps []) :
    FnR P w K mg base CX k f sp := (fnr_of G hb .nil).imp fun vs H Q E h => by rw [List.append_nil]; exact h
section
variable {X : Cx} {CX : CXT} {k i : Nat} {C g f : Addr} {sp : Sp} {E : L2.St → XK} {x : Str} {e a b : Expr} {es : List Expr} {t : TA} {ta tb : TE} {p pos : Pos} {fd : FuncData} {ps : List Str} {dvs : List V} {ds : List Value}
theorem run_fnRS {pins : List (Addr × Obj)} {σ : L2.St} {H : Hp} {s : Shared} {Q : VK} {us : List Value} {vs : List V} (F : FnR X.prog X.w X.K X.mg X.base CX k g sp) (hr : Room k X.A) (hx : PassesAt CX X σ (E σ)) (I : L2.Inv X pins σ H s) (r : Vals vs us) (h : sp vs H Q (E σ)) :
    codeAny (model X.prog X.w) X.A (.call (.ref g) ⟨us, []⟩) (fun r s' => match r with | .ok (.ret v) => EP X pins σ Q v s' | .ok _ => False | .error e => X.xe e s') s := by
  refine codeAny_mono (F X.A X.stack s H us vs Q (E σ) hr I.env0 r h) fun r s' hq => ?_
  cases r with
  | error e => exact hx pins H s e s' I hq
  | ok fl =>
    cases fl with
    | ret u => exact I.after hq
    | next => exact False.elim hq
    | brk => exact False.elim hq
    | cont => exact False.elim hq
/-- a + b of two instances of one own class -/
theorem pe_binS {op : Operator} (F : FnR X.prog X.w X.K X.mg X.base CX k g sp) (hs : PySem.W.findIn X.K (.ref C) (PySem.dunder op.info.2) = some (some (.ref g))) (hf : PySem.W.isFn X.K (.ref g) = true) (hc : PySem.W.selfFirst X.K C = true) (hr : Room k X.A)
    (hx : ∀ σ, PassesAt CX X σ (E σ)) (ha : PE X a ta) (hb : PE X b tb) : PE X (.BinOp a op b pos) (fun σ H Q => ta σ H fun x H1 => tb σ H1 fun y H2 => rOwn C sp (E σ) x y H2 Q) := by
  refine ⟨fun pins s σ H Q I h => ?_⟩
  have h' : tOp (fun x y H2 Q => rOwn C sp (E σ) x y H2 Q) ta tb σ H Q := h
  refine wpAny_BinOp (binT ha hb I h' fun v u s2 x y H2 I2 rx ry q => ?_)
  obtain ⟨a, b, dx, dy, fs, gs, rfl, rfl, ha, hb, hsp⟩ := q
  cases rx
  cases ry
  obtain ⟨mA, J, _⟩ := ins_get I2.hok ha
  obtain ⟨mB, J', _⟩ := ins_get I2.hok hb
  obtain ⟨od, J, _⟩ := J.look
  obtain ⟨od', J', _⟩ := J'.look
  obtain ⟨m, hF⟩ := I2.fr
  refine PySem.W.binop_K (op := op) hF I2.ok.mod.kin J J'.type hc hs hf ?_
  exact wpAny_mono (wpAny_call (run_fnRS F hr (hx σ) I2 (us := [.ref a, .ref b]) (vs := [.ref a, .ref b]) (.cons rfl (.cons rfl .nil)) hsp)) (fun _ _ z => back z) fun _ _ z => z
/-- C(e, ..) whose __init__ may raise -/
structure MkS (C : Addr) (sp : Sp) (E : XK) (vs : List V) (H1 : Hp) (Q : VK) : Prop where
  run : ∀ x dx, H1 x = Option.none → H1 dx = Option.none → dx ≠ x → sp (V.ref x :: vs) (upd (upd H1 dx (.own x)) x (.ins C dx [])) (fun v H2 => v = .non ∧ Q (.ref x) H2) E
def tMakeS (C : Addr) (sp : Sp) (E : L2.St → XK) (t : TA) : TE := fun σ H Q => t σ H fun vs H1 => MkS C sp (E σ) vs H1 Q
theorem pe_makeS (M : Mk X.K C f) (F : FnR X.prog X.w X.K X.mg X.base CX k f sp) (hr : Room (k + 1) X.A) (hg : Gl X x) (hm : X.mg x = some (.ref C)) (hx : ∀ σ, PassesAt CX X σ (E σ)) (ha : PA X (e :: es) t) (hdb : (x == ("__debug__" : Str)) = false := by decide)
    (he : starEach (e :: es) X.env = (false, eval e X.env) :: starEach es X.env := by rfl) (hpl : (backTo pos (starEach es X.env)).any (·.1) = false := by rfl) : PE X (.Call (.Name x p) (e :: es) [] pos) (tMakeS C sp E t) := by
  refine ⟨fun pins s σ H Q I h => ?_⟩
  refine wpAny_Call_Name_kw (ld_glob I hg hm ?_ hdb)
  refine PySem.W.callWith_K (h₀ := X.base) I.ok.mod.kin M.kp (thn (ha.run pos pins s σ H _ I h) fun us s1 ⟨vs, H1, I1, r, q⟩ => ⟨I1.kIn, ?_⟩) he hpl
  have hq := q.run (s1.heap.objs.size + 1) s1.heap.objs.size (I1.hok.fresh (Nat.le_succ _)) (I1.hok.fresh (Nat.le_refl _)) (Nat.ne_of_lt (Nat.lt_succ_self _))
  have I2 := Inv.made (C := C) I1
  have r2 : Vals (V.ref (s1.heap.objs.size + 1) :: vs) (Value.ref (s1.heap.objs.size + 1) :: us) := .cons rfl r
  refine wpAny_call (make_map (f := f) I1.kIn M.makes M.init (beq_iff_eq.mp M.fn) (codeAny_mono (F _ X.stack _ _ (Value.ref (s1.heap.objs.size + 1) :: us) _ _ (E σ) (hr.make C us []) (I2.env0.make C us []) r2 hq) fun r s' hq' => ?_))
  cases r with
  | error e => exact hx σ pins _ _ e s' I2 hq'
  | ok fl =>
    cases fl with
    | ret u =>
      obtain ⟨v, H', I3, rv, ev, q3⟩ := I2.after hq'
      subst ev
      exact ⟨rv, ⟨V.ref (s1.heap.objs.size + 1), H', I3, rfl, q3⟩⟩
    | next => exact False.elim hq'
    | brk => exact False.elim hq'
    | cont => exact False.elim hq'
def tCallIS (i : Nat) (C : Addr) (sp : Sp) (E : L2.St → XK) (t : TA) : TE := fun σ H Q => ∃ a, σ[i]? = some (some (.ref a)) ∧ t σ H fun vs H1 => (∃ dx fs, H1 a = some (.ins C dx fs)) ∧ sp (V.ref a :: vs) H1 Q (E σ)
theorem run_insS {pins : List (Addr × Obj)} {σ : L2.St} {H : Hp} {s : Shared} {Q : VK} {a dx : Addr} {fs : List (Str × V)} {us : List Value} {vs : List V} (c : StX.CallO X.K C g) (F : FnR X.prog X.w X.K X.mg X.base CX k g sp) (hr : Room k X.A) (hx : PassesAt CX X σ (E σ)) (I : L2.Inv X pins σ H s)
    (ha : H a = some (.ins C dx fs)) (r : Vals vs us) (h : sp (V.ref a :: vs) H Q (E σ)) : wpAny (model X.prog X.w) X.A (call (.ref a) us) (EP X pins σ Q) X.xe s := by
  obtain ⟨mA, J, _⟩ := ins_get I.hok ha
  obtain ⟨od, J, _⟩ := J.look
  exact wpAny_call (PySem.W.kco_code I.kIn J rfl c.at_ c.fn c.fi (run_fnRS (us := .ref a :: us) (vs := .ref a :: vs) F hr hx I (.cons rfl r) h))
theorem pe_callIS (c : StX.CallO X.K C g) (F : FnR X.prog X.w X.K X.mg X.base CX k g sp) (hr : Room k X.A) (hx : ∀ σ, PassesAt CX X σ (E σ)) (hN : X.N[i]? = some x) (hv : Vis X.env.scope x) (ha : PA X (e :: es) t)
    (hd : (x == ("__debug__" : Str)) = false := by decide) (hcd : (x == ("__classdict__" : Str)) = false := by decide)
    (he : starEach (e :: es) X.env = (false, eval e X.env) :: starEach es X.env := by rfl) (hpl : (backTo pos (starEach es X.env)).any (·.1) = false := by rfl) : PE X (.Call (.Name x p) (e :: es) [] pos) (tCallIS i C sp E t) := by
  refine ⟨fun pins s σ H Q I h => ?_⟩
  obtain ⟨a, hs, h⟩ := h
  refine wpAny_Call_Name_kw (thn ((pe_var (pos := p) (i := i) hN hv hd hcd).run pins s σ H (fun v H1 => v = .ref a ∧ H1 = H) I ⟨.ref a, hs, rfl, rfl⟩) fun u s1 ⟨v, H1, I1, r1, ev, eH⟩ => ?_)
  subst ev
  rw [eH] at I1
  cases r1
  refine StX.callO_with (thn (ha.run pos pins s1 σ H _ I1 h) fun us s2 ⟨vs, H2, I2, r, ⟨dx, fs, hi⟩, q2⟩ => ?_) he hpl
  obtain ⟨mA, J, _⟩ := ins_get I2.hok hi
  obtain ⟨od, J, _⟩ := J.look
  exact ⟨⟨C, _, _, J, rfl⟩, run_insS c F hr (hx σ) I2 hi r q2⟩
theorem pe_callIS0 (c : StX.CallO X.K C g) (F : FnR X.prog X.w X.K X.mg X.base CX k g sp) (hr : Room k X.A) (hx : ∀ σ, PassesAt CX X σ (E σ)) (hN : X.N[i]? = some x) (hv : Vis X.env.scope x)
    (hd : (x == ("__debug__" : Str)) = false := by decide) (hcd : (x == ("__classdict__" : Str)) = false := by decide) : PE X (.Call (.Name x p) [] [] pos) (tCallIS i C sp E tNil) := by
  refine ⟨fun pins s σ H Q I h => ?_⟩
  obtain ⟨a, hs, ⟨dx, fs, hi⟩, h⟩ := h
  refine wpAny_Call_Name_kw (thn ((pe_var (pos := p) (i := i) hN hv hd hcd).run pins s σ H (fun v H1 => v = .ref a ∧ H1 = H) I ⟨.ref a, hs, rfl, rfl⟩) fun u s1 ⟨v, H1, I1, r1, ev, eH⟩ => ?_)
  subst ev
  rw [eH] at I1
  cases r1
  obtain ⟨mA, J, _⟩ := ins_get I1.hok hi
  obtain ⟨od, J, _⟩ := J.look
  exact PySem.W.kco_callWith0 (K := X.K) I1.kIn J rfl c.at_ (run_insS (us := []) c F hr (hx σ) I1 hi .nil h)
end
end Own

/-! Several except clauses, each with a name for the error. -/
namespace TryAs
open PySem PySem.Spec PyProof.Rows L2
abbrev Su := Addr → Value → Option Addr → TS
/-- the ends of a suite whose name in slot i goes behind it -/
def endsOf (i : Nat) (D : Ends) : Ends := { nx := fun σ' H' => D.nx (σ'.set i none) H', rt := D.rt, bk := fun σ' H' => D.bk (σ'.set i none) H', ct := fun σ' H' => D.ct (σ'.set i none) H' }
/-- what the clauses wish of an error, from the first on: class, slot of the name, suite -/
def wAsM (K : PySem.W.Frag) (Wout : WX) (D : Ends) : List (Value × Nat × Su) → WX
  | [] => Wout
  | (c, i, ts) :: r => fun cls d σ H => ∃ b, PySem.W.exmOne K cls c = some b ∧ (b = true → ∀ a, H a = none → ts a cls d (endsOf i D) (σ.set i (some (.ref a))) H) ∧ (b = false → wAsM K Wout D r cls d σ H)
inductive Hds (X : Cx) : List ExceptHandler → List (Value × Nat × Su) → Prop
  | nil : Hds X [] []
  | cons {x n : Str} {c : Value} {i : Nat} {ts : Su} {b₀ : Stmt} {suite : List Stmt} {np pos' : Pos} {hds : List ExceptHandler} {l : List (Value × Nat × Su)} (hi : X.N[i]? = some n) (hln : X.env.kindOf n = some .local) (hc : Names X x c)
      (hsu : ∀ (a : Addr) (oe : Obj) (cls : Value) (d : Option Addr) (pn : List (Addr × Obj)), Zc cls d oe → (∃ vs, oe.data = .fields vs) → PSs (X.suite a ((a, oe) :: pn)) (b₀ :: suite) (ts a cls d)) (r : Hds X hds l) :
      Hds X (.ExceptHandler (some (.Name x np)) (some n) (b₀ :: suite) pos' :: hds) ((c, i, ts) :: l)
section
variable {X : Cx} {body : List Stmt} {h₀ : ExceptHandler} {hds : List ExceptHandler} {l : List (Value × Nat × Su)} {pos : Pos} {tb : WX → TS} {Wout : WX}
theorem ps_try_asM (hs : X.stack = X.env :: X.outer) (hf : X.env.frame = some X.env.locals) (hN : X.N.Nodup) (tk : Takes X Wout)
    (hb : ∀ (W : WX) (pn : List (Addr × Obj)) (xe : Value → Shared → Prop), Takes (X.tr pn xe) W → PassesOwn (model X.prog X.w) X.A X.env xe → PSs (X.tr pn xe) body (tb W))
    (hh : Hds X (h₀ :: hds) l) : PS X (.Try body (h₀ :: hds) [] [] pos) (fun D σ H => tb (wAsM X.K Wout D l) D σ H) := by
  refine ⟨fun pins s σ H D I h => wpAny_Try_except ?_⟩
  have ok := I.ok
  have hfr : X.A.frames = some (X.env :: X.outer) := by rw [ok.frames, hs]
  refine wpAny_mono ((hb (wAsM X.K Wout D l) (X.pn ++ pins) (fun e s₁ => wpAny (model X.prog X.w) X.A (noteFrame e X.env) (fun _ s₂ => wpAny (model X.prog X.w) X.A (setFlight e none) (fun _ s₃ =>
    wpAny (model X.prog X.w) X.A (handleBy e X.env (h₀ :: hds)) (SP X pins D) X.xe s₃) X.xe s₂) X.xe s₁) (fun u s' xx => ?_) PassesOwn.looking).run [] s σ H D (I.toTry _) h) (fun f s1 hsp => ?_) (fun e s1 he => he)
  · obtain ⟨a, B, sI, pins', σ', H', cls, d, rfl, J', nb, up, sky, na, os, ag, w⟩ := xx
    have J : Inv X pins σ' H' sI := J'.ofTry ok
    show wpAny (model X.prog X.w) X.A (noteFrame (.ref a) X.env) _ _ _
    refine Sky.land Zc.steady hfr hf (show Sky B (X.env :: X.outer) a (Zc cls d) X.env.locals s'.heap by rw [← hs]; exact sky) fun h3 fl3 up3 => ?_
    have J3 : Inv X pins σ' H' { s' with heap := h3 } := J.landed nb fl3.1 (up.trans up3) os ag
    obtain ⟨oe3, vs3, he3, hz3, hd3⟩ := fl3.there
    have nfr : a ∉ frs (X.env :: X.outer) := fun hm => by
      obtain ⟨_, o', e', hnf⟩ := fl3.2.2.1.mem hm
      rw [he3] at e'
      cases e'
      exact hnf _ hd3
    have nL : a ≠ X.env.locals := fun z => nfr (List.mem_filterMap.mpr ⟨X.env, List.mem_cons_self, by rw [hf, z]⟩)
    have nF : a ∉ X.fs := fun hm => by
      obtain ⟨e, he, q⟩ := List.mem_filterMap.mp hm
      exact nfr (List.mem_filterMap.mpr ⟨e, List.mem_cons_of_mem _ he, q⟩)
    have S3 := J3.suite he3 hd3 na nL nF
    have go : ∀ {hds' : List ExceptHandler} {l' : List (Value × Nat × Su)}, Hds X hds' l' → wAsM X.K Wout D l' cls d σ' H' →
        wpAny (model X.prog X.w) X.A (handleBy (.ref a) X.env hds') (SP X pins D) X.xe { s' with heap := h3 } := fun {hds' l'} hk => by
      induction hk with
      | nil =>
        intro w
        refine wpAny_handleBy_nil ?_
        obtain ⟨k1, k2, k3, oe, vs, T, oT, ts', he, hz, hd, h1, hr⟩ := id fl3
        unfold PySem.passOn
        refine wpAny_bind (wpAny_field he hd h1 ?_)
        rw [if_neg (show ¬ ((Value.ref T == Value.none) = true) from by simp)]
        have fin : wpAny (model X.prog X.w) X.A (setFlight (.ref a) X.env.frame) (fun _ s4 => wpAny (model X.prog X.w) X.A (throw (.ref a) : Sem Flow) (SP X pins D) X.xe s4) X.xe { s' with heap := h3 } := by
          rw [hf]
          exact HandSPX.setFlight_upZ fl3 fun h4 hh4 up4 => wpAny_throw (tk _ _ ⟨a, B, sI, pins, σ', H', cls, d, rfl, J, nb, (up.trans up3).trans up4, .inr (.inr (by rw [hs]; exact hh4)), na, os, ag, w⟩)
        first
          | exact wpAny_bind (wpAny_pure (wpAny_bind fin))
          | exact wpAny_bind fin
      | @cons x n c i ts b₀ suite np pos' hds2 l2 hi hln hc hsu r ih =>
        intro w
        obtain ⟨b, hb1, hyes, hno⟩ := w
        refine wpAny_handleBy_cons (codeAny_handlers_test ?_) (by intro q; cases q)
        have LT : PySem.W.Looks (model X.prog X.w) h3 (typeOf (.ref a)) cls := fun A Q E s k q => wpAny_typeOf_ref (k _ _ he3) (by rw [hz3.1]; exact q)
        have LM := PySem.W.exm_one (M := model X.prog X.w) (J3.kIn) LT hb1
        have test : ∀ {Q : Value → Shared → Prop} {E : Value → Shared → Prop}, Q c { s' with heap := h3 } → wpAny (model X.prog X.w) (X.A.mark (some (.ref a))) (eval (.Name x np) X.env) Q E { s' with heap := h3 } := fun {Q E} q => by
          obtain ⟨hg, hdbg, hm | ⟨hm, hv, hnn⟩⟩ := hc
          · exact ld_glob (X := X.suite a ((a, oe3) :: (X.pn ++ pins))) S3 hg hm q hdbg
          · exact ld_blt (X := X.suite a ((a, oe3) :: (X.pn ++ pins))) S3 hg hm hv q hnn hdbg
        refine test (LM.here ?_)
        cases b with
        | false => exact ih (hno rfl)
        | true =>
          refine codeAny_handlers_suite_as (HandSPX.lands_againZ fl3 fun h4 fl4 up4 => ?_)
          have J4 : Inv X pins σ' H' { s' with heap := h4 } := J.landed nb fl4.1 ((up.trans up3).trans up4) os ag
          obtain ⟨oe4, vs4, he4, hz4, hd4⟩ := fl4.there
          refine store_ok (X := X.suite a ((a, oe4) :: (X.pn ++ pins))) (v := .ref a) (J4.suite he4 hd4 na nL nF) hN hi (.inl hln) rfl (fun s5 S5 => ?_) (.inr hln)
          refine wpAny_mono ((hsu a oe4 cls d (X.pn ++ pins) hz4 ⟨_, hd4⟩).run [] s5 _ H' _ S5 (hyes rfl a na)) (fun f s6 hsp => ?_) (fun _ _ z => False.elim z)
          cases f with
          | next =>
            obtain ⟨σ6, H6, S6, q6⟩ := hsp
            exact gone_ok (S6.unsuite ok) hN hi hln fun s7 J7 => ⟨_, _, J7, q6⟩
          | brk =>
            obtain ⟨σ6, H6, S6, q6⟩ := hsp
            exact gone_ok (S6.unsuite ok) hN hi hln fun s7 J7 => ⟨_, _, J7, q6⟩
          | cont =>
            obtain ⟨σ6, H6, S6, q6⟩ := hsp
            exact gone_ok (S6.unsuite ok) hN hi hln fun s7 J7 => ⟨_, _, J7, q6⟩
          | ret u =>
            obtain ⟨v6, σ6, H6, S6, r6, q6⟩ := hsp
            exact gone_ok (S6.unsuite ok) hN hi hln fun s7 J7 => ⟨_, _, _, J7, r6, q6⟩
    exact go hh w
  · cases f with
    | next =>
      obtain ⟨σ', H', J', q⟩ := hsp
      exact wpAny_execs_nil ⟨σ', H', J'.ofTry ok, q⟩
    | brk =>
      obtain ⟨σ', H', J', q⟩ := hsp
      exact ⟨σ', H', J'.ofTry ok, q⟩
    | cont =>
      obtain ⟨σ', H', J', q⟩ := hsp
      exact ⟨σ', H', J'.ofTry ok, q⟩
    | ret u =>
      obtain ⟨v, σ', H', J', r, q⟩ := hsp
      exact ⟨v, σ', H', J'.ofTry ok, r, q⟩
end
end TryAs

/-! len and in of instances by their own defs; methods that raise, in a try. -/
namespace Own
open PySem PySem.Spec PyProof.Rows L2
section
variable {X : Cx} {CX : CXT} {k : Nat} {C g : Addr} {sp : Sp} {E : XK}
def rLenO (C : Addr) (sp : Sp) (E : XK) : List V → Hp → VK → Prop := fun xs H Q => ∃ a dx fs, xs = [.ref a] ∧ H a = some (.ins C dx fs) ∧ sp [.ref a] H (fun v H' => ∃ n : Nat, v = .int n ∧ n < 2 ^ 62 ∧ Q v H') E
theorem call_lenO (F : FnR X.prog X.w X.K X.mg X.base CX k g sp) (hs : PySem.W.findIn X.K (.ref C) "__len__" = some (some (.ref g))) (hf : PySem.W.isFn X.K (.ref g) = true)
    (hr : Room (k + 1) X.A) (hx : Passes CX X E) : CallR X (.builtin "len") (rLenO C sp E) := by
  intro pins s σ H xs us Q I r h
  obtain ⟨a, dx, fs, rfl, ha, hsp⟩ := h
  obtain ⟨u, rfl, r1⟩ : ∃ u, us = [u] ∧ RelV (.ref a) u := by
    cases r with
    | cons r1 rr =>
      cases rr
      exact ⟨_, rfl, r1⟩
  cases r1
  obtain ⟨mA, J, _⟩ := ins_get I.hok ha
  obtain ⟨od, J, _⟩ := J.look
  obtain ⟨m, hF⟩ := I.fr
  refine PySem.W.len_K hF I.ok.mod.kin J hs hf (wpAny_mono (run_at F hr.in1 I.env0.frames hx I (us := [.ref a]) (vs := [.ref a]) (.cons rfl .nil) hsp) (fun u s' z => ?_) fun _ _ z => z)
  obtain ⟨v, H', I', rv, n, rfl, hn, q⟩ := z
  obtain ⟨t, rfl⟩ := rv
  exact ⟨⟨by omega, by omega⟩, .int n, H', I'.tok _, ⟨_, rfl⟩, q⟩
/-- x in o, o an instance -/
def rInO (C : Addr) (sp : Sp) (E : XK) : R2 := fun x y H Q => ∃ a dx fs, y = .ref a ∧ H a = some (.ins C dx fs) ∧ sp [.ref a, x] H (fun v H' => ∃ t, v = .bl t ∧ Q v H') E
theorem op_inO (F : FnR X.prog X.w X.K X.mg X.base CX k g sp) (hs : PySem.W.findIn X.K (.ref C) "__contains__" = some (some (.ref g))) (hf : PySem.W.isFn X.K (.ref g) = true)
    (hr : Room k X.A) (hx : Passes CX X E) : OpR X (compareOp .In) (rInO C sp E) := by
  intro pins s σ H x y v u Q I rx ry h
  obtain ⟨a, dx, fs, rfl, ha, hsp⟩ := h
  cases ry
  obtain ⟨mA, J, _⟩ := ins_get I.hok ha
  obtain ⟨od, J, _⟩ := J.look
  obtain ⟨m, hF⟩ := I.fr
  refine PySem.W.in_K hF I.ok.mod.kin J hs hf ?_
  refine wpAny_mono (run_at F hr I.env0.frames hx I (us := [.ref a, v]) (vs := [.ref a, x]) (.cons rfl (.cons rx .nil)) hsp) (fun u s' z => ?_) fun _ _ z => z
  obtain ⟨w, H', I', rv, t, rfl, q⟩ := z
  cases rv
  exact wpAny_truthy_bool ⟨.bl t, H', I', rfl, q⟩
end
section
variable {X : Cx} {CX : CXT} {k : Nat} {C f : Addr} {sp : Sp} {E : L2.St → XK} {m : Str} {o e : Expr} {es : List Expr} {t : TA} {ta : TE} {p pos apos : Pos}
/-- o.m(e, ..) that may raise, at the slots σ -/
def tMethS (C : Addr) (m : Str) (sp : Sp) (E : L2.St → XK) (ta : TE) (t : TA) : TE := fun σ H Q => ta σ H fun x H1 => ∃ a dx fs, x = .ref a ∧ H1 a = some (.ins C dx fs) ∧ fs.lookup m = none ∧ t σ H1 fun vs H2 => sp (x :: vs) H2 Q (E σ)
theorem pe_methW {pl : Sem Bool} (he : PE X o ta) (c : Cls X.K C) (hm : Meth X.K C m f) (F : FnR X.prog X.w X.K X.mg X.base CX k f sp) (hr : Room k X.A) (hx : ∀ σ, PassesAt CX X σ (E σ)) (ha : PA X (e :: es) t)
    (hst : starEach (e :: es) X.env = (false, eval e X.env) :: starEach es X.env := by rfl) (hpl : (backTo pos (starEach es X.env)).any (·.1) = false := by rfl)
    (ht : eval (.Call (.Attribute o m apos) (e :: es) [] pos) X.env = (do
      let ov ← eval o X.env
      standAt apos.atName
      let (f, first) ← holding [ov] (getMethod ov m pl)
      callWith pos f first (backTo pos (starEach (e :: es) X.env)) (backToKw pos (keywordEach [] X.env))) := by rfl) :
    PE X (.Call (.Attribute o m apos) (e :: es) [] pos) (tMethS C m sp E ta t) := by
  refine ⟨fun pins s σ H Q I h => ?_⟩
  refine PySem.W.methodCall_KW (pl := pl) (thn (he.run pins s σ H _ I h) fun u s1 ⟨x, H1, I1, rx, a, dx, fs, ex, ea, l, q⟩ => ?_) ht
  subst ex
  obtain rfl : u = Value.ref a := rx
  refine getmeth_ok I1 ea c hm l ?_
  refine PySem.W.callWith_K (first := [.ref a]) (h₀ := X.base) I.ok.mod.kin hm.kp (thn (ha.run pos pins s1 σ H1 _ I1 q) fun us s2 ⟨vs, H2, I2, r, q2⟩ => ⟨I2.kIn, ?_⟩) hst hpl
  exact wpAny_call (run_fnRS (us := .ref a :: us) (vs := .ref a :: vs) F hr (hx σ) I2 (.cons rfl r) q2)
end
end Own

namespace Law
open PySem PySem.Spec PyProof.Rows L2
def top (i : Nat) : Stmt := PySem.Challenge.pw_rungbounds_k23_lists_in_bounds.main.body.getD i (.Pass ⟨0, 0, 0, 0⟩)
abbrev sBox : Stmt := top 57
abbrev sTake : Stmt := top 58
/-- the box at b: the cells in the list at l, the place, what is left of a great cell, the seed -/
def Box (H : Hp) (b l : Addr) : Prop := ∃ (ns : List Int) (i : Nat) (q s : Int), H b = some (.lst [.ref l, .int i, .int q, .int s]) ∧ H l = some (.lst (ns.map V.int)) ∧ ns.length ≤ 63
theorem Box.ne {H : Hp} {b l : Addr} (B : Box H b l) : l ≠ b := fun z => by
  obtain ⟨ns, i, q, s, h1, h2, _⟩ := B
  rw [z, h1] at h2
  have e := HO.lst.inj (Option.some.inj h2)
  cases ns with
  | nil => cases e
  | cons n ns => cases e
theorem Box.keep {H H' : Hp} {b l : Addr} (B : Box H b l) (k : ∀ c, c = b ∨ c = l → H' c = H c) : Box H' b l := by
  obtain ⟨ns, i, q, s, h1, h2, h3⟩ := B
  exact ⟨ns, i, q, s, (k b (.inl rfl)).trans h1, (k l (.inr rfl)).trans h2, h3⟩
/-- a draw: 0 ≤ r < size; nothing but the box has changed -/
def spTake : Sp := fun vs H Q _ => ∃ (b l : Addr) (n : Int), vs = [.ref b, .int n] ∧ Box H b l ∧ 0 < n ∧ n.natAbs < 2 ^ 8000 ∧
  ∀ (r : Int) (H' : Hp), 0 ≤ r → r < n → Box H' b l → (∀ c, c ≠ b → H' c = H c) → Q (.int r) H'
def spBox (K : PySem.W.Frag) : Sp := fun vs H Q _ => ∃ (a : Addr) (ns : List Int), vs = [.ref a] ∧ SqL K H a (ns.map V.int) ∧ ns.length ≤ 63 ∧
  ∀ (b l : Addr) (H' : Hp), Box H' b l → H b = none → H l = none → Same H H' → Q (.ref b) H'
structure BoxTxt (K : PySem.W.Frag) (mg : Str → Option Value) : Prop where
  len : mg "len" = none
  int : mg "int" = none
section
variable {P : Program} {w : World} {K : PySem.W.Frag} {mg : Str → Option Value} {base : Heap}
theorem scTake : FnScope ["_law_box_here", "_law_size", "_law_cell", "_law_digit"] ["_law_box_here", "_law_size"] (defScope sTake) := ⟨rfl, rfl, rfl, by decide +kernel, rfl, by decide +kernel, by decide +kernel⟩
theorem if_t {c : Bool} {A B : Prop} (hc : c = true) (h : A) : if c = true then A else B := by
  rw [hc]
  exact h
theorem if_f {c : Bool} {A B : Prop} (hc : c = false) (h : B) : if c = true then A else B := by
  rw [hc]
  exact h
theorem pow18 : CPow 10 18 := ⟨by decide, by decide, by decide⟩
theorem at_box {l : Addr} {i q s : Int} : atI [V.ref l, .int i, .int q, .int s] 0 = some (.ref l) ∧ atI [V.ref l, .int i, .int q, .int s] 1 = some (.int i) ∧ atI [V.ref l, .int i, .int q, .int s] 2 = some (.int q) ∧ atI [V.ref l, .int i, .int q, .int s] 3 = some (.int s) := ⟨rfl, rfl, rfl, rfl⟩
theorem ok_take {f : Addr} {fd : FuncData} (F : Fun K "_law_take" "_law_take" sTake f fd) (T : BoxTxt K mg) : FnOk P w K mg base CX0 1 f fd ["_law_box_here", "_law_size"] spTake := by
  refine F.ok scTake (fun vs H Q E h => ?_) (fun cdv A outer s H vs Q E hr h => ?_)
  · obtain ⟨b, l, n, rfl, _⟩ := h
    rfl
  · obtain ⟨b, l, n, rfl, B, hn0, hn1, k⟩ := h
    refine ⟨_, C8.pss_cut (ps_if (PW.pt (pw_and (pt_cmpR op_lt (pe_ix ix_list (pv 0) pe_int (fun _ _ => rfl)) pe_int (nomark _))
          (pw_and1 (pt_cmpR op_lt (pe_ix ix_list (pv 0) pe_int (fun _ _ => rfl)) (pe_callB call_len_seq (by rfl) T.len PySem.boot_len (pa_cons (pe_ix ix_list (pv 0) pe_int (fun _ _ => rfl)) pa_nil)) (nomark _)))))
        (pss_cons (ps_set (i := 2) scTake.nd rfl (Or.inl rfl) (pe_ix ix_list (pe_ix ix_list (pv 0) pe_int (fun _ _ => rfl)) (pe_ix ix_list (pv 0) pe_int (fun _ _ => rfl)) (fun _ _ => rfl)))
        (pss_cons (ps_asg (pe_op op_add (pe_ix ix_list (pv 0) pe_int (fun _ _ => rfl)) pe_int) (pg_sub (pv 0) pe_int set_list))
        (pss_one (ps_if (pt_cmpR op_ge (pv 2) (pe_op op_pow pe_int pe_int) (nomark _))
          (pss_one (ps_asg (pe_op op_sub (pv 2) (pe_op op_pow pe_int pe_int)) (pg_sub (pv 0) pe_int set_list)))
          (pss_one (ps_asg (pe_op op_mod (pe_callTy call_int1 (by rfl) T.int (by decide +kernel) (pa_cons (pe_op op_add (pe_op op_add (pe_op op_mul (pe_ix ix_list (pv 0) pe_int (fun _ _ => rfl)) pe_int) (pe_op op_mul (pv 2) pe_int)) pe_int) pa_nil)) pe_int) (pg_sub (pv 0) pe_int set_list)))))))
        pss_nil)
      (pss_cons (ps_if (pt_cmpR op_gt (pe_ix ix_list (pv 0) pe_int (fun _ _ => rfl)) pe_int (nomark _))
        (pss_cons (ps_set (i := 3) scTake.nd rfl (Or.inl rfl) (pe_op op_mod (pe_callTy call_int1 (by rfl) T.int (by decide +kernel) (pa_cons (pe_ix ix_list (pv 0) pe_int (fun _ _ => rfl)) pa_nil)) (pv 1)))
        (pss_cons (ps_asg (pe_op op_fdivW (pe_ix ix_list (pv 0) pe_int (fun _ _ => rfl)) (pv 1)) (pg_sub (pv 0) pe_int set_list))
        (pss_one (ps_ret (pv 3))))) pss_nil)
      (pss_cons (ps_asg (pe_op op_mod (pe_callTy call_int1 (by rfl) T.int (by decide +kernel) (pa_cons (pe_op op_mul (pe_ix ix_list (pv 0) pe_int (fun _ _ => rfl)) pe_int) pa_nil)) pe_int) (pg_sub (pv 0) pe_int set_list))
      (pss_one (ps_ret (pe_op op_mod (pe_callTy call_int1 (by rfl) T.int (by decide +kernel) (pa_cons (pe_op op_fdiv (pe_ix ix_list (pv 0) pe_int (fun _ _ => rfl)) pe_int) pa_nil)) (pv 1)))))), ?_⟩
    obtain ⟨ns, i, q, sd, hb, hl, h63⟩ := id B
    have hne := B.ne
    have keepB : ∀ {H' : Hp} {i' : Nat} {q' s' : Int}, H' b = some (.lst [.ref l, .int i', .int q', .int s']) → (∀ c, c ≠ b → H' c = H c) → Box H' b l :=
      fun {H' i' q' s'} h1 h2 => ⟨ns, i', q', s', h1, (h2 l hne).trans hl, h63⟩
    refine ⟨fun σ' H' => ∃ (v : Option V) (i' : Nat) (q' s' : Int), σ' = [some (.ref b), some (.int n), v, none] ∧ H' b = some (.lst [.ref l, .int i', .int q', .int s']) ∧ ∀ c, c ≠ b → H' c = H c, ?_, ?_⟩
    · -- a new cell is read, or not
      refine ⟨_, rfl, b, _, _, _, rfl, rfl, SqL.of hb, at_box.2.2.1, _, _, rfl, rfl, _, rfl, ?_⟩
      by_cases c1 : q < 1
      · refine if_t (decide_eq_true c1) ?_
        refine ⟨_, rfl, b, _, _, _, rfl, rfl, SqL.of hb, at_box.2.1, _, rfl, b, _, _, _, rfl, rfl, SqL.of hb, at_box.1, l, _, rfl, .inl (SqL.of hl), _, _, rfl, rfl, _, rfl, ?_⟩
        by_cases c2 : (i : Int) < ((ns.map V.int).length : Int)
        · refine if_t (decide_eq_true c2) ?_
          rw [List.length_map] at c2
          obtain ⟨z, hz⟩ : ∃ z, ns[i]? = some z := ⟨_, List.getElem?_eq_getElem (by omega)⟩
          have hz' : atI (ns.map V.int) (i : Int) = some (V.int z) := atI_nat (by rw [List.getElem?_map, hz]; rfl)
          refine ⟨_, rfl, b, _, _, _, rfl, rfl, SqL.of hb, at_box.1, _, rfl, b, _, _, _, rfl, rfl, SqL.of hb, at_box.2.1, l, _, _, _, rfl, rfl, SqL.of hl, hz', ?_⟩
          refine ⟨_, rfl, b, _, _, _, rfl, rfl, SqL.of hb, at_box.2.1, _, _, rfl, rfl, _, rfl, b, _, _, 1, rfl, rfl, hb, rfl, ?_⟩
          have h1 : ∀ (o : HO), upd H b o b = some o := fun o => upd_same
          have hc : ∀ (o : HO) c, c ≠ b → upd H b o c = H c := fun o c hc => upd_ne hc
          refine ⟨_, rfl, _, _, rfl, rfl, pow18, _, _, rfl, rfl, _, rfl, ?_⟩
          refine ite2 (fun _ => ?_) fun _ => ?_
          · refine ⟨_, rfl, _, _, rfl, rfl, pow18, _, _, rfl, rfl, _, rfl, b, _, _, 2, rfl, rfl, h1 _, rfl, ?_⟩
            exact ⟨some (.int z), i + 1, _, sd, rfl, upd_same, fun c hc' => by rw [upd_ne hc', upd_ne hc']⟩
          · refine ⟨_, rfl, b, _, _, _, rfl, rfl, SqL.of (h1 _), at_box.2.2.2, _, _, rfl, rfl, .inr ⟨by decide, by decide⟩, _, rfl, _, _, rfl, rfl, .inr ⟨by decide, by decide⟩, _, _, rfl, rfl, _, _, rfl, rfl, .inl ⟨_, rfl, _, _, rfl, rfl, (by show (0 : Int) < 2147483647; decide), _, rfl, b, _, _, 3, rfl, rfl, h1 _, rfl, ?_⟩⟩
            exact ⟨some (.int z), i + 1, q, _, rfl, upd_same, fun c hc' => by rw [upd_ne hc', upd_ne hc']⟩
        · refine if_f (decide_eq_false c2) ?_
          exact ⟨none, i, q, sd, rfl, hb, fun _ _ => rfl⟩
      · refine if_f (decide_eq_false c1) ?_
        exact ⟨none, i, q, sd, rfl, hb, fun _ _ => rfl⟩
    · rintro σ' H' ⟨v, i', q', s', rfl, hb', ho⟩
      refine ⟨_, rfl, b, _, _, _, rfl, rfl, SqL.of hb', at_box.2.2.1, _, _, rfl, rfl, _, rfl, ?_⟩
      refine ite2 (fun _ => ?_) fun _ => ?_
      · refine ⟨_, rfl, b, _, _, _, rfl, rfl, SqL.of hb', at_box.2.2.1, .inl ⟨_, rfl, _, rfl, _, _, rfl, rfl, hn0, ?_⟩⟩
        refine ⟨_, rfl, b, _, _, _, rfl, rfl, SqL.of hb', at_box.2.2.1, _, rfl, _, _, rfl, rfl, wide_div hn0 hn1 (by decide) (by decide), _, rfl, b, _, _, 2, rfl, rfl, hb', rfl, _, rfl, ?_⟩
        exact k _ _ (Int.emod_nonneg _ (by omega)) (Int.emod_lt_of_pos _ hn0) (keepB (q' := q' / n) upd_same fun c hc => (upd_ne hc).trans (ho c hc)) fun c hc => (upd_ne hc).trans (ho c hc)
      · refine ⟨_, rfl, b, _, _, _, rfl, rfl, SqL.of hb', at_box.2.2.2, _, _, rfl, rfl, .inr ⟨by decide, by decide⟩, .inl ⟨_, rfl, _, _, rfl, rfl, (by show (0 : Int) < 2147483647; decide), _, rfl, b, _, _, 3, rfl, rfl, hb', rfl, ?_⟩⟩
        refine ⟨_, rfl, b, _, _, _, rfl, rfl, SqL.of upd_same, at_box.2.2.2, _, _, rfl, rfl, ⟨by decide, by decide⟩, .inl ⟨_, rfl, _, rfl, _, _, rfl, rfl, hn0, ?_⟩⟩
        exact k _ _ (Int.emod_nonneg _ (by omega)) (Int.emod_lt_of_pos _ hn0) (keepB upd_same fun c hc => (upd_ne hc).trans (ho c hc)) fun c hc => (upd_ne hc).trans (ho c hc)

theorem cut63 {xs : List V} (h : xs.length ≤ 63) : cutV xs none (some 63) = xs := by
  unfold cutV
  have e0 : HT.sIx xs.length 0 none = 0 := rfl
  have e1 : HT.sIx xs.length xs.length (some 63) = xs.length := by
    unfold HT.sIx
    simp
    omega
  rw [e0, e1, List.drop_zero, Nat.sub_zero, List.take_length]
theorem scBox : FnScope ["_law_script", "_law_cell"] ["_law_script"] (defScope sBox) := ⟨rfl, rfl, rfl, by decide +kernel, rfl, by decide +kernel, by decide +kernel⟩
theorem ok_box {f : Addr} {fd : FuncData} (F : Fun K "_law_box" "_law_box" sBox f fd) (T : BoxTxt K mg) : FnOk P w K mg base CX0 1 f fd ["_law_script"] (spBox K) := by
  refine F.ok scBox (fun vs H Q E h => ?_) (fun cdv A outer s H vs Q E hr h => ?_)
  · obtain ⟨a, ns, rfl, _⟩ := h
    rfl
  · obtain ⟨a, ns, rfl, hS, h63, k⟩ := h
    refine ⟨_, pss_one (ps_ret (pe_lst (pa_cons (pe_lc (own := [("_law_cell", 1)]) (g := gName 1) (tt := tYes) (by rfl) scBox.nd (pi_list (pe_slice sl_list (pv 0) po_none (po_some pe_int)))
        (blkOk_by (own := [("_law_cell", 1)]) (N := ["_law_script", "_law_cell"]) (sc := defScope sBox) (by decide +kernel)) (fun _ _ _ _ _ => pg_name (i := 1) scBox.nd rfl (Or.inl rfl)) (fun _ _ _ _ _ => pts_nil)
        (fun _ _ _ _ _ => pe_callTy call_int1 (by rfl) T.int (by decide +kernel) (pa_cons (pv 1) pa_nil))) (pa_cons pe_int (pa_cons pe_int (pa_cons pe_int pa_nil)))))), ?_⟩
    have e63 : cutV (ns.map V.int) none (some 63) = ns.map V.int := cut63 (by rw [List.length_map]; exact h63)
    refine ⟨_, rfl, 63, rfl, a, _, rfl, hS, fun p hp => ?_⟩
    rw [e63]
    refine ⟨p, rfl, ⟨_, SqL.of upd_same⟩, fun D hD => ?_⟩
    have hpD : p ≠ D := fun z => by
      rw [z, upd_same] at hD
      cases hD
    have hD0 : H D = none := by rw [upd_ne (Ne.symm hpD)] at hD; exact hD
    refine lc_list (K := K) (a := p) (xs := ns.map V.int) (fun i H' => H' D = some (.lst ((ns.take i).map V.int)) ∧ H' p = some (.lst (ns.map V.int)) ∧ ∀ c, c ≠ D → c ≠ p → H' c = H c)
      ⟨upd_same, by rw [upd_ne hpD, upd_same], fun c h1 h2 => by rw [upd_ne h1, upd_ne h2]⟩ (fun i H' _ h => SqL.of h.2.1) ?_ ?_
    · rintro i y H' hi ⟨g1, g2, g3⟩
      obtain ⟨z, hz, rfl⟩ : ∃ z, ns[i]? = some z ∧ y = V.int z := by
        rw [List.getElem?_map] at hi
        cases e : ns[i]? with
        | none =>
          rw [e] at hi
          cases hi
        | some z =>
          rw [e] at hi
          exact ⟨z, rfl, (Option.some.inj hi).symm⟩
      refine ⟨rfl, ?_⟩
      have step : ∃ acc, H' D = some (.lst acc) ∧ acc.length < sizeLine ∧ (upd H' D (.lst (acc ++ [V.int z]))) D = some (.lst ((ns.take (i + 1)).map V.int)) ∧ (upd H' D (.lst (acc ++ [V.int z]))) p = some (.lst (ns.map V.int)) ∧
          ∀ c, c ≠ D → c ≠ p → (upd H' D (.lst (acc ++ [V.int z]))) c = H c := by
        refine ⟨_, g1, ?_, ?_⟩
        · rw [List.length_map, List.length_take]
          exact small1000 (by omega)
        · refine ⟨?_, by rw [upd_ne hpD]; exact g2, fun c h1 h2 => by rw [upd_ne h1]; exact g3 c h1 h2⟩
          rw [upd_same, List.take_succ, hz, Option.toList_some, List.map_append]
          rfl
      exact ⟨V.int z, rfl, .inl ⟨z, rfl, step⟩⟩
    · rintro H' ⟨g1, g2, g3⟩
      rw [List.length_map, List.take_length] at g1
      refine ⟨(by show 4 ≤ sizeLine; decide), fun b hb => ?_⟩
      have hDb : D ≠ b := ne_of_none g1 hb
      have hpb : p ≠ b := ne_of_none g2 hb
      refine k b D _ ⟨ns, 0, 0, 0, upd_same, by rw [upd_ne hDb]; exact g1, h63⟩ (by rw [← g3 b (Ne.symm hDb) (Ne.symm hpb)]; exact hb) hD0 fun c o hc => ?_
      have n1 : c ≠ D := ne_of_none hc hD0
      have n2 : c ≠ p := ne_of_none hc hp
      have n3 : c ≠ b := fun z => by
        rw [z, ← g3 b (Ne.symm hDb) (Ne.symm hpb), hb] at hc
        cases hc
      rw [upd_ne n3, g3 c n1 n2]
      exact hc
end
end Law



namespace Law
open PySem PySem.Spec PyProof.Rows L2 Sup
abbrev sErr : Stmt := inClass (top 3) 0
abbrev sChk : Stmt := top 15
/-- the way out by BadNumber -/
def Bad (C : Addr) (E : XK) (H : Hp) (v : Int) : Prop := ∀ d, H d = none → E (.ref C) (some d) (upd H d (.xd [("value", .int v)]))
def spChk (C : Addr) : Sp := fun vs H Q E => ∃ i : Int, vs = [.int i] ∧ i.natAbs < 2 ^ 1000 ∧ (i < 0 → Bad C E H i) ∧ (0 ≤ i → Q .non H)
theorem log_of {i : Int} {k : Nat} (hk : 0 < k) (h : i.natAbs < 2 ^ k) : i.natAbs.log2 < k := by
  by_cases hz : i.natAbs = 0
  · rw [hz, Nat.log2_zero]
    exact hk
  · exact (Nat.log2_lt hz).mpr h
section
variable {P : Program} {w : World} {K : PySem.W.Frag} {mg : Str → Option Value} {base : Heap} {C : Addr}
theorem scChk : FnScope ["number"] ["number"] (defScope sChk) := ⟨rfl, rfl, rfl, by decide +kernel, rfl, by decide +kernel, by decide +kernel⟩
theorem ok_chk {f : Addr} {fd : FuncData} (F : Fun K "check_not_negative" "check_not_negative" sChk f fd) (R : ErrOk P w K mg base "BadNumber" C "value" okInt) : FnOk P w K mg base (L2.CX P w) 4 f fd ["number"] (spChk C) := by
  refine F.okX scChk (fun vs H Q E h => ?_) (fun cdv A outer s H vs Q E hr h => ?_)
  · obtain ⟨i, rfl, _⟩ := h
    rfl
  · obtain ⟨i, rfl, hi, h1, h2⟩ := h
    refine ⟨_, pss_one (ps_if (pt_cmpR op_lt (pv 0) pe_int (nomark _)) (pss_one (ps_err R rfl (takes_of rfl rfl rfl rfl) hr (pa_cons (pv 0) pa_nil) rfl)) pss_nil), ?_⟩
    refine ⟨_, rfl, _, _, rfl, rfl, _, rfl, ?_⟩
    by_cases c : i < 0
    · refine if_t (decide_eq_true c) ⟨_, rfl, err_way ⟨i, rfl, log_of (by decide) (Nat.lt_of_lt_of_le hi (Nat.pow_le_pow_right (by decide) (by decide)))⟩ (h1 c)⟩
    · exact if_f (decide_eq_false c) (h2 (by omega))
end
def Sz (i : Int) : Prop := i.natAbs < 2 ^ 200
theorem Sz.mul {a b : Int} (ha : a.natAbs < 2 ^ 300) (hb : b.natAbs < 2 ^ 300) : CMulW a b := wide_mul ha hb (by decide) (by decide) (by decide)
theorem Sz.w {a : Int} (ha : Sz a) : a.natAbs < 2 ^ 300 := Nat.lt_of_lt_of_le ha (Nat.pow_le_pow_right (by decide) (by decide))
theorem Sz.t {a : Int} (ha : Sz a) : a.natAbs < 2 ^ 1000 := Nat.lt_of_lt_of_le ha (Nat.pow_le_pow_right (by decide) (by decide))
theorem Sz.of {i : Int} (h : i.natAbs ≤ 10 ^ 42) : Sz i := Nat.lt_of_le_of_lt h (by decide +kernel)
theorem pow_ok {j : Int} (h : 0 ≤ j ∧ j ≤ 1000000) : CPow 10 j := ⟨h.1, h.2, by decide⟩
theorem size_fit {n : Int} (h0 : 0 < n) (h : n ≤ 10 ^ 40) : n.natAbs < 2 ^ 8000 := by
  have h1 : n.natAbs ≤ 10 ^ 40 := by omega
  exact Nat.lt_of_le_of_lt h1 (by decide +kernel)
end Law

/-! Names, errors and the defs that check a name: for programs without a rack. -/
namespace Law
open PySem PySem.Spec PyProof.Rows L2 Sup
abbrev sCkn : Stmt := top 14
def letters : Str := "abcdefghijklmnopqrstuvwxyz"
/-- a name that breaks the rule for names -/
def badN (y : Str) : Bool := decide (y.length < 1) || decide (12 < y.length) || y.cps.toList.any fun c => !decide (c ∈ letters.cps.toList)
/-- a text that errors may tell -/
def Fit (y : Str) : Prop := y.length ≤ 60 ∧ ∀ c ∈ y.cps.toList, c < 1114112
theorem Fit.ok {y : Str} (h : Fit y) : okTxt (.str y) := ⟨y, rfl, by
  have := StrLaws.reprText_len y fun c hc => Nat.lt_of_lt_of_le (h.2 c hc) (by decide)
  have := h.1
  omega⟩
/-- the way out by an own error with one field, from a heap in which all stands as it stood -/
def BadX (C : Addr) (fl : Str) (E : XK) (H : Hp) (v : V) : Prop := ∀ (H' : Hp) (d : Addr), Same H H' → H' d = none → E (.ref C) (some d) (upd H' d (.xd [(fl, v)]))
abbrev Row := Str × Int
def known (rows : List Row) (y : Str) : Bool := (rows.map (·.1)).contains y
structure Errs where
  N : Addr
  T : Addr
  B : Addr
  M : Addr
  U : Addr
  P : Addr
  S : Addr
def spCkn (C : Errs) : Sp := fun vs H Q E => ∃ y : Str, vs = [.str y] ∧ Fit y ∧ (badN y = true → BadX C.N "name" E H (.str y)) ∧ (badN y = false → Q .non H)
structure NameTxt (K : PySem.W.Frag) (mg : Str → Option Value) : Prop where
  letters : ∃ t, mg "LETTERS" = some (.str letters t)
  longest : ∃ t, mg "LONGEST_NAME" = some (.int 12 t)
  len : mg "len" = none
section
variable {P : Program} {w : World} {K : PySem.W.Frag} {mg : Str → Option Value} {base : Heap} {C : Errs}
theorem scCkn : FnScope ["name", "letter"] ["name"] (defScope sCkn) := ⟨rfl, rfl, rfl, by decide +kernel, rfl, by decide +kernel, by decide +kernel⟩
theorem ok_ckn {f : Addr} {fd : FuncData} (F : Fun K "check_name" "check_name" sCkn f fd) (RN : ErrOk P w K mg base "BadName" C.N "name" okTxt) (T : NameTxt K mg) : FnOk P w K mg base (L2.CX P w) 4 f fd ["name"] (spCkn C) := by
  obtain ⟨t1, T1⟩ := T.letters
  obtain ⟨t2, T2⟩ := T.longest
  refine F.okX scCkn (fun vs H Q E h => ?_) (fun cdv A outer s H vs Q E hr h => ?_)
  · obtain ⟨y, rfl, _⟩ := h
    rfl
  · obtain ⟨y, rfl, fy, h1, h2⟩ := h
    have hr3 : Room 3 _ := hr
    refine ⟨_, (pss_cons (ps_if (pt_not (pt_chain op_le op_le pe_int (pe_callB call_len_str (by rfl) T.len PySem.boot_len (pa_cons (pv 0) pa_nil)) (pe_glob (v := .int 12) rfl T2 ⟨_, rfl⟩))) (pss_one (ps_err RN rfl (takes_of rfl rfl rfl rfl) hr3 (pa_cons (pv 0) pa_nil) rfl)) pss_nil)
      (pss_one (ps_for (passes_of rfl) rfl (pi_str (pv 0)) (pg_name (i := 1) scCkn.nd rfl (Or.inl rfl)) (pss_one (ps_if (pt_cmpR op_notIn_sign (pv 1) (pe_glob (v := .str letters) rfl T1 ⟨_, rfl⟩) rfl) (pss_one (ps_err RN rfl (takes_of rfl rfl rfl rfl) hr3 (pa_cons (pv 0) pa_nil) rfl)) pss_nil))))), ?_⟩
    have way : badN y = true → okTxt (.str y) ∧ ∀ d, H d = none → E (.ref C.N) (some d) (upd H d (.xd [("name", .str y)])) := fun hb => ⟨fy.ok, fun d hd => h1 hb H d (fun _ _ e => e) hd⟩
    refine ⟨_, rfl, y, rfl, by have := fy.1; rw [sizeLine_eq]; omega, _, _, rfl, rfl, _, rfl, ?_⟩
    by_cases c0 : (1 : Int) ≤ (y.length : Int)
    · refine if_t (decide_eq_true c0) ⟨_, _, rfl, rfl, _, rfl, ?_⟩
      by_cases c1 : (y.length : Int) ≤ 12
      · refine if_f (by rw [decide_eq_true c1]; rfl) ?_
        have e0 : decide (y.length < 1) = false := decide_eq_false (by omega)
        have e1 : decide (12 < y.length) = false := decide_eq_false (by omega)
        refine ⟨_, rfl, y, rfl, for_it walk_str (fun i σ' H' => ∃ v : Option V, σ' = [some (.str y), v] ∧ H' = H ∧ (y.cps.toList.take i).any (fun c => !decide (c ∈ letters.cps.toList)) = false) ⟨_, rfl, rfl, by simp⟩ (fun _ _ _ _ _ => True.intro) ?_ ?_⟩
        · rintro i x σ' H' H'' hi ⟨v, rfl, rfl, ha⟩ ⟨rfl, c, hc, rfl⟩
          have hc' : y.cps.toList[i]? = some c := by rw [← hc]; simp
          refine ⟨_, rfl, c, letters, rfl, rfl, _, rfl, ?_⟩
          by_cases cl : c ∈ letters.cps.toList
          · refine if_f (by rw [decide_eq_true cl]; rfl) ⟨_, rfl, rfl, ?_⟩
            rw [List.take_succ, hc', Option.toList_some, List.any_append, ha, List.any_cons, decide_eq_true cl]
            rfl
          · refine if_t (by rw [decide_eq_false cl]; rfl) ⟨_, rfl, ?_⟩
            obtain ⟨z1, z2⟩ := way (by
              unfold badN
              have : y.cps.toList.any (fun c => !decide (c ∈ letters.cps.toList)) = true := List.any_eq_true.mpr ⟨c, List.mem_of_getElem? hc', by simp [cl]⟩
              rw [this, Bool.or_true])
            exact err_way z1 z2
        · rintro σ' H' ⟨v, rfl, rfl, ha⟩
          refine h2 ?_
          unfold badN
          rw [e0, e1]
          rw [List.take_of_length_le (by simp)] at ha
          rw [ha]
          rfl
      · refine if_t (by rw [decide_eq_false c1]; rfl) ⟨_, rfl, ?_⟩
        obtain ⟨z1, z2⟩ := way (by
          unfold badN
          rw [decide_eq_true (show 12 < y.length by omega), Bool.or_true, Bool.true_or])
        exact err_way z1 z2
    · refine if_f (decide_eq_false c0) ⟨_, rfl, ?_⟩
      refine if_t rfl ⟨_, rfl, ?_⟩
      obtain ⟨z1, z2⟩ := way (by
        unfold badN
        rw [decide_eq_true (show y.length < 1 by omega), Bool.true_or, Bool.true_or])
      exact err_way z1 z2
end
end Law


/-! What the law's own defs of several laws want: comprehensions told by a function, draws, texts as data. -/
namespace Law
open PySem PySem.Spec PyProof.Rows L2
def SameB (b : Addr) (H H' : Hp) : Prop := ∀ c o, c ≠ b → H c = some o → H' c = some o
theorem SameB.of {b : Addr} {H H' : Hp} (k : ∀ c, c ≠ b → H' c = H c) : SameB b H H' := fun c o n e => (k c n).trans e
theorem SameB.trans {b : Addr} {H H1 H2 : Hp} (s : SameB b H H1) (t : SameB b H1 H2) : SameB b H H2 := fun c o n e => t c o n (s c o n e)
theorem SameB.of_same {b : Addr} {H H' : Hp} (s : Same H H') : SameB b H H' := fun c o _ e => s c o e
theorem same_tr {H H1 H2 : Hp} (s : Same H H1) (t : Same H1 H2) : Same H H2 := fun c o e => t c o (s c o e)
theorem same_rfl {H : Hp} : Same H H := fun _ _ e => e
theorem Room.u65 {k : Nat} {A : Around} (r : Room k A) : A.units + 65 < cLine := by have := r.un; omega
theorem Box.free {H : Hp} {b l d : Addr} (B : Box H b l) (h : H d = none) : b ≠ d ∧ l ≠ d := by
  obtain ⟨ns, i, q, s, h1, h2, _⟩ := B
  exact ⟨ne_of_none h1 h, ne_of_none h2 h⟩
theorem Box.at {H : Hp} {b l d : Addr} {o : HO} (B : Box H b l) (n : b ≠ d ∧ l ≠ d) : Box (upd H d o) b l := B.keep fun c hc => by
  rcases hc with rfl | rfl
  · exact upd_ne n.1
  · exact upd_ne n.2
theorem Box.same {H H' : Hp} {b l : Addr} (B : Box H b l) (s : Same H H') : Box H' b l := by
  obtain ⟨ns, i, q, s', h1, h2, h3⟩ := B
  exact ⟨ns, i, q, s', s _ _ h1, s _ _ h2, h3⟩
theorem Box.neT {H : Hp} {b l c : Addr} {xs : List V} (B : Box H b l) (h : H c = some (.tup xs)) : c ≠ b := fun z => by
  obtain ⟨_, _, _, _, q, _⟩ := B
  rw [z, q] at h
  cases h
theorem Box.neD {H : Hp} {b l c : Addr} {kv : List (Key × V)} (B : Box H b l) (h : H c = some (.dK kv)) : c ≠ b ∧ c ≠ l := by
  obtain ⟨_, _, _, _, q, q2, _⟩ := B
  exact ⟨fun z => (by rw [z, q] at h; cases h), fun z => (by rw [z, q2] at h; cases h)⟩
theorem Box.neI {H : Hp} {b l c C dx : Addr} {fs : List (Str × V)} (B : Box H b l) (h : H c = some (.ins C dx fs)) : c ≠ b ∧ c ≠ l := by
  obtain ⟨_, _, _, _, q, q2, _⟩ := B
  exact ⟨fun z => (by rw [z, q] at h; cases h), fun z => (by rw [z, q2] at h; cases h)⟩
theorem same_new {H : Hp} {p : Addr} {o : HO} (h : H p = none) : Same H (upd H p o) := fun b o' e => by
  rw [upd_ne (ne_of_none e h)]
  exact e
theorem none_back {H H' : Hp} {x : Addr} (s : Same H H') (h : H' x = none) : H x = none := by
  cases e : H x with
  | none => rfl
  | some o =>
    have z := s _ _ e
    rw [h] at z
    cases z
/-- within a comprehension whose turn i adds out i (or nothing), all else new -/
def LcP (D : Addr) (H1 : Hp) (out : Nat → Option V) (i : Nat) (H : Hp) : Prop := H D = some (.lst ((List.range i).filterMap out)) ∧ Same H1 H
section
variable {D : Addr} {H1 H H4 : Hp} {out : Nat → Option V} {i : Nat} {y : V}
theorem LcP.start (hD : H1 D = none) : LcP D H1 out 0 (upd H1 D (.lst [])) := ⟨upd_same, same_new hD⟩
theorem fm_len (i : Nat) : ((List.range i).filterMap out).length ≤ i := by
  have := List.length_filterMap_le out (List.range i)
  rw [List.length_range] at this
  exact this
theorem fm_succ : (List.range (i + 1)).filterMap out = (List.range i).filterMap out ++ (out i).toList := by
  rw [List.range_succ, List.filterMap_append]
  cases e : out i <;> simp [e]
theorem LcP.push (h : LcP D H1 out i H) (hD : H1 D = none) (s : Same H H4) (ho : out i = some y) (hi : i < 1000) :
    ∃ acc, H4 D = some (.lst acc) ∧ acc.length < sizeLine ∧ LcP D H1 out (i + 1) (upd H4 D (.lst (acc ++ [y]))) := by
  refine ⟨_, s _ _ h.1, small1000 (Nat.le_of_lt (Nat.lt_of_le_of_lt (fm_len i) hi)), ?_, fun b o e => ?_⟩
  · rw [upd_same, fm_succ, ho]
    rfl
  · rw [upd_ne (ne_of_none e hD)]
    exact s _ _ (h.2 _ _ e)
theorem LcP.skip (h : LcP D H1 out i H) (s : Same H H4) (ho : out i = none) : LcP D H1 out (i + 1) H4 := by
  refine ⟨?_, same_tr h.2 s⟩
  rw [fm_succ, ho, s _ _ h.1]
  simp
end
theorem range_fm {α β : Type} (f : α → Option β) (xs : List α) : (List.range xs.length).filterMap (fun i => xs[i]?.bind f) = xs.filterMap f := by
  induction xs with
  | nil => rfl
  | cons x xs ih =>
    rw [List.length_cons, List.range_succ_eq_map, List.filterMap_cons, List.filterMap_map, List.filterMap_cons]
    have e : (fun i => (x :: xs)[i]?.bind f) ∘ Nat.succ = fun i => xs[i]?.bind f := by
      funext i
      simp
    rw [e, ih]
    simp
theorem range_id {α : Type} (xs : List α) : (List.range xs.length).filterMap (fun i : Nat => xs[i]?) = xs := by
  have e := range_fm (some : α → Option α) xs
  have e1 : (fun i : Nat => xs[i]?.bind some) = fun i : Nat => xs[i]? := by
    funext i
    cases xs[i]? <;> rfl
  rw [e1] at e
  rw [e]
  simp
theorem fm_any {α β : Type} (p : α → Bool) (f : α → β) (xs : List α) : decide ((0 : Int) < (((xs.filterMap fun c => if p c = true then none else some (f c)).length : Nat) : Int)) = xs.any fun c => !p c := by
  induction xs with
  | nil => rfl
  | cons x xs ih =>
    rw [List.filterMap_cons, List.any_cons, ← ih]
    cases h : p x with
    | true => simp
    | false =>
      simp
theorem at_nat {xs : List V} {j : Nat} {v : V} (h : xs[j]? = some v) : atI xs (j : Int) = some v := atI_nat h
/-! texts as data -/
theorem ok_str {y : Str} (h : ∀ c ∈ y.cps.toList, c < 1114112) : PyData.canLay0 (.str y) = true := by
  have e : PyData.canLay0 (.str y) = PyData.strOk y := by simp only [PyData.canLay0]
  rw [e]
  unfold PyData.strOk
  rw [← Array.all_toList, List.all_eq_true]
  intro c hc
  exact decide_eq_true (h c hc)
theorem ok_strs : ∀ {ys : List Str}, (∀ y ∈ ys, ∀ c ∈ y.cps.toList, c < 1114112) → PyData.canLayAll0 (ys.map PyData.str) = true
  | [], _ => by simp only [List.map_nil, PyData.canLayAll0]
  | y :: ys, h => by
    rw [List.map_cons]
    simp only [PyData.canLayAll0]
    rw [Bool.and_eq_true]
    exact ⟨ok_str (h y List.mem_cons_self), ok_strs fun x hx => h x (List.mem_cons_of_mem _ hx)⟩
theorem deep_strs : ∀ ys : List Str, PyData.depthAll (ys.map PyData.str) = 0
  | [] => by simp [PyData.depthAll]
  | y :: ys => by
    rw [List.map_cons]
    simp [PyData.depthAll, PyData.depth, deep_strs ys]
theorem shaped_str {y : Str} (h : ∀ c ∈ y.cps.toList, c < 1114112) : SeqAt.shaped (.str y) = true := by
  unfold SeqAt.shaped
  rw [ok_str h]
  simp [PyData.depth]
theorem shaped_strs {ys : List Str} (h : ∀ y ∈ ys, ∀ c ∈ y.cps.toList, c < 1114112) : SeqAt.shaped (.list (ys.map PyData.str)) = true := by
  unfold SeqAt.shaped
  have e : PyData.canLay0 (.list (ys.map PyData.str)) = true := by
    simp only [PyData.canLay0]
    exact ok_strs h
  rw [e]
  simp [PyData.depth, deep_strs]
theorem dp_strs {K : PySem.W.Frag} {H : Hp} : ∀ ys : List Str, DpAll K H (ys.map V.str) (ys.map PyData.str)
  | [] => .nil
  | _ :: ys => .cons (.str _) (dp_strs ys)
theorem any_strs (ys : List Str) (y : Str) : ((ys.map PyData.str).any fun z => PyData.eqv z (.str y)) = ys.contains y := by
  induction ys with
  | nil => rfl
  | cons x ys ih =>
    rw [List.map_cons, List.any_cons, ih, List.contains_cons]
    have e : PyData.eqv (.str x) (.str y) = (y == x) := by
      simp only [PyData.eqv]
      by_cases h : x = y
      · subst h
        rfl
      · have h1 : (x == y) = false := by simpa using h
        have h2 : (y == x) = false := by simpa using fun z => h z.symm
        rw [h1, h2]
    rw [e]
/-- two shaped data that are told the same are equal -/
theorem eqv_rfl {d : PyData} (h : SeqAt.shaped d = true) : PyData.eqv d d = true := SeqAt.eqv_refl _ (SeqAt.canLay_of_shaped h)
theorem shaped_pair {a b : PyData} (ha : PyData.canLay0 a = true) (hb : PyData.canLay0 b = true) (da : PyData.depth a = 0) (db : PyData.depth b = 0) : SeqAt.shaped (.tuple [a, b]) = true := by
  unfold SeqAt.shaped
  have e : PyData.canLay0 (.tuple [a, b]) = true := by
    simp only [PyData.canLay0, PyData.canLayAll0, ha, hb]
    rfl
  rw [e]
  simp [PyData.depth, PyData.depthAll, da, db]
/-! texts joined without a separator, and cut -/
theorem joinL_mem : ∀ {ls : List (List Nat)} {c : Nat}, c ∈ TL.joinL [] ls → ∃ x ∈ ls, c ∈ x
  | [], c, h => by cases h
  | [p], c, h => ⟨p, List.mem_cons_self, h⟩
  | p :: q :: r, c, h => by
    rcases List.mem_append.mp h with h | h
    · exact ⟨p, List.mem_cons_self, h⟩
    · obtain ⟨x, hx, hc⟩ := joinL_mem (ls := q :: r) h
      exact ⟨x, List.mem_cons_of_mem _ hx, hc⟩
theorem joinL_len : ∀ (ls : List (List Nat)), (TL.joinL [] ls).length = (ls.map List.length).sum
  | [] => rfl
  | [p] => by simp [TL.joinL]
  | p :: q :: r => by
    show (p ++ ([] ++ TL.joinL [] (q :: r))).length = _
    rw [List.nil_append, List.length_append, joinL_len (q :: r)]
    rfl
theorem join_cps (ys : List Str) : (Txt.join "" ys).cps.toList = TL.joinL [] (ys.map fun y => y.cps.toList) := by
  have e := TL.tl_join ("" : Str) ys
  have e2 : Txt.join "" ys = Str.join "" ys := TL.join_eq _ _
  rw [e2]
  exact e
theorem cut_mem {z : Str} {lo hi : Option Int} {c : Nat} (h : c ∈ (cutS z lo hi).cps.toList) : c ∈ z.cps.toList := by
  unfold cutS at h
  exact List.mem_of_mem_drop (List.mem_of_mem_take (by simpa using h))
theorem cut_len {z : Str} {lo hi : Option Int} : (cutS z lo hi).length ≤ z.length := by
  show (((z.cps.toList.drop _).take _).toArray).size ≤ z.cps.size
  simp
  omega
theorem cps_app (a b : Str) : (a ++ b).cps.toList = a.cps.toList ++ b.cps.toList := TL.tl_append a b
end Law

namespace Law
open PySem PySem.Spec PyProof.Rows L2
/-- the law's own rows: a list of tuples -/
def RowsAt (H : Hp) (l : Addr) (rows : List Row) : Prop := ∃ ts : List Addr, H l = some (.lst (ts.map V.ref)) ∧ ts.length = rows.length ∧ ∀ (i : Nat) (t : Addr) (y : Str) (L : Int), ts[i]? = some t → rows[i]? = some (y, L) → H t = some (.tup [.str y, .int L])
theorem RowsAt.same {H H' : Hp} {l : Addr} {rows : List Row} (h : RowsAt H l rows) (s : Same H H') : RowsAt H' l rows := by
  obtain ⟨ts, h1, h2, h3⟩ := h
  exact ⟨ts, s _ _ h1, h2, fun i t y L e1 e2 => s _ _ (h3 i t y L e1 e2)⟩
theorem RowsAt.neB {H : Hp} {l b l0 : Addr} {rows : List Row} (h : RowsAt H l rows) (B : Box H b l0) : l ≠ b := fun z => by
  obtain ⟨ts, h1, _⟩ := h
  obtain ⟨_, _, _, _, q, _⟩ := B
  rw [z, q] at h1
  have e := HO.lst.inj (Option.some.inj h1)
  match ts, e with
  | [], e => cases e
  | [_], e => cases e
  | _ :: _ :: _, e =>
    rw [List.map_cons, List.map_cons] at e
    injection e with _ e
    injection e with e _
    cases e
theorem RowsAt.sameB {H H' : Hp} {l b l0 : Addr} {rows : List Row} (h : RowsAt H l rows) (B : Box H b l0) (s : SameB b H H') : RowsAt H' l rows := by
  have n := h.neB B
  obtain ⟨ts, h1, h2, h3⟩ := h
  exact ⟨ts, s _ _ n h1, h2, fun i t y L e1 e2 => s _ _ (B.neT (h3 i t y L e1 e2)) (h3 i t y L e1 e2)⟩
theorem RowsAt.len {H : Hp} {l : Addr} {rows : List Row} (h : RowsAt H l rows) : ∃ xs, H l = some (.lst xs) ∧ xs.length = rows.length := by
  obtain ⟨ts, h1, h2, _⟩ := h
  exact ⟨_, h1, by rw [List.length_map, h2]⟩
theorem RowsAt.at {H : Hp} {l : Addr} {rows : List Row} {i : Nat} {y : Str} {L : Int} (h : RowsAt H l rows) (e : rows[i]? = some (y, L)) : ∃ xs t, H l = some (.lst xs) ∧ xs[i]? = some (.ref t) ∧ H t = some (.tup [.str y, .int L]) := by
  obtain ⟨ts, h1, h2, h3⟩ := h
  have hi : i < rows.length := (List.getElem?_eq_some_iff.mp e).1
  have hi' : i < ts.length := by omega
  exact ⟨_, ts[i], h1, by rw [List.getElem?_map, List.getElem?_eq_getElem hi']; rfl, h3 i _ y L (List.getElem?_eq_getElem hi') e⟩
end Law

/-! for (a, b), c in d.items(), d with tuple keys: the key's own tuple and the value, in a new pair. -/
namespace DTX
open PySem PySem.Spec PyProof.Rows L2
section
variable {X : Cx} {pins : List (Addr × Obj)} {σ : L2.St} {H : Hp} {s : Shared} {d : Addr} {o : Obj}
theorem frzT {kvs : List (List Key × V)} (I : Inv X pins σ H s) (h : H d = some (.frz o (.dT kvs))) :
    (d == sysModules) = false ∧ s.heap.get? d = some o ∧ o.ExactDict ∧ ∃ (es : Array DictEntry) (ep : Nat), o.data = .dict es ep ∧ es.size = kvs.length ∧
      ∀ (i : Nat) (k : List Key) (v : V), kvs[i]? = some (k, v) → ∃ (en : DictEntry) (q : Addr), es[i]? = some en ∧ en.key = .ref q ∧ H q = some (.tup (k.map kV)) ∧ RelV v en.val := by
  obtain ⟨hd, z, hs, xs, pr, o', es, ep, ho, hx, hdt, he, _⟩ := I.hok d _ h
  rw [hd] at ho
  cases ho
  refine ⟨hs, hd, hx, es, ep, hdt, ?_, fun i k v e => ?_⟩
  · have l1 : es.size = xs.length := size_of_entries he
    have l2 : kvs.length = xs.length := Paired.length pr
    omega
  · obtain ⟨b, hb, e1, e2, e3⟩ := L2.paired_get pr e
    have q := entry_at he i
    rw [hb] at q
    exact ⟨_, b.2.1, q, rfl, e2, e3⟩
end
def Itit (d : Addr) (o : Obj) (kvs : List (List Key × V)) : It :=
  ⟨fun i H => H d = some (.frz o (.dT kvs)) ∧ i < kvs.length, fun i H x H' => ∃ T q k v, kvs[i]? = some (k, v) ∧ x = .ref T ∧ H q = some (.tup (k.map kV)) ∧ H T = none ∧ H' = upd H T (.tup [.ref q, v]), fun i H => H d = some (.frz o (.dT kvs)) ∧ kvs.length ≤ i⟩
theorem turn_itemsT {P : Program} {w : World} {K : PySem.W.Frag} {d : Addr} {o : Obj} {es : Array DictEntry} {ep : Nat} {kvs : List (List Key × V)} {elts : List Expr} {kk : Nat} {tpos : Pos} (it : Addr) (hod : o.data = .dict es ep) :
    Turn P w K (.Tuple elts kk tpos) (Itit d o kvs) [it] it (fun i h => ∃ ok ov, IsItemIter h it d i kvs.length ep ok ov) where
  mem := by simp
  obj := fun i h st b hb => by
    have e : b = it := by simpa using hb
    subst e
    obtain ⟨ok, ov, e⟩ := st
    exact ⟨_, e, fun v z => nomatch z⟩
  keep := fun i h h' st k => let ⟨ok, ov, e⟩ := st; ⟨ok, ov, k it (by simp) _ e⟩
  item := by
    intro X hP hw hK hc i pins s σ H E I hf st hg
    subst hP hw hK
    obtain ⟨hd, hi⟩ := hg
    obtain ⟨hs, hgd, hx, es', ep', hdt, hsz, ent⟩ := frzT I hd
    obtain ⟨rfl, rfl⟩ := dict_ep hod hdt
    obtain ⟨⟨k, v⟩, hkv⟩ : ∃ p, kvs[i]? = some p := ⟨kvs[i], List.getElem?_eq_getElem hi⟩
    obtain ⟨en, q, hen, hkey, hq, ru⟩ := ent i k v hkv
    obtain ⟨ok, ov, he⟩ := st
    rw [← hsz] at he
    have hlt : it < s.heap.objs.size := Heap.lt_size he
    have hie : i < es'.size := by omega
    have een : es'[i] = en := by
      rw [Array.getElem?_eq_getElem hie] at hen
      exact Option.some.inj hen
    refine DT.nextI he ⟨o, hgd, hx, hdt⟩ hie fun h' ho hT hz hk => ?_
    rw [een] at ho hT
    rw [hkey] at ho hT
    refine ⟨_, rfl, wpAny_letOwnedTupleGo_items (s := { s with heap := h' }) ho fun h'' he' sb => ?_⟩
    have hT2 : h''.get? s.heap.objs.size = some { cls := .type "tuple", data := .seq #[.ref q, en.val] } := (sb.2 _ (Nat.ne_of_gt hlt)).trans hT
    have new : ObjOk X.prog X.w (upd H s.heap.objs.size (.tup [.ref q, v])) h'' s.heap.objs.size (.tup [.ref q, v]) :=
      ⟨by show 2 ≤ sizeLine; decide, [.ref q, en.val], .cons rfl (.cons ru .nil), ⟨_, hT2, rfl, _, rfl⟩⟩
    have I1 : Inv X pins σ (upd H s.heap.objs.size (.tup [.ref q, v])) { s with heap := h'' } :=
      I.turnedNew (t' := s.toks) (ch := [it]) (fun b ob hb e => (sb.2 b (by simpa using hb)).trans (hk b ob (by simpa using hb) e)) hf (Nat.le_refl _) new
    refine ⟨.ref s.heap.objs.size, _, I1, rfl, ⟨_, q, k, v, hkv, rfl, hq, I.hok.fresh (Nat.le_refl _), rfl⟩, ⟨.ref q, en.val, ?_⟩, fun b hb => ?_⟩
    · rw [← hsz]; exact he'
    · have e : b = it := by simpa using hb
      rw [e, upd_ne (Nat.ne_of_lt hlt)]
      exact (hf it (by simp)).1
  done := by
    intro X hP hw hK hc i pins s σ H E I hf st hg
    subst hP hw hK
    obtain ⟨hd, hi⟩ := hg
    obtain ⟨f0, f1, f2, f3, f4, f5⟩ := hf it (by simp)
    obtain ⟨hs, hgd, hx, es', ep', hdt, hsz, ent⟩ := frzT I hd
    obtain ⟨rfl, rfl⟩ := dict_ep hod hdt
    obtain ⟨ok, ov, he⟩ := st
    rw [← hsz] at he
    exact DT.endI (I.ok.hd hc) he ⟨o, hgd, hx, hdt⟩ (by omega) fun h' eb => ⟨rfl, I.turned (t' := s.toks) (fun b ob hb e => eb b ob hb e) f0 f1 f3 f4 f5⟩
  self := fun A i s Q E st h => let ⟨_, _, e⟩ := st; PySem.W.kcp_self e h
def iItemsT (td : TE) : TI := fun σ H R => td σ H fun x H1 => ∃ d o kvs, x = .ref d ∧ H1 d = some (.frz o (.dT kvs)) ∧ R (Itit d o kvs) H1
theorem pi_itemsT {X : Cx} {e : Expr} {td : TE} {apos cpos : Pos} {elts : List Expr} {kk : Nat} {tpos : Pos} (he : PE X e td) (hbase : attributeBase e "items" X.env (eval e X.env) = eval e X.env := by rfl) (hline : (apos.endLine == cpos.line) = true := by rfl) :
    PI X (.Tuple elts kk tpos) (.Call (.Attribute e "items" apos) [] [] cpos) (iItemsT td) := by
  refine ⟨fun pins s σ H R I h => ?_⟩
  refine wpAny_Call_method (T := "dict") (id := "dict.items") hbase rfl hline F.plainAttrs_dict F.slot_dict_items F.type_dict_items (thn (he.run pins s σ H _ I h) fun u s1 ⟨x, H1, I1, rx, d, o, kvs, ex, hd, q⟩ => ?_)
  subst ex
  obtain rfl : u = Value.ref d := rx
  obtain ⟨hs, hgd, hx, es, ep, hdt, hsz, ent⟩ := frzT I1 hd
  have raw : DT.Raw s1.heap d es ep := ⟨o, hgd, hx, hdt⟩
  refine ⟨raw.typeIs, ?_, ?_⟩
  · intro a e
    cases e
    exact ⟨o, hgd, hx.2.1⟩
  have I2 : Inv X pins σ H1 { s1 with heap := s1.heap.push { cls := .type "dict_items", data := .fields #[.ref d] } } := I1.kept (t' := s1.toks) fun b ob q => Heap.get?_push_of_some _ q
  have fin : wpAny (model X.prog X.w) X.A (pyIter (.ref s1.heap.objs.size)) (PIE X pins σ (.Tuple elts kk tpos) R) X.xe { s1 with heap := s1.heap.push { cls := .type "dict_items", data := .fields #[.ref d] } } := by
    refine DT.iterI (d := d) ⟨_, Heap.get?_push_size _ rfl, rfl, rfl⟩ (raw.push _) (pi_one (tk := s1.toks) I2 _ (turn_itemsT _ hdt) ⟨.none, .none, ?_⟩ q)
    rw [← hsz]
    exact Heap.get?_push_size _ rfl
  show wpAny _ _ (callWith cpos (.builtin "dict.items") [.ref d] [] []) _ X.xe s1
  exact method_meetsIn F.slot_dict_items F.entry_dict_items rfl (PySem.evalArgs_none ⟨rfl, raw.typeIs, F.args_dict_items_1 _, _, DT.meetsItems (es := es) (ep := ep) hs, raw, fin⟩)
theorem walk_itemsT {d : Addr} {o : Obj} {kvs : List (List Key × V)} : Walk (Itit d o kvs) kvs.length (fun H => H d = some (.frz o (.dT kvs)))
    (fun i H x H' => ∃ T q k v, kvs[i]? = some (k, v) ∧ x = .ref T ∧ H q = some (.tup (k.map kV)) ∧ H T = none ∧ H' = upd H T (.tup [.ref q, v])) :=
  ⟨fun i _ hi q => ⟨q, hi⟩, fun _ q => ⟨q, Nat.le_refl _⟩, fun i H v H' _ q y => y⟩
end DTX

/-! {k: v for ..} where the keys are tuples that stand. -/
namespace DcT
open PySem PySem.Spec PyProof.Rows L2
section
variable {X : Cx}
theorem put_ok {pins : List (Addr × Obj)} {σ : L2.St} {H : Hp} {s : Shared} {E : Value → Shared → Prop} {D b : Addr} {kvs : List (List Key × V)} {k : List Key} {v : V} {r : Value} {Q : Unit → Shared → Prop} (hu : X.A.units < cLine) (I : L2.Inv X pins σ H s)
    (hD : H D = some (.dT kvs)) (hb : H b = some (.tup (k.map kV))) (hz : kvs.length < sizeLine) (rv : RelV v r) (h : ∀ s', L2.Inv X pins σ (upd H D (.dT (putK kvs k v))) s' → Q () s') : wpAny (model X.prog X.w) X.A (dictSet D (.ref b) r) Q E s := by
  obtain ⟨z, hd, xs, rel, dd⟩ := dt_of I.hok hD
  have l1 : xs.length ≤ sizeLine := by rw [← Paired.length rel]; exact z
  have l2 : (putK kvs k v).length ≤ sizeLine := by have := length_putK kvs k v; omega
  refine wpAny_dictSet_heap (hsz := l1) (show (tupleKind (mixKind X.prog X.w)).room X.A from hu) (key_of I.hok hb) dd fun h' dd' hs => h _ ?_
  obtain ⟨q, es, ep, hq, h2, h3, h4, _, h5⟩ := dd'
  refine d_write I (by rw [hD]; exact True.intro) hs ⟨q, hq⟩ ⟨l2, hd, _, (rel.put k hb rv).keeps fun c ys ec => ?_, q, es, ep, hq, h2, h3, h4, h5⟩
  rw [upd_ne (ne_of ec hD (fun z => nomatch z))]
  exact ec
/-- the reading: D the new dict -/
def tDcT (wi : TI) (g : TG) (tt : TT) (tk tv : TE) (vs : List Nat) : TE := fun σ H Q => wi σ H fun J H1 => ∀ D, H1 D = none → ∃ W : Nat → Nat → Hp → Prop, (∃ m, W 0 m (upd H1 D (.dT []))) ∧ ∀ i m H, W i m H →
  (J.stop i H ∧ Q (.ref D) H) ∨ (J.go i H ∧ ∃ Nx : Hp → Prop, (∀ H', Nx H' → ∃ m', m' < m ∧ W (i + 1) m' H') ∧ ∀ x H', J.yld i H x H' → g x (wipe σ vs) H' fun σ2 H2 => wipe σ2 vs = wipe σ vs ∧ tt σ2 H2 fun c H3 =>
    if c = true then tk σ2 H3 fun y H4 => tv σ2 H4 fun z H5 => ∃ kvs k b, y = .ref b ∧ H5 D = some (.dT kvs) ∧ H5 b = some (.tup (k.map kV)) ∧ kvs.length < sizeLine ∧ Nx (upd H5 D (.dT (putK kvs k z))) else Nx H3)
variable {kx vx tg iter : Expr} {ifs : List Expr} {scope : Scope} {own : List (Str × Nat)} {wi : TI} {g : TG} {tt : TT} {tk tv : TE}
/-- its parts, in whatever block -/
structure Parts (X : Cx) (kx vx tg iter : Expr) (ifs : List Expr) (scope : Scope) (own : List (Str × Nat)) (wi : TI) (g : TG) (tt : TT) (tk tv : TE) : Prop where
  calm : X.calm = true
  nd : X.N.Nodup
  it : PI X tg iter wi
  ok : BlkOk X.N X.env.scope scope own
  tgt : ∀ s H C cl fp, PG (X.blk s H scope (compEnvC scope cl C X.env) fp) tg g
  tst : ∀ s H C cl fp, PTs (X.blk s H scope (compEnvC scope cl C X.env) fp) ifs tt
  key : ∀ s H C cl fp, PE (X.blk s H scope (compEnvC scope cl C X.env) fp) kx tk
  val : ∀ s H C cl fp, PE (X.blk s H scope (compEnvC scope cl C X.env) fp) vx tv
  fold : ∀ x, foldedSetIterable iter X.env x = pure x
  un : X.A.units < cLine
theorem core {pins : List (Addr × Obj)} {s : Shared} {σ : L2.St} {H : Hp} {Q : VK} {pos pos' : Pos} {use : Option (Value → Sem Unit)} {Qf : Value → Shared → Prop}
    (P : Parts X kx vx tg iter ifs scope own wi g tt tk tv) (I : L2.Inv X pins σ H s) (h : tDcT wi g tt tk tv (own.map (·.2)) σ H Q)
    (hRR : ∀ (D : Addr) (C : Addr) s' m H', L2.Inv X pins σ H' s' → Q (.ref D) H' → s'.heap.Ns C m → FpOk X pins H' C → compPost (model X.prog X.w) X.A X.xe use Qf (.ref D) C (.ok .next) s') :
    wpAny (model X.prog X.w) X.A (comprehension (.DictComp kx vx [⟨tg, iter, ifs, 0⟩] scope pos) scope X.env pos' newDict false (eval iter X.env) use) Qf X.xe s := by
  have ok := P.ok
  have free : ∀ y ∈ scope.names, y.2 = .free → ∃ c, X.env.cells.lookup y.1 = some c := fun y hy e => (ok.free y hy e).elim (fun k => I.ok.has _ (.inl k)) fun k => I.ok.has _ (.inr k)
  refine wpAny_comprehension_free (use := use) rfl P.fold (closure_ok free) ok.kind (fun y hy e => (ok.uniq y hy).trans (congrArg some e))
    (thn (P.it.run pins s σ H _ I h) fun v0 s1 k1 => thn k1 fun v1 s2 k2 => ?_)
  obtain ⟨it, fp, tn, J, H2, rfl, I2, T, t2, f2, q⟩ := k2
  refine wpAny_newObj_type (newEnv_comp ?_)
  obtain ⟨D, hD⟩ : ∃ D, D = s2.heap.objs.size := ⟨_, rfl⟩
  rw [← hD]
  have nD : H2 D = none := I2.hok.fresh (Nat.le_of_eq hD.symm)
  obtain ⟨Wv, ⟨m0, w0⟩, turn⟩ := q D nD
  obtain ⟨s3, hs3⟩ : ∃ s3 : Shared, s3 = { s2 with heap := s2.heap.push { cls := .type "dict", data := .dict #[] } } := ⟨_, rfl⟩
  have I3 : L2.Inv X pins σ (upd H2 D (.dT [])) s3 := by
    subst hs3 hD
    exact I2.laid (t' := s2.toks) (fun b o e => Heap.get?_push_of_some _ e) (Nat.le_refl _) (dt_empty s2.heap I2.big)
  have old : ∀ b o, s2.heap.get? b = some o → s3.heap.get? b = some o := fun b o e => by
    rw [hs3]
    exact Heap.get?_push_of_some _ e
  have lt2 : ∀ b ∈ fp, b < s2.heap.objs.size := fun b hb => by
    obtain ⟨o, e, _⟩ := T.obj _ _ t2 b hb
    exact Heap.lt_size e
  have f3 : ∀ b ∈ fp, FpOk X pins (upd H2 D (.dT [])) b ∧ b < s3.heap.objs.size := fun b hb => by
    have l := lt2 b hb
    refine ⟨⟨(upd_ne (by rw [hD]; exact Nat.ne_of_lt l)).trans (f2 b hb).1, (f2 b hb).2⟩, ?_⟩
    rw [hs3]
    show b < (s2.heap.push _).objs.size
    rw [Heap.size_push]
    exact Nat.lt_succ_of_lt l
  have t3 : tn 0 s3.heap := T.keep _ _ _ t2 fun b _ o e => old b o e
  have I4 := block_start I3 ok P.nd f3
  obtain ⟨H3, hH3⟩ : ∃ H3, H3 = upd H2 D (.dT []) := ⟨_, rfl⟩
  rw [← hH3] at I3 I4 f3 w0
  obtain ⟨cl, hcl⟩ : ∃ cl, cl = cellsFrom (s3.heap.objs.size + 1) scope.names (cloFrom X.env.cells scope.names []) := ⟨_, rfl⟩
  rw [← hcl] at I4
  have pgT := P.tgt s3 H3 s3.heap.objs.size cl fp
  have ptT := P.tst s3 H3 s3.heap.objs.size cl fp
  have pkT := P.key s3 H3 s3.heap.objs.size cl fp
  have pvT := P.val s3 H3 s3.heap.objs.size cl fp
  obtain ⟨s4, hs4⟩ : ∃ s4 : Shared, s4 = { s3 with heap := pushCells (s3.heap.push { cls := .type "dict", data := .dict #[] }) scope.names } := ⟨_, rfl⟩
  rw [← hs4] at I4
  have t4 : tn 0 s4.heap := T.keep _ _ _ t3 fun b _ o e => by
    rw [hs4]
    exact pushCells_keeps _ _ _ _ (Heap.get?_push_of_some _ e)
  have key : codeAny (model X.prog X.w) X.A (.compStart (.DictComp kx vx [⟨tg, iter, ifs, 0⟩] scope pos) 0 (.ref it) (.ref D) (compEnvC scope cl s3.heap.objs.size X.env))
      (compPost (model X.prog X.w) X.A X.xe use Qf (.ref D) s3.heap.objs.size) s4 := by
    obtain ⟨ce, hce⟩ : ∃ ce, ce = compEnvC scope cl s3.heap.objs.size X.env := ⟨_, rfl⟩
    rw [← hce] at I4 pgT ptT pkT pvT ⊢
    have cL : ce.locals = s3.heap.objs.size := by rw [hce]; rfl
    have nfp : ∀ b ∈ fp, H3 b = none := fun b hb => (f3 b hb).1.1
    have stat : ∀ {τ : L2.St} {H' : Hp} {s' : Shared}, L2.Inv (X.blk s3 H3 scope ce fp) [] τ H' s' → (∀ b ∈ fp, H' b = none) → ∀ b ∈ fp, FpOk (X.blk s3 H3 scope ce fp) [] H' b := fun {τ H' s'} I' hn b hb =>
      ⟨hn b hb, (I'.ok.exf b hb).1, I'.ok.exfs b hb, .inl hb, fun x c e => (I'.ok.exf b hb).2 x c e, fun p hp => nomatch (show p ∈ ([] : List (Addr × Obj)) from hp)⟩
    have loop : codeAny (model X.prog X.w) X.A (.compLoop (.DictComp kx vx [⟨tg, iter, ifs, 0⟩] scope pos) 0 (.ref it) (.ref D) ce) (compPost (model X.prog X.w) X.A X.xe use Qf (.ref D) s3.heap.objs.size) s4 := by
      refine compLoop_anyD (fun n s' => ∃ i H', L2.Inv (X.blk s3 H3 scope ce fp) [] (wipe σ (own.map (·.2))) H' s' ∧ tn i s'.heap ∧ (∀ b ∈ fp, H' b = none) ∧ Wv i n H') ?_ m0 ⟨0, H3, I4, t4, nfp, w0⟩
      rintro n s5 ⟨i, H5, I5, t5, n5, w5⟩
      rcases turn i n H5 w5 with ⟨stop, qq⟩ | ⟨go, Nx, hNx, step⟩
      · refine thnF (T.done (X.blk s3 H3 scope ce fp) rfl rfl rfl P.calm i [] s5 _ H5 (fun _ _ => False) I5 (stat I5 n5) t5 stop) fun r s6 ⟨hr, I6⟩ => ?_
        subst hr
        have I7 : L2.Inv X pins σ H5 s6 := I3.call' (ch := fp) I6.os I6.base I6.hok I6.bare fun b hb => by
          obtain ⟨_, z1, _, z3, z4, z5⟩ := (f3 b hb).1
          exact ⟨z3, z1, z4, z5⟩
        have nC : H5 ce.locals = none := I6.free
        obtain ⟨m, hn, _⟩ := I6.loc
        have hn : s6.heap.Ns ce.locals m := hn
        rw [cL] at hn nC
        exact hRR D _ s6 m H5 I7 qq hn (I3.fpOk (Nat.le_refl _) nC)
      · refine thnF (T.item (X.blk s3 H3 scope ce fp) rfl rfl rfl P.calm i [] s5 _ H5 (fun _ _ => False) I5 (stat I5 n5) t5 go) fun r s6 ⟨u, hr, h6⟩ => ?_
        subst hr
        refine thnF h6 fun _ s7 ⟨x, H7, I7, r7, y7, t7, n7⟩ => ?_
        have I7' := I7.pinned (stat I7 n7) (T.obj _ _ t7)
        refine thnF (pgT.run _ s7 _ H7 x u _ I7' r7 (step x H7 y7)) fun _ s8 ⟨τ, H8, I8, hw, q8⟩ => ?_
        refine thnF (ptT.run _ s8 τ H8 _ I8 q8) fun b s9 ⟨H9, I9, q9⟩ => ?_
        have fin : ∀ {s' : Shared} {H' : Hp}, L2.Inv (X.blk s3 H3 scope ce fp) ([] ++ pinsAt fp s7.heap) τ H' s' → Nx H' →
            ∃ m, m < n ∧ ∃ i H', L2.Inv (X.blk s3 H3 scope ce fp) [] (wipe σ (own.map (·.2))) H' s' ∧ tn i s'.heap ∧ (∀ b ∈ fp, H' b = none) ∧ Wv i m H' := fun {s' H'} I' nx => by
          obtain ⟨m', hm, w'⟩ := hNx H' nx
          have pin : ∀ b ∈ fp, ∀ o, s7.heap.get? b = some o → s'.heap.get? b = some o ∧ H' b = none := fun b hb o e => by
            have z := I'.pin (b, o) (List.mem_append_right _ (List.mem_append_right _ (mem_pinsAt hb e)))
            exact ⟨z.1, z.2.1⟩
          refine ⟨m', hm, i + 1, H', (I'.unpinned (pins := [])).weak ?_ fun j v e => ?_, T.keep _ _ _ t7 fun b hb o e => (pin b hb o e).1, fun b hb => ?_, w'⟩
          · rw [← hw, wipe_length]
          · rw [← hw] at e
            exact (wipe_some e).1
          · obtain ⟨o, e, _⟩ := T.obj _ _ t7 b hb
            exact (pin b hb o e).2
        cases b with
        | false =>
          rw [if_neg Bool.false_ne_true] at q9 ⊢
          exact fin I9 q9
        | true =>
          rw [if_pos rfl] at q9 ⊢
          refine thnF (pkT.run _ s9 τ H9 _ I9 q9) fun ku s10 ⟨yk, H10, I10, r10, q10⟩ => ?_
          refine thnF (pvT.run _ s10 τ H10 _ I10 q10) fun vu s11 ⟨yv, H11, I11, r11, kvs, k, b, ek, hD11, hb11, hz11, nx⟩ => ?_
          subst ek
          obtain rfl : ku = Value.ref b := r10
          exact put_ok (X := X.blk s3 H3 scope ce fp) P.un I11 hD11 hb11 hz11 r11 fun s12 I12 => fin I12 nx
    exact codeAny_compStart_dict loop (T.self X.A 0 _ _ _ t4 loop)
  subst hs4 hcl hs3
  exact key
/-- as a value -/
theorem pe_dcT {pos : Pos} (P : Parts X kx vx tg iter ifs scope own wi g tt tk tv) : PE X (.DictComp kx vx [⟨tg, iter, ifs, 0⟩] scope pos) (tDcT wi g tt tk tv (own.map (·.2))) := by
  refine ⟨fun pins s σ H Q I h => ?_⟩
  rw [arm_eval_DictComp]
  refine core P I h fun D C s' m H' I' q hn f => ⟨m, hn, fun h'' sb => ?_⟩
  obtain ⟨f0, f1, f2, f3, f4, f5⟩ := f
  exact ⟨.ref D, H', I'.turned (t' := s'.toks) (fun b o hb e => (sb.2 b hb).trans e) f0 f1 f3 f4 f5, rfl, q⟩
/-- over a walk -/
theorem dcT_it {J : It} {n : Nat} {G : Hp → Prop} {Y : Nat → Hp → V → Hp → Prop} (w : Walk J n G Y) {vs : List Nat} {σ : L2.St} {H1 : Hp} {D : Addr} {Qd : Hp → Prop} (Pv : Nat → Hp → Prop) (h0 : Pv 0 (upd H1 D (.dT []))) (hG : ∀ i H, i ≤ n → Pv i H → G H)
    (hs : ∀ i x H H', i < n → Pv i H → Y i H x H' → g x (wipe σ vs) H' fun σ2 H2 => wipe σ2 vs = wipe σ vs ∧ tt σ2 H2 fun c H3 =>
      if c = true then tk σ2 H3 fun y H4 => tv σ2 H4 fun z H5 => ∃ kvs k b, y = .ref b ∧ H5 D = some (.dT kvs) ∧ H5 b = some (.tup (k.map kV)) ∧ kvs.length < sizeLine ∧ Pv (i + 1) (upd H5 D (.dT (putK kvs k z))) else Pv (i + 1) H3) (hd : ∀ H, Pv n H → Qd H) :
    ∃ W : Nat → Nat → Hp → Prop, (∃ m, W 0 m (upd H1 D (.dT []))) ∧ ∀ i m H, W i m H →
      (J.stop i H ∧ Qd H) ∨ (J.go i H ∧ ∃ Nx : Hp → Prop, (∀ H', Nx H' → ∃ m', m' < m ∧ W (i + 1) m' H') ∧ ∀ x H', J.yld i H x H' → g x (wipe σ vs) H' fun σ2 H2 => wipe σ2 vs = wipe σ vs ∧ tt σ2 H2 fun c H3 =>
        if c = true then tk σ2 H3 fun y H4 => tv σ2 H4 fun z H5 => ∃ kvs k b, y = .ref b ∧ H5 D = some (.dT kvs) ∧ H5 b = some (.tup (k.map kV)) ∧ kvs.length < sizeLine ∧ Nx (upd H5 D (.dT (putK kvs k z))) else Nx H3) := by
  refine ⟨fun i m H => i ≤ n ∧ m + i = n ∧ Pv i H, ⟨n, Nat.zero_le _, rfl, h0⟩, ?_⟩
  rintro i m H ⟨hi, hm, p⟩
  have q := hG i H hi p
  rcases Nat.lt_or_ge i n with c | c
  · exact .inr ⟨w.goes i H c q, Pv (i + 1), fun H' p' => ⟨m - 1, by omega, by omega, by omega, p'⟩, fun x H' y => hs i x H H' c p (w.yields i H x H' c q y)⟩
  · obtain rfl : i = n := by omega
    exact .inl ⟨w.stops H q, hd H p⟩
end
end DcT

/-! y = {k: v for ..} on one line, y a local. -/
namespace DcX
open PySem PySem.Spec PyProof.Rows L2
section
variable {X : Cx} {kx vx tg iter : Expr} {ifs : List Expr} {scope : Scope} {own : List (Str × Nat)} {wi : TI} {g : TG} {tt : TT} {tk tv : TE}
theorem swd_true {kx vx : Expr} {gs : List Comprehension} {scope : Scope} {pos py : Pos} {y : Str} {l : Nat} {env : Env} (hk : env.scope.kind = .function) (hy : env.scope.names.lookup y = some .local) (hl : (py.line == pos.line) = true)
    (ha : (scope.names.any fun (n, k) => n == y && (k == .local || k == .cell)) = false) : swapsWith (.DictComp kx vx gs scope pos) (some (.Name y py)) l env = pure true := by
  have k1 : env.kindOf y = some .local := hy
  have k2 : env.blockKind = .function := by unfold Env.blockKind; rw [hk]; rfl
  unfold swapsWith
  simp only [k2, k1, ha, Expr.pos, hl]
  rfl
theorem ps_setDc {i : Nat} {y : Str} {py pos spos : Pos} (hc : X.calm = true) (hN : X.N.Nodup) (hy : X.N[i]? = some y) (hyl : X.env.scope.names.lookup y = some .local)
    (hsw : swapsWith (.DictComp kx vx [⟨tg, iter, ifs, 0⟩] scope pos) (some (.Name y py)) spos.line X.env = pure true) (hi : PI X tg iter wi) (ok : BlkOk X.N X.env.scope scope own)
    (hg : ∀ s H C cl fp, PG (X.blk s H scope (compEnvC scope cl C X.env) fp) tg g) (ht : ∀ s H C cl fp, PTs (X.blk s H scope (compEnvC scope cl C X.env) fp) ifs tt)
    (hk : ∀ s H C cl fp, PE (X.blk s H scope (compEnvC scope cl C X.env) fp) kx tk) (he : ∀ s H C cl fp, PE (X.blk s H scope (compEnvC scope cl C X.env) fp) vx tv) (hs : ∀ x, foldedSetIterable iter X.env x = pure x := by intro _; rfl) :
    PS X (.Assign [.Name y py] (.DictComp kx vx [⟨tg, iter, ifs, 0⟩] scope pos) spos) (tAsg (tDc wi g tt tk tv (own.map (·.2))) (gName i)) := by
  refine ⟨fun pins s σ H D I h => ?_⟩
  rw [exec_Assign_Name_used _ _ _ _ hsw]
  refine wpAny_bind (wpAny_standAt (wpAny_bind ?_))
  show wpAny _ X.A (do let _ ← comprehension (.DictComp kx vx [⟨tg, iter, ifs, 0⟩] scope pos) scope X.env (firstIterPos [⟨tg, iter, ifs, 0⟩] pos) newDict false (eval iter X.env) (some (assign (.Name y py) X.env))) _ _ s
  have h : tDc wi g tt tk tv (own.map (·.2)) σ H (fun x H1 => gName i x σ H1 D.nx) := h
  refine wpAny_bind (thn (dc_core (Qf := fun _ s' => SP X pins D .next s') hc hN I hi ok hg ht hk he hs h fun L C s' m H' I' q hn f => ?_) fun _ s' hq => wpAny_pure (wpAny_pure hq))
  show wpAny _ _ (assign (.Name y py) X.env (.ref L)) _ _ _
  refine wpAny_assign_Name (store_ok2 (v := V.ref L) I' hN hy (.inl hyl) rfl (fun s2 I2 ⟨a, sb, ha⟩ => ?_) (.inr hyl))
  obtain ⟨f0, f1, f2, f3, f4, f5⟩ := f
  have hne : C ≠ a := ha.elim (fun z => by rw [z]; exact f1) fun z e => f4 y a z e.symm
  exact ⟨m, hn.sameBut sb hne, fun h3 sb3 => ⟨_, H', I2.turned (t' := s2.toks) (fun b o hb e => (sb3.2 b hb).trans e) f0 f1 f3 f4 f5, q⟩⟩
/-- over a walk -/
theorem dc_it {J : It} {n : Nat} {G : Hp → Prop} {Y : Nat → Hp → V → Hp → Prop} (w : Walk J n G Y) {vs : List Nat} {σ : L2.St} {H1 : Hp} {D : Addr} {Qd : Hp → Prop} (Pv : Nat → Hp → Prop) (h0 : Pv 0 (upd H1 D (.dK []))) (hG : ∀ i H, i ≤ n → Pv i H → G H)
    (hs : ∀ i x H H', i < n → Pv i H → Y i H x H' → g x (wipe σ vs) H' fun σ2 H2 => wipe σ2 vs = wipe σ vs ∧ tt σ2 H2 fun b H3 =>
      if b = true then tk σ2 H3 fun y H4 => tv σ2 H4 fun z H5 => ∃ kvs k, y = kV k ∧ H5 D = some (.dK kvs) ∧ kvs.length < sizeLine ∧ Pv (i + 1) (upd H5 D (.dK (putK kvs k z))) else Pv (i + 1) H3) (hd : ∀ H, Pv n H → Qd H) :
    ∃ W : Nat → Nat → Hp → Prop, (∃ m, W 0 m (upd H1 D (.dK []))) ∧ ∀ i m H, W i m H →
      (J.stop i H ∧ Qd H) ∨ (J.go i H ∧ ∃ Nx : Hp → Prop, (∀ H', Nx H' → ∃ m', m' < m ∧ W (i + 1) m' H') ∧ ∀ x H', J.yld i H x H' → g x (wipe σ vs) H' fun σ2 H2 => wipe σ2 vs = wipe σ vs ∧ tt σ2 H2 fun b H3 =>
        if b = true then tk σ2 H3 fun y H4 => tv σ2 H4 fun z H5 => ∃ kvs k, y = kV k ∧ H5 D = some (.dK kvs) ∧ kvs.length < sizeLine ∧ Nx (upd H5 D (.dK (putK kvs k z))) else Nx H3) := by
  refine ⟨fun i m H => i ≤ n ∧ m + i = n ∧ Pv i H, ⟨n, Nat.zero_le _, rfl, h0⟩, ?_⟩
  rintro i m H ⟨hi, hm, p⟩
  have q := hG i H hi p
  rcases Nat.lt_or_ge i n with c | c
  · exact .inr ⟨w.goes i H c q, Pv (i + 1), fun H' p' => ⟨m - 1, by omega, by omega, by omega, p'⟩, fun x H' y => hs i x H H' c p (w.yields i H x H' c q y)⟩
  · obtain rfl : i = n := by omega
    exact .inl ⟨w.stops H q, hd H p⟩
end
end DcX

/-! Rounds of relaxing: with a shape there is no change behind as many rounds as nodes, less one. -/
namespace Relax
abbrev Edge := Int × Int × Int
def put (s : Int → Int) (v x : Int) : Int → Int := fun a => if a = v then x else s a
def relax (s : Int → Int) (e : Edge) : Int → Int := if s e.1 + e.2.2 < s e.2.1 then put s e.2.1 (s e.1 + e.2.2) else s
def round (es : List Edge) (s : Int → Int) : Int → Int := es.foldl relax s
def rounds (es : List Edge) : Nat → Int → Int
  | 0 => fun _ => 0
  | k + 1 => round es (rounds es k)
/-- a way along edges: its nodes, the last one first, and its sum -/
inductive WL (es : List Edge) : List Int → Int → Prop
  | one (v : Int) : WL es [v] 0
  | snoc {u v w x : Int} {l : List Int} : WL es (u :: l) x → (u, v, w) ∈ es → WL es (v :: u :: l) (x + w)
theorem relax_le (s : Int → Int) (e : Edge) (a : Int) : relax s e a ≤ s a := by
  unfold relax
  split
  · unfold put
    split
    · rename_i h1 h2
      subst h2
      omega
    · exact Int.le_refl _
  · exact Int.le_refl _
theorem relax_to (s : Int → Int) (e : Edge) : relax s e e.2.1 ≤ s e.1 + e.2.2 := by
  unfold relax
  split
  · unfold put
    rw [if_pos rfl]
    exact Int.le_refl _
  · omega
theorem fold_le : ∀ (es : List Edge) (s : Int → Int) (a : Int), es.foldl relax s a ≤ s a
  | [], _, _ => Int.le_refl _
  | e :: es, s, a => Int.le_trans (fold_le es (relax s e) a) (relax_le s e a)
theorem fold_to : ∀ (es : List Edge) (s : Int → Int) (e : Edge), e ∈ es → es.foldl relax s e.2.1 ≤ s e.1 + e.2.2
  | f :: es, s, e, h => by
    rcases List.mem_cons.mp h with rfl | h
    · exact Int.le_trans (fold_le es (relax s e) _) (relax_to s e)
    · have := fold_to es (relax s f) e h
      have := relax_le s f e.1
      show List.foldl relax (relax s f) es e.2.1 ≤ _
      omega
theorem rounds_le {es : List Edge} : ∀ (k : Nat) (l : List Int) (v x : Int), WL es (v :: l) x → l.length ≤ k → rounds es k v ≤ x
  | 0, l, v, x, h, hl => by
    cases h with
    | one => exact Int.le_refl _
    | snoc h _ => simp at hl
  | k + 1, l, v, x, h, hl => by
    cases h with
    | one =>
      have h0 := rounds_le (es := es) k [] v 0 (.one v) (Nat.zero_le _)
      exact Int.le_trans (fold_le es (rounds es k) v) h0
    | snoc h he =>
      rename_i u w x l
      have := rounds_le k l u x h (by simp at hl; omega)
      have := fold_to es (rounds es k) (u, v, w) he
      show es.foldl relax (rounds es k) v ≤ _
      have : es.foldl relax (rounds es k) v ≤ rounds es k u + w := this
      omega
def Told (es : List Edge) (s : Int → Int) : Prop := ∀ v, ∃ l, WL es (v :: l) (s v)
theorem Told.relax {es : List Edge} {s : Int → Int} (h : Told es s) {e : Edge} (he : e ∈ es) : Told es (relax s e) := fun v => by
  unfold Relax.relax
  split
  · unfold put
    split
    · rename_i h1 h2
      subst h2
      obtain ⟨l, hl⟩ := h e.1
      exact ⟨e.1 :: l, .snoc hl he⟩
    · exact h v
  · exact h v
theorem Told.fold {es : List Edge} : ∀ (fs : List Edge) {s : Int → Int}, Told es s → (∀ e ∈ fs, e ∈ es) → Told es (fs.foldl Relax.relax s)
  | [], _, h, _ => h
  | f :: fs, _, h, hf => Told.fold fs (h.relax (hf f List.mem_cons_self)) fun e he => hf e (List.mem_cons_of_mem _ he)
theorem told_rounds (es : List Edge) : ∀ k, Told es (rounds es k)
  | 0 => fun v => ⟨[], .one v⟩
  | k + 1 => (told_rounds es k).fold es fun _ h => h
/-! cutting rings off -/
theorem WL.tail {es : List Edge} {pi : Int → Int} (hp : ∀ e ∈ es, pi e.2.1 - pi e.1 ≤ e.2.2) : ∀ (l : List Int) {y z x : Int} {c : List Int}, WL es (y :: (l ++ z :: c)) x → ∃ x1, WL es (z :: c) x1 ∧ pi y - pi z ≤ x - x1
  | [], y, z, x, c, h => by
    cases h with
    | snoc h he =>
      rename_i w x
      refine ⟨x, h, ?_⟩
      have := hp _ he
      dsimp only at this
      omega
  | u :: l, y, z, x, c, h => by
    cases h with
    | snoc h he =>
      rename_i w x
      obtain ⟨x1, h1, h2⟩ := WL.tail hp l h
      refine ⟨x1, h1, ?_⟩
      have := hp _ he
      dsimp only at this
      omega
theorem WL.swap {es : List Edge} : ∀ (a : List Int) {y x : Int} {r : List Int}, WL es (a ++ y :: r) x → ∃ x1, WL es (y :: r) x1 ∧ ∀ r' x1', WL es (y :: r') x1' → WL es (a ++ y :: r') (x - x1 + x1')
  | [], y, x, r, h => ⟨x, h, fun r' x1' h' => by
    have e : x - x + x1' = x1' := by omega
    rw [e]
    exact h'⟩
  | [u], y, x, r, h => by
    cases h with
    | snoc h he =>
      rename_i w x
      refine ⟨x, h, fun r' x1' h' => ?_⟩
      have e : x + w - x + x1' = x1' + w := by omega
      rw [e]
      exact .snoc h' he
  | u :: t :: a, y, x, r, h => by
    cases h with
    | snoc h he =>
      rename_i w x
      obtain ⟨x1, h1, h2⟩ := WL.swap (t :: a) h
      refine ⟨x1, h1, fun r' x1' h' => ?_⟩
      have e : x + w - x1 + x1' = (x - x1 + x1') + w := by omega
      rw [e]
      exact .snoc (h2 r' x1' h') he
theorem twice : ∀ (l : List Int), ¬ l.Nodup → ∃ a y b c, l = a ++ y :: (b ++ y :: c)
  | [], h => absurd List.nodup_nil h
  | x :: l, h => by
    by_cases hx : x ∈ l
    · obtain ⟨b, c, rfl⟩ := List.append_of_mem hx
      exact ⟨[], x, b, c, rfl⟩
    · have hl : ¬ l.Nodup := fun z => h (List.nodup_cons.mpr ⟨hx, z⟩)
      obtain ⟨a, y, b, c, rfl⟩ := twice l hl
      exact ⟨x :: a, y, b, c, rfl⟩
theorem few : ∀ (n : Nat) (lo : Int) (l : List Int), l.Nodup → (∀ x ∈ l, lo ≤ x ∧ x < lo + n) → l.length ≤ n
  | 0, lo, l, _, h => by
    cases l with
    | nil => exact Nat.le_refl _
    | cons x l =>
      have := h x List.mem_cons_self
      omega
  | n + 1, lo, l, hn, h => by
    have e := few n lo (l.filter fun x => x ≠ lo + n) (hn.filter _) fun x hx => by
      obtain ⟨h1, h2⟩ := List.mem_filter.mp hx
      have := h x h1
      have h2 : x ≠ lo + n := of_decide_eq_true h2
      omega
    have z : l.length ≤ (l.filter fun x => x ≠ lo + n).length + 1 := by
      have e1 : (l.filter fun x => x ≠ lo + n) = l.erase (lo + n) := by
        rw [hn.erase_eq_filter]
        congr 1
        funext x
        by_cases h : x = lo + n <;> simp [h]
      rw [e1, List.length_erase]
      split <;> omega
    omega
/-- every way can be made short -/
theorem short {es : List Edge} {pi : Int → Int} (hp : ∀ e ∈ es, pi e.2.1 - pi e.1 ≤ e.2.2) {n : Nat} {lo : Int} (hr : ∀ e ∈ es, (lo ≤ e.1 ∧ e.1 < lo + n) ∧ lo ≤ e.2.1 ∧ e.2.1 < lo + n) :
    ∀ (k : Nat) (v : Int) (l : List Int) (x : Int), l.length ≤ k → lo ≤ v → v < lo + n → WL es (v :: l) x → ∃ l' x', WL es (v :: l') x' ∧ x' ≤ x ∧ l'.length + 1 ≤ n := fun k => by
  induction k with
  | zero =>
    intro v l x hk h1 h2 h
    obtain rfl : l = [] := List.length_eq_zero_iff.mp (Nat.le_zero.mp hk)
    exact ⟨[], x, h, Int.le_refl _, by simp; omega⟩
  | succ k ih =>
    intro v l x hk h1 h2 h
    by_cases hn : (v :: l).Nodup
    · refine ⟨l, x, h, Int.le_refl _, few n lo (v :: l) hn ?_⟩
      have key : ∀ {l : List Int} {x : Int}, WL es l x → ∀ v l', l = v :: l' → lo ≤ v → v < lo + n → ∀ y ∈ l, lo ≤ y ∧ y < lo + n := fun {l x} h => by
        induction h with
        | one v =>
          intro v' l' e a1 a2 y hy
          cases e
          rw [List.mem_singleton] at hy
          subst hy
          exact ⟨a1, a2⟩
        | snoc h he ih =>
          intro v' l' e a1 a2 y hy
          cases e
          have z := hr _ he
          rcases List.mem_cons.mp hy with rfl | hy
          · exact ⟨a1, a2⟩
          · exact ih _ _ rfl z.1.1 z.1.2 y hy
      exact key h v l rfl h1 h2
    · obtain ⟨a, y, b, c, e⟩ := twice _ hn
      rw [e] at h
      obtain ⟨x1, q1, q2⟩ := h.swap a
      obtain ⟨x2, q3, q4⟩ := q1.tail hp b
      have q5 := q2 c x2 q3
      cases a with
      | nil =>
        cases e
        obtain ⟨l', x', w1, w2, w3⟩ := ih v c _ (by rw [List.length_append, List.length_cons] at hk; omega) h1 h2 q5
        exact ⟨l', x', w1, by omega, w3⟩
      | cons t a =>
        cases e
        obtain ⟨l', x', w1, w2, w3⟩ := ih v (a ++ y :: c) _ (by have hk : (a ++ y :: (b ++ y :: c)).length ≤ k + 1 := hk; rw [List.length_append, List.length_cons, List.length_append, List.length_cons] at hk; rw [List.length_append, List.length_cons]; omega) h1 h2 q5
        exact ⟨l', x', w1, by omega, w3⟩
/-- with a shape: no edge relaxes behind n - 1 rounds -/
theorem settled {es : List Edge} {pi : Int → Int} (hp : ∀ e ∈ es, pi e.2.1 - pi e.1 ≤ e.2.2) {n : Nat} {lo : Int} (hr : ∀ e ∈ es, (lo ≤ e.1 ∧ e.1 < lo + n) ∧ lo ≤ e.2.1 ∧ e.2.1 < lo + n) {k : Nat} (hk : n ≤ k + 1) :
    ∀ e ∈ es, rounds es k e.2.1 ≤ rounds es k e.1 + e.2.2 := fun e he => by
  obtain ⟨l, hl⟩ := told_rounds es k e.1
  obtain ⟨l', x', w1, w2, w3⟩ := short hp hr (e.1 :: l).length e.2.1 (e.1 :: l) _ (Nat.le_refl _) (hr e he).2.1 (hr e he).2.2 (.snoc hl he)
  have := rounds_le k l' e.2.1 x' w1 (by omega)
  have w2 : x' ≤ rounds es k e.1 + e.2.2 := w2
  omega
end Relax

/-! for x in xs, xs a list or a tuple; [*xs, y]. -/
namespace ItSeq
open PySem PySem.Spec PyProof.Rows L2
/-- a list or a tuple -/
def Sq (K : PySem.W.Frag) (H : Hp) (a : Addr) (xs : List V) : Prop := SqL K H a xs ∨ SqT K H a xs
theorem sqT_same {K : PySem.W.Frag} {H H' : Hp} {a : Addr} {xs : List V} (h : SqT K H a xs) (s : Same H H') : SqT K H' a xs := by
  rcases h with (h | ⟨o, h⟩) | h
  · exact .inl (.inl (s _ _ h))
  · exact .inl (.inr ⟨o, s _ _ h⟩)
  · exact .inr h
theorem sqL_same {K : PySem.W.Frag} {H H' : Hp} {a : Addr} {xs : List V} (h : SqL K H a xs) (s : Same H H') : SqL K H' a xs := by
  rcases h with (h | ⟨o, h⟩) | h
  · exact .inl (.inl (s _ _ h))
  · exact .inl (.inr ⟨o, s _ _ h⟩)
  · exact .inr h
theorem Sq.same {K : PySem.W.Frag} {H H' : Hp} {a : Addr} {xs : List V} (h : Sq K H a xs) (s : Same H H') : Sq K H' a xs := h.imp (sqL_same · s) (sqT_same · s)
/-- whichever it is, it is walked alike as long as all stands -/
def iSeq (K : PySem.W.Frag) (tl : TE) : TI := fun σ H R => tl σ H fun x H1 => ∃ a xs, x = .ref a ∧ Sq K H1 a xs ∧ ∀ J, Walk J xs.length (fun H => Same H1 H) (YAt xs) → R J H1
theorem pi_seq {X : Cx} {tg l : Expr} {tl : TE} (hl : PE X l tl) : PI X tg l (iSeq X.K tl) := by
  refine ⟨fun pins s σ H R I h => ?_⟩
  refine thn (hl.run pins s σ H _ I h) fun v s1 ⟨x, H1, I1, r1, a, xs, e, hq, q⟩ => ?_
  subst e
  cases r1
  have fp : ∀ b ∈ [s1.heap.objs.size], FpOk X pins H1 b := fun b hb => by
    rw [List.mem_singleton] at hb
    subst hb
    exact I1.fpOk (Nat.le_refl _) (I1.hok.fresh (Nat.le_refl _))
  rcases hq with hq | hq
  · obtain ⟨its, rv, p, hz⟩ := I1.list hq
    exact wpAny_pyIter_list p.isList ⟨s1.heap.objs.size, [s1.heap.objs.size], _, _, H1, rfl, I1.kept (t' := s1.toks) fun b o e => Heap.get?_push_of_some _ e, turn_list a _, ⟨_, Heap.get?_push_size _ rfl, rfl, rfl⟩, fp,
      q _ (walk_list.mono (fun _ s => sqL_same hq s) fun _ _ _ _ _ _ y => y)⟩
  · obtain ⟨its, rv, p, hz⟩ := I1.tuple hq
    exact wpAny_pyIter_tuple (show s1.heap.IsTuple a its.toArray from p) ⟨s1.heap.objs.size, [s1.heap.objs.size], _, _, H1, rfl, I1.kept (t' := s1.toks) fun b o e => Heap.get?_push_of_some _ e, turn_tuple a _, ⟨_, Heap.get?_push_size _ rfl, rfl, rfl⟩, fp,
      q _ (walk_tup.mono (fun _ s => sqT_same hq s) fun _ _ _ _ _ _ y => y)⟩
end ItSeq

namespace Law
open PySem PySem.Spec PyProof.Rows L2
theorem passS {X : Cx} {CX : CXT} {E : XK} (h : Passes CX X E) : ∀ σ, PassesAt CX X σ E := fun σ pins H s e s' I c => h pins σ H s e s' I c
end Law



/-! Site: the rows of walls, and what is made of them. -/
namespace Law
open PySem PySem.Spec PyProof.Rows L2 Sup
abbrev sSpots : Stmt := top 23
abbrev sTops : Stmt := top 24
theorem call_lenK (K : PySem.W.Frag) {X : Cx} (h : X.K = K) : CallR X (.builtin "len") (fun xs H Q => ∃ p ys, xs = [.ref p] ∧ (SqL K H p ys ∨ SqT K H p ys) ∧ Q (.int ys.length) H) := h ▸ call_len_seq
section
variable {J : It} {n : Nat} {G : Hp → Prop} {Y : Nat → Hp → V → Hp → Prop}
/-- the inner clause of a comprehension with two: Nx behind it -/
def InnerC (D : Addr) (g1 : TG) (tt1 : TT) (te : TE) (vs1 : List Nat) (J1 : It) (σ2 : L2.St) (Nx : Hp → Prop) (H4 : Hp) : Prop := ∃ W1 : Nat → Nat → Hp → Prop, (∃ m, W1 0 m H4) ∧ ∀ j k H, W1 j k H →
  (J1.stop j H ∧ Nx H) ∨ (J1.go j H ∧ ∃ Nx1 : Hp → Prop, (∀ H', Nx1 H' → ∃ k', k' < k ∧ W1 (j + 1) k' H') ∧ ∀ x H', J1.yld j H x H' → g1 x (wipe σ2 vs1) H' fun σ3 H5 => wipe σ3 vs1 = wipe σ2 vs1 ∧ tt1 σ3 H5 fun b H6 =>
    if b = true then te σ3 H6 fun y H7 => ∃ acc, H7 D = some (.lst acc) ∧ acc.length < sizeLine ∧ Nx1 (upd H7 D (.lst (acc ++ [y]))) else Nx1 H6)
theorem lcI (w : Walk J n G Y) {g : TG} {tt : TT} {te : TE} {vs : List Nat} {σ : L2.St} {H0 : Hp} {D : Addr} {Qd : Hp → Prop} (Pv : Nat → Hp → Prop) (h0 : Pv 0 H0) (hG : ∀ i H, i ≤ n → Pv i H → G H)
    (hs : ∀ i x H H', i < n → Pv i H → Y i H x H' → g x (wipe σ vs) H' fun σ2 H2 => wipe σ2 vs = wipe σ vs ∧ tt σ2 H2 fun b H3 =>
      if b = true then te σ2 H3 fun y H4 => ∃ acc, H4 D = some (.lst acc) ∧ acc.length < sizeLine ∧ Pv (i + 1) (upd H4 D (.lst (acc ++ [y]))) else Pv (i + 1) H3) (hd : ∀ H, Pv n H → Qd H) : InnerC D g tt te vs J σ Qd H0 := by
  refine ⟨fun i m H => i ≤ n ∧ m + i = n ∧ Pv i H, ⟨n, Nat.zero_le _, rfl, h0⟩, ?_⟩
  rintro i m H ⟨hi, hm, p⟩
  have q := hG i H hi p
  rcases Nat.lt_or_ge i n with c | c
  · exact .inr ⟨w.goes i H c q, Pv (i + 1), fun H' p' => ⟨m - 1, by omega, by omega, by omega, p'⟩, fun x H' y => hs i x H H' c p (w.yields i H x H' c q y)⟩
  · obtain rfl : i = n := by omega
    exact .inl ⟨w.stops H q, hd H p⟩
/-- the outer clause -/
theorem lcO (w : Walk J n G Y) {g g1 : TG} {tt tt1 : TT} {te : TE} {wi1 : TI} {vs vs1 : List Nat} {σ : L2.St} {H1 : Hp} {D : Addr} {Qd : Hp → Prop} (Pv : Nat → Hp → Prop) (h0 : Pv 0 (upd H1 D (.lst []))) (hG : ∀ i H, i ≤ n → Pv i H → G H)
    (hs : ∀ i x H H', i < n → Pv i H → Y i H x H' → g x (wipe σ vs) H' fun σ2 H2 => wipe σ2 vs = wipe σ vs ∧ tt σ2 H2 fun b H3 => if b = true then wi1 σ2 H3 fun J1 H4 => InnerC D g1 tt1 te vs1 J1 σ2 (Pv (i + 1)) H4 else Pv (i + 1) H3) (hd : ∀ H, Pv n H → Qd H) :
    ∃ W : Nat → Nat → Hp → Prop, (∃ m, W 0 m (upd H1 D (.lst []))) ∧ ∀ i m H, W i m H →
      (J.stop i H ∧ Qd H) ∨ (J.go i H ∧ ∃ Nx : Hp → Prop, (∀ H', Nx H' → ∃ m', m' < m ∧ W (i + 1) m' H') ∧ ∀ x H', J.yld i H x H' → g x (wipe σ vs) H' fun σ2 H2 => wipe σ2 vs = wipe σ vs ∧ tt σ2 H2 fun b H3 =>
        if b = true then wi1 σ2 H3 fun J1 H4 => InnerC D g1 tt1 te vs1 J1 σ2 Nx H4 else Nx H3) := by
  refine ⟨fun i m H => i ≤ n ∧ m + i = n ∧ Pv i H, ⟨n, Nat.zero_le _, rfl, h0⟩, ?_⟩
  rintro i m H ⟨hi, hm, p⟩
  have q := hG i H hi p
  rcases Nat.lt_or_ge i n with c | c
  · exact .inr ⟨w.goes i H c q, Pv (i + 1), fun H' p' => ⟨m - 1, by omega, by omega, by omega, p'⟩, fun x H' y => hs i x H H' c p (w.yields i H x H' c q y)⟩
  · obtain rfl : i = n := by omega
    exact .inl ⟨w.stops H q, hd H p⟩
end
/-- a wall: its name, top, slope and spans -/
abbrev Wal := Str × Int × Int × List Int
def Wal.many (w : Wal) : Nat := w.2.2.2.length + 1
theorem sqT_same {K : PySem.W.Frag} {H H' : Hp} {a : Addr} {xs : List V} (h : SqT K H a xs) (s : Same H H') : SqT K H' a xs := by
  rcases h with (h | ⟨o, h⟩) | h
  · exact .inl (.inl (s _ _ h))
  · exact .inl (.inr ⟨o, s _ _ h⟩)
  · exact .inr h
def WalT (K : PySem.W.Frag) (H : Hp) (t : Addr) (w : Wal) : Prop := ∃ sp, H t = some (.tup [.str w.1, .int w.2.1, .int w.2.2.1, .ref sp]) ∧ SqT K H sp (w.2.2.2.map V.int)
theorem WalT.same {K : PySem.W.Frag} {H H' : Hp} {t : Addr} {w : Wal} (h : WalT K H t w) (s : Same H H') : WalT K H' t w := by
  obtain ⟨sp, h1, h2⟩ := h
  exact ⟨sp, s _ _ h1, sqT_same h2 s⟩
def WalsAt (K : PySem.W.Frag) (H : Hp) (p : Addr) (ws : List Wal) : Prop := ∃ ts : List Addr, H p = some (.lst (ts.map V.ref)) ∧ ts.length = ws.length ∧ ∀ (i : Nat) (t : Addr) (w : Wal), ts[i]? = some t → ws[i]? = some w → WalT K H t w
theorem WalsAt.same {K : PySem.W.Frag} {H H' : Hp} {p : Addr} {ws : List Wal} (h : WalsAt K H p ws) (s : Same H H') : WalsAt K H' p ws := by
  obtain ⟨ts, h1, h2, h3⟩ := h
  exact ⟨ts, s _ _ h1, h2, fun i t w e1 e2 => (h3 i t w e1 e2).same s⟩
def spotsW (w : Wal) : List (Str × Int) := (List.range w.many).map fun (i : Nat) => (w.1, (i : Int))
def spotsOf (ws : List Wal) : List (Str × Int) := ws.flatMap spotsW
def topsW (w : Wal) : List Int := List.replicate w.many w.2.1
def topsOf (ws : List Wal) : List Int := ws.flatMap topsW
theorem tops_len : ∀ ws : List Wal, (topsOf ws).length = (spotsOf ws).length
  | [] => rfl
  | w :: ws => by
    have ih := tops_len ws
    unfold topsOf spotsOf at ih ⊢
    rw [List.flatMap_cons, List.flatMap_cons, List.length_append, List.length_append, ih]
    unfold topsW spotsW
    rw [List.length_replicate, List.length_map, List.length_range]
/-- the rows list grows by a new tuple -/
theorem RowsAt.push {H : Hp} {p q : Addr} {rows : List Row} {y : Str} {L : Int} (h : RowsAt H p rows) (hq : H q = none) (hl : rows.length ≤ 900) :
    ∃ acc, (upd H q (.tup [.str y, .int L])) p = some (.lst acc) ∧ acc.length < sizeLine ∧ RowsAt (upd (upd H q (.tup [.str y, .int L])) p (.lst (acc ++ [.ref q]))) p (rows ++ [(y, L)]) := by
  obtain ⟨ts, h1, h2, h3⟩ := h
  have npq : p ≠ q := ne_of_none h1 hq
  refine ⟨_, by rw [upd_ne npq]; exact h1, small1000 (by rw [List.length_map]; omega), ts ++ [q], by rw [upd_same, List.map_append]; rfl, by simp [h2], fun i t y' L' e1 e2 => ?_⟩
  by_cases hi : i < ts.length
  · rw [List.getElem?_append_left hi] at e1
    rw [List.getElem?_append_left (by omega)] at e2
    have z := h3 i t y' L' e1 e2
    have n1 : t ≠ p := fun w => by rw [w, h1] at z; cases z
    rw [upd_ne n1, upd_ne (ne_of_none z hq)]
    exact z
  · rw [List.getElem?_append_right (by omega)] at e1 e2
    have ei : i - ts.length = 0 := by
      have := (List.getElem?_eq_some_iff.mp e1).1
      simp at this
      omega
    have ej : i - rows.length = 0 := by omega
    rw [ei] at e1
    rw [ej] at e2
    cases e1
    cases e2
    rw [upd_ne (Ne.symm npq), upd_same]
theorem part_len {α β : Type} {l : List α} {f : α → List β} {i j : Nat} {a : α} (h : l[i]? = some a) : ((l.take i).flatMap f ++ (f a).take j).length ≤ (l.flatMap f).length := by
  have e : l = l.take i ++ a :: l.drop (i + 1) := by
    obtain ⟨hi', hx⟩ := List.getElem?_eq_some_iff.mp h
    rw [← hx, List.getElem_cons_drop, List.take_append_drop]
  have e2 : (l.flatMap f).length = ((l.take i).flatMap f).length + ((f a).length + ((l.drop (i + 1)).flatMap f).length) := by
    conv => lhs; rw [e]
    rw [List.flatMap_append, List.flatMap_cons, List.length_append, List.length_append]
  rw [List.length_append, List.length_take, e2]
  omega
structure STxt (mg : Str → Option Value) : Prop where
  len : mg "len" = none
  range : mg "range" = none
def spSpots (K : PySem.W.Frag) : Sp := fun vs H Q _ => ∃ (p : Addr) (ws : List Wal), vs = [.ref p] ∧ WalsAt K H p ws ∧ (spotsOf ws).length ≤ 800 ∧ ∀ (q : Addr) (H' : Hp), H q = none → Same H H' → RowsAt H' q (spotsOf ws) → Q (.ref q) H'
def spTops (K : PySem.W.Frag) : Sp := fun vs H Q _ => ∃ (p : Addr) (ws : List Wal), vs = [.ref p] ∧ WalsAt K H p ws ∧ (spotsOf ws).length ≤ 800 ∧ ∀ (q : Addr) (H' : Hp), H q = none → Same H H' → H' q = some (.lst ((topsOf ws).map V.int)) → Q (.ref q) H'
section
variable {P : Program} {w : World} {K : PySem.W.Frag} {mg : Str → Option Value} {base : Heap}
theorem scSpots : FnScope ["rows", "name", "_", "spans", "index"] ["rows"] (defScope sSpots) := ⟨rfl, rfl, rfl, by decide +kernel, rfl, by decide +kernel, by decide +kernel⟩
theorem scTops : FnScope ["rows", "_", "top", "spans"] ["rows"] (defScope sTops) := ⟨rfl, rfl, rfl, by decide +kernel, rfl, by decide +kernel, by decide +kernel⟩
set_option maxHeartbeats 0 in
theorem ok_spots {f : Addr} {fd : FuncData} (F : Fun K "_spots_of" "_spots_of" sSpots f fd) (T : STxt mg) : FnOk P w K mg base CX0 1 f fd ["rows"] (spSpots K) := by
  refine F.ok scSpots (fun vs H Q E h => ?_) (fun cdv A outer s H vs Q E hr h => ?_)
  · obtain ⟨p, ws, rfl, _⟩ := h
    rfl
  · obtain ⟨p, ws, rfl, W, len8, k⟩ := h
    refine ⟨_, (pss_one (ps_ret (pe_lc2 (own := [("name", 1), ("_", 2), ("spans", 3), ("index", 4)]) (vs1 := [4]) (g := (gTup K 4 (gCons (gName 1) (gCons (gName 2) (gCons (gName 2) (gCons (gName 3) gNil)))))) (g1 := gName 4) (tt := tYes) (tt1 := tYes) (wi1 := (iRng1 (tCons (tOp (rI0 fun i j => .int (i + j)) (tCB (fun xs H Q => ∃ p ys, xs = [.ref p] ∧ (SqL K H p ys ∨ SqT K H p ys) ∧ Q (.int ys.length) H) (tCons (tVar 3) tNil)) (tC (.int 1))) tNil))) (te := tTup (tCons (tVar 1) (tCons (tVar 4) tNil)))
        (by rfl) scSpots.nd (pi_list (pv 0)) (blkOk_by (own := [("name", 1), ("_", 2), ("spans", 3), ("index", 4)]) (N := ["rows", "name", "_", "spans", "index"]) (sc := defScope sSpots) (by decide +kernel)) (by decide)
        (fun _ _ _ _ _ => by exact (pg_tup (n := 4) rfl (pgs_cons (pg_name (i := 1) scSpots.nd rfl (Or.inl rfl)) (pgs_cons (pg_name (i := 2) scSpots.nd rfl (Or.inl rfl)) (pgs_cons (pg_name (i := 2) scSpots.nd rfl (Or.inl rfl)) (pgs_cons (pg_name (i := 3) scSpots.nd rfl (Or.inl rfl)) pgs_nil)))))) (fun _ _ _ _ _ => pts_nil) (fun _ _ _ _ _ => by exact (pi_range1 (by rfl) T.range (pa_cons (pe_op op_add (pe_callB (call_lenK K rfl) (by rfl) T.len PySem.boot_len (pa_cons (pv 3) pa_nil)) pe_int) pa_nil)))
        (fun _ _ _ _ _ => pg_name (i := 4) scSpots.nd rfl (Or.inl rfl)) (fun _ _ _ _ _ => pts_nil) (fun _ _ _ _ _ => (pe_tup (pa_cons (pv 1) (pa_cons (pv 4) pa_nil))))))), ?_⟩
    obtain ⟨ts, t1, t2, t3⟩ := id W
    refine ⟨_, rfl, p, rfl, ⟨_, SqL.of t1⟩, fun D hD => ?_⟩
    refine lcO (walk_list (xs := ts.map V.ref)) (fun i H' => RowsAt H' D ((ws.take i).flatMap spotsW) ∧ Same H H') ⟨⟨[], upd_same, rfl, fun i t y L e => by cases e⟩, same_new hD⟩ (fun _ _ _ h => SqL.of (h.2 _ _ t1)) ?_ ?_
    · rintro i x H1 H2 hi ⟨R, S1⟩ ⟨rfl, hx⟩
      rw [List.length_map] at hi
      rw [List.getElem?_map, List.getElem?_eq_getElem hi] at hx
      cases hx
      obtain ⟨wl, hw⟩ : ∃ w, ws[i]? = some w := ⟨_, List.getElem?_eq_getElem (by omega)⟩
      obtain ⟨sp, z1, z2⟩ := (t3 i _ wl (List.getElem?_eq_getElem hi) hw).same S1
      have et : (ws.take (i + 1)).flatMap spotsW = (ws.take i).flatMap spotsW ++ spotsW wl := by
        rw [List.take_succ, hw, List.flatMap_append]
        simp
      have wm : wl.many = wl.2.2.2.length + 1 := rfl
      have pl0 := part_len (f := spotsW) (j := wl.many) hw
      have hm8 : wl.many ≤ 800 := by
        have e2 : ((ws.take i).flatMap spotsW ++ (spotsW wl).take wl.many).length ≤ 800 := Nat.le_trans pl0 len8
        rw [List.length_append, List.length_take] at e2
        have : (spotsW wl).length = wl.many := by unfold spotsW; rw [List.length_map, List.length_range]
        omega
      refine ⟨_, _, rfl, SqT.of z1, rfl, _, _, rfl, _, _, rfl, _, _, rfl, _, _, rfl, rfl, rfl, _, rfl, sp, _, rfl, .inr z2, _, _, rfl, rfl, _, rfl, by omega, by rw [List.length_map]; omega, ?_⟩
      have en : ((((wl.2.2.2.map V.int).length : Nat) : Int) + 1).toNat = wl.many := by rw [List.length_map, wm]; omega
      rw [en]
      refine lcI (walk_range (lo := 0) (n := wl.many)) (fun m H' => RowsAt H' D ((ws.take i).flatMap spotsW ++ (spotsW wl).take m) ∧ Same H H') ⟨by rw [List.take_zero, List.append_nil]; exact R, S1⟩ (fun _ _ _ _ => trivial) ?_ ?_
      · rintro m x H3 H4 hm ⟨R3, S3⟩ ⟨rfl, rfl⟩
        have pl := part_len (f := spotsW) (j := m) hw
        have pl : ((ws.take i).flatMap spotsW ++ (spotsW wl).take m).length ≤ (spotsOf ws).length := pl
        refine ⟨rfl, _, rfl, _, rfl, by show 2 ≤ sizeLine; decide, fun q hq => ?_⟩
        obtain ⟨acc, a1, a2, a3⟩ := R3.push (y := wl.1) (L := 0 + (m : Int)) hq (by omega)
        refine ⟨acc, a1, a2, ?_, fun b o e => ?_⟩
        · have er : (spotsW wl)[m]? = some (wl.1, 0 + (m : Int)) := by
            unfold spotsW
            rw [List.getElem?_map, List.getElem?_range hm, Int.zero_add]
            rfl
          rw [List.take_succ, er, ← List.append_assoc]
          exact a3
        · rw [upd_ne (ne_of_none e hD), upd_ne (ne_of_none (S3 _ _ e) hq)]
          exact S3 _ _ e
      · rintro H3 ⟨R3, S3⟩
        rw [List.take_of_length_le (l := spotsW wl) (by unfold spotsW; rw [List.length_map, List.length_range]; omega)] at R3
        rw [et]
        exact ⟨R3, S3⟩
    · rintro H1 ⟨R, S1⟩
      rw [List.length_map, t2, List.take_length] at R
      exact k D H1 hD S1 R
set_option maxHeartbeats 0 in
theorem ok_tops {f : Addr} {fd : FuncData} (F : Fun K "_tops_of" "_tops_of" sTops f fd) (T : STxt mg) : FnOk P w K mg base CX0 1 f fd ["rows"] (spTops K) := by
  refine F.ok scTops (fun vs H Q E h => ?_) (fun cdv A outer s H vs Q E hr h => ?_)
  · obtain ⟨p, ws, rfl, _⟩ := h
    rfl
  · obtain ⟨p, ws, rfl, W, len8, k⟩ := h
    refine ⟨_, (pss_one (ps_ret (pe_lc2 (own := [("_", 1), ("top", 2), ("spans", 3)]) (vs1 := [1]) (g := (gTup K 4 (gCons (gName 1) (gCons (gName 2) (gCons (gName 1) (gCons (gName 3) gNil)))))) (g1 := gName 1) (tt := tYes) (tt1 := tYes) (wi1 := (iRng1 (tCons (tOp (rI0 fun i j => .int (i + j)) (tCB (fun xs H Q => ∃ p ys, xs = [.ref p] ∧ (SqL K H p ys ∨ SqT K H p ys) ∧ Q (.int ys.length) H) (tCons (tVar 3) tNil)) (tC (.int 1))) tNil))) (te := tVar 2)
        (by rfl) scTops.nd (pi_list (pv 0)) (blkOk_by (own := [("_", 1), ("top", 2), ("spans", 3)]) (N := ["rows", "_", "top", "spans"]) (sc := defScope sTops) (by decide +kernel)) (by decide)
        (fun _ _ _ _ _ => by exact (pg_tup (n := 4) rfl (pgs_cons (pg_name (i := 1) scTops.nd rfl (Or.inl rfl)) (pgs_cons (pg_name (i := 2) scTops.nd rfl (Or.inl rfl)) (pgs_cons (pg_name (i := 1) scTops.nd rfl (Or.inl rfl)) (pgs_cons (pg_name (i := 3) scTops.nd rfl (Or.inl rfl)) pgs_nil)))))) (fun _ _ _ _ _ => pts_nil) (fun _ _ _ _ _ => by exact (pi_range1 (by rfl) T.range (pa_cons (pe_op op_add (pe_callB (call_lenK K rfl) (by rfl) T.len PySem.boot_len (pa_cons (pv 3) pa_nil)) pe_int) pa_nil)))
        (fun _ _ _ _ _ => pg_name (i := 1) scTops.nd rfl (Or.inl rfl)) (fun _ _ _ _ _ => pts_nil) (fun _ _ _ _ _ => (pv 2))))), ?_⟩
    obtain ⟨ts, t1, t2, t3⟩ := id W
    rw [← tops_len] at len8
    refine ⟨_, rfl, p, rfl, ⟨_, SqL.of t1⟩, fun D hD => ?_⟩
    refine lcO (walk_list (xs := ts.map V.ref)) (fun i H' => H' D = some (.lst (((ws.take i).flatMap topsW).map V.int)) ∧ Same H H') ⟨upd_same, same_new hD⟩ (fun _ _ _ h => SqL.of (h.2 _ _ t1)) ?_ ?_
    · rintro i x H1 H2 hi ⟨R, S1⟩ ⟨rfl, hx⟩
      rw [List.length_map] at hi
      rw [List.getElem?_map, List.getElem?_eq_getElem hi] at hx
      cases hx
      obtain ⟨wl, hw⟩ : ∃ w, ws[i]? = some w := ⟨_, List.getElem?_eq_getElem (by omega)⟩
      obtain ⟨sp, z1, z2⟩ := (t3 i _ wl (List.getElem?_eq_getElem hi) hw).same S1
      have et : (ws.take (i + 1)).flatMap topsW = (ws.take i).flatMap topsW ++ topsW wl := by
        rw [List.take_succ, hw, List.flatMap_append]
        simp
      have wm : wl.many = wl.2.2.2.length + 1 := rfl
      have tl : (topsW wl).length = wl.many := by unfold topsW; rw [List.length_replicate]
      have pl0 := part_len (f := topsW) (j := wl.many) hw
      have hm8 : wl.many ≤ 800 := by
        have e2 : ((ws.take i).flatMap topsW ++ (topsW wl).take wl.many).length ≤ 800 := Nat.le_trans pl0 len8
        rw [List.length_append, List.length_take] at e2
        omega
      refine ⟨_, _, rfl, SqT.of z1, rfl, _, _, rfl, _, _, rfl, _, _, rfl, _, _, rfl, rfl, rfl, _, rfl, sp, _, rfl, .inr z2, _, _, rfl, rfl, _, rfl, by omega, by rw [List.length_map]; omega, ?_⟩
      have en : ((((wl.2.2.2.map V.int).length : Nat) : Int) + 1).toNat = wl.many := by rw [List.length_map, wm]; omega
      rw [en]
      refine lcI (walk_range (lo := 0) (n := wl.many)) (fun m H' => H' D = some (.lst (((ws.take i).flatMap topsW ++ (topsW wl).take m).map V.int)) ∧ Same H H') ⟨by rw [List.take_zero, List.append_nil]; exact R, S1⟩ (fun _ _ _ _ => trivial) ?_ ?_
      · rintro m x H3 H4 hm ⟨R3, S3⟩ ⟨rfl, rfl⟩
        have pl := part_len (f := topsW) (j := m) hw
        have pl : ((ws.take i).flatMap topsW ++ (topsW wl).take m).length ≤ (topsOf ws).length := pl
        refine ⟨rfl, _, rfl, _, R3, small1000 (by rw [List.length_map]; omega), ?_, fun b o e => ?_⟩
        · have er : (topsW wl)[m]? = some wl.2.1 := by
            unfold topsW
            rw [List.getElem?_replicate, if_pos hm]
          rw [upd_same, List.take_succ, er, ← List.append_assoc]
          exact congrArg (fun l => some (HO.lst l)) (List.map_append (l₂ := [wl.2.1])).symm
        · rw [upd_ne (ne_of_none e hD)]
          exact S3 _ _ e
      · rintro H3 ⟨R3, S3⟩
        rw [List.take_of_length_le (l := topsW wl) (by omega)] at R3
        rw [et]
        exact ⟨R3, S3⟩
    · rintro H1 ⟨R, S1⟩
      rw [List.length_map, t2, List.take_length] at R
      exact k D H1 hD S1 R
end
end Law

/-! The limits that walls and links tell. -/
namespace Law
open PySem PySem.Spec PyProof.Rows L2 Sup
abbrev sGrd : Stmt := top 26
abbrev sSlp : Stmt := top 27
abbrev sLnk : Stmt := top 28
abbrev Edge := Int × Int × Int
/-- a list of limits: tuples of three ints -/
def LimsAt (H : Hp) (p : Addr) (es : List Edge) : Prop := ∃ ts : List Addr, H p = some (.lst (ts.map V.ref)) ∧ ts.length = es.length ∧ ∀ (i : Nat) (t : Addr) (e : Edge), ts[i]? = some t → es[i]? = some e → H t = some (.tup [.int e.1, .int e.2.1, .int e.2.2])
theorem LimsAt.same {H H' : Hp} {p : Addr} {es : List Edge} (h : LimsAt H p es) (s : Same H H') : LimsAt H' p es := by
  obtain ⟨ts, h1, h2, h3⟩ := h
  exact ⟨ts, s _ _ h1, h2, fun i t e e1 e2 => s _ _ (h3 i t e e1 e2)⟩
theorem LimsAt.len {H : Hp} {p : Addr} {es : List Edge} (h : LimsAt H p es) : ∃ xs, H p = some (.lst xs) ∧ xs.length = es.length := by
  obtain ⟨ts, h1, h2, _⟩ := h
  exact ⟨_, h1, by rw [List.length_map]; exact h2⟩
theorem LimsAt.push {H : Hp} {p t : Addr} {es : List Edge} {e : Edge} {xs : List V} (h : LimsAt H p es) (hx : H p = some (.lst xs)) (ht : H t = some (.tup [.int e.1, .int e.2.1, .int e.2.2])) : LimsAt (upd H p (.lst (xs ++ [.ref t]))) p (es ++ [e]) := by
  obtain ⟨ts, h1, h2, h3⟩ := h
  rw [hx] at h1
  cases h1
  have old : ∀ {c : Addr} {ys : List V}, H c = some (.tup ys) → c ≠ p := fun {c ys} e z => by rw [z, hx] at e; cases e
  refine ⟨ts ++ [t], by rw [upd_same, List.map_append]; rfl, by simp [h2], fun i t' e' e1 e2 => ?_⟩
  by_cases hi : i < ts.length
  · rw [List.getElem?_append_left hi] at e1
    rw [List.getElem?_append_left (by omega)] at e2
    have z := h3 i t' e' e1 e2
    rw [upd_ne (old z)]
    exact z
  · rw [List.getElem?_append_right (by omega)] at e1 e2
    have ei : i - ts.length = 0 := by
      have := (List.getElem?_eq_some_iff.mp e1).1
      simp at this
      omega
    have ej : i - es.length = 0 := by omega
    rw [ei] at e1
    rw [ej] at e2
    cases e1
    cases e2
    rw [upd_ne (old ht)]
    exact ht
theorem LimsAt.cat {H : Hp} {a b p : Addr} {xs ys : List V} {u v : List Edge} (hu : LimsAt H a u) (hv : LimsAt H b v) (ha : H a = some (.lst xs)) (hb : H b = some (.lst ys)) (hp : H p = none) : LimsAt (upd H p (.lst (xs ++ ys))) p (u ++ v) := by
  obtain ⟨us, u1, u2, u3⟩ := hu
  obtain ⟨vs, v1, v2, v3⟩ := hv
  rw [ha] at u1
  rw [hb] at v1
  cases u1
  cases v1
  refine ⟨us ++ vs, by rw [upd_same, List.map_append], by rw [List.length_append, List.length_append, u2, v2], fun i t e e1 e2 => ?_⟩
  by_cases hi : i < us.length
  · rw [List.getElem?_append_left hi] at e1
    rw [List.getElem?_append_left (by omega)] at e2
    have z := u3 i t e e1 e2
    rw [upd_ne (ne_of_none z hp)]
    exact z
  · rw [List.getElem?_append_right (by omega)] at e1 e2
    rw [← u2] at e2
    have z := v3 _ t e e1 e2
    rw [upd_ne (ne_of_none z hp)]
    exact z
/-- two limits more, each in a new tuple: what the steps of the loops do -/
theorem push2 {H0 H : Hp} {p : Addr} {es : List Edge} {Q : Hp → Prop} (e f : Edge) (h : LimsAt H p es) (s : Same H0 H) (np : H0 p = none) (hl : es.length ≤ 900)
    (k : ∀ H', LimsAt H' p (es ++ [e, f]) → Same H0 H' → Q H') :
    ∀ t, H t = none → ∃ xs, upd H t (.tup [.int e.1, .int e.2.1, .int e.2.2]) p = some (.lst xs) ∧ xs.length < sizeLine ∧
      ∀ H1, H1 = upd (upd H t (.tup [.int e.1, .int e.2.1, .int e.2.2])) p (.lst (xs ++ [.ref t])) → (∃ ys, H1 p = some (.lst ys)) ∧ ∀ u, H1 u = none → ∃ ys, upd H1 u (.tup [.int f.1, .int f.2.1, .int f.2.2]) p = some (.lst ys) ∧ ys.length < sizeLine ∧
        Q (upd (upd H1 u (.tup [.int f.1, .int f.2.1, .int f.2.2])) p (.lst (ys ++ [.ref u]))) := fun t ht => by
  have s1 := same_new (o := .tup [.int e.1, .int e.2.1, .int e.2.2]) ht
  have h1 := h.same s1
  obtain ⟨xs, x1, x2⟩ := h1.len
  have e0 : upd H t (.tup [.int e.1, .int e.2.1, .int e.2.2]) t = some (.tup [.int e.1, .int e.2.1, .int e.2.2]) := upd_same
  have sA := same_tr s s1
  generalize upd H t (.tup [.int e.1, .int e.2.1, .int e.2.2]) = HA at s1 h1 x1 e0 sA
  refine ⟨xs, x1, small1000 (by omega), fun H1 eH => ?_⟩
  have h2 := h1.push (e := e) x1 e0
  rw [← eH] at h2
  have sB : Same H0 H1 := fun c o z => by
    rw [eH, upd_ne (ne_of_none z np)]
    exact sA _ _ z
  obtain ⟨ys0, y01, y02⟩ := h2.len
  refine ⟨⟨ys0, y01⟩, fun u hu => ?_⟩
  have s2 := same_new (o := .tup [.int f.1, .int f.2.1, .int f.2.2]) hu
  have h3 := h2.same s2
  obtain ⟨ys, y1, y2⟩ := h3.len
  have f0 : upd H1 u (.tup [.int f.1, .int f.2.1, .int f.2.2]) u = some (.tup [.int f.1, .int f.2.1, .int f.2.2]) := upd_same
  have sC := same_tr sB s2
  generalize upd H1 u (.tup [.int f.1, .int f.2.1, .int f.2.2]) = HC at s2 h3 y1 f0 sC
  refine ⟨ys, y1, small1000 (by rw [y2, List.length_append]; simp; omega), k _ ?_ fun c o z => ?_⟩
  · have h4 := h3.push (e := f) y1 f0
    rw [List.append_assoc] at h4
    exact h4
  · rw [upd_ne (ne_of_none z np)]
    exact sC _ _ z
def groundE (i t : Int) : List Edge := [(-1, i, t), (i, -1, 0)]
def groundN : Int → List Int → List Edge
  | _, [] => []
  | k, t :: ts => groundE k t ++ groundN (k + 1) ts
theorem groundN_snoc : ∀ (k : Int) (l : List Int) (t : Int), groundN k (l ++ [t]) = groundN k l ++ groundE (k + l.length) t
  | k, [], t => by simp [groundN]
  | k, x :: l, t => by
    have ih := groundN_snoc (k + 1) l t
    show groundE k x ++ groundN (k + 1) (l ++ [t]) = _
    rw [ih]
    show _ = groundE k x ++ groundN (k + 1) l ++ _
    rw [List.append_assoc]
    have e : k + 1 + (l.length : Int) = k + ((x :: l).length : Int) := by rw [List.length_cons]; omega
    rw [e]
theorem groundN_len : ∀ (k : Int) (l : List Int), (groundN k l).length = 2 * l.length
  | _, [] => rfl
  | k, x :: l => by
    have ih := groundN_len (k + 1) l
    show (groundE k x ++ groundN (k + 1) l).length = _
    rw [List.length_append, ih, List.length_cons]
    show 2 + 2 * l.length = _
    omega
def spanE (p w : Int) : List Edge := [(p, p + 1, w), (p + 1, p, w)]
def spanN (sl : Int) : Int → List Int → List Edge
  | _, [] => []
  | p, x :: xs => spanE p (sl * x) ++ spanN sl (p + 1) xs
theorem spanN_snoc (sl : Int) : ∀ (p : Int) (l : List Int) (x : Int), spanN sl p (l ++ [x]) = spanN sl p l ++ spanE (p + l.length) (sl * x)
  | p, [], x => by simp [spanN]
  | p, y :: l, x => by
    have ih := spanN_snoc sl (p + 1) l x
    show spanE p (sl * y) ++ spanN sl (p + 1) (l ++ [x]) = _
    rw [ih]
    show _ = spanE p (sl * y) ++ spanN sl (p + 1) l ++ _
    rw [List.append_assoc]
    have e : p + 1 + (l.length : Int) = p + ((y :: l).length : Int) := by rw [List.length_cons]; omega
    rw [e]
theorem spanN_len (sl : Int) : ∀ (p : Int) (l : List Int), (spanN sl p l).length = 2 * l.length
  | _, [] => rfl
  | p, x :: l => by
    have ih := spanN_len sl (p + 1) l
    show (spanE p (sl * x) ++ spanN sl (p + 1) l).length = _
    rw [List.length_append, ih, List.length_cons]
    show 2 + 2 * l.length = _
    omega
def slopeN : Int → List Wal → List Edge
  | _, [] => []
  | p, w :: ws => spanN w.2.2.1 p w.2.2.2 ++ slopeN (p + w.many) ws
/-- how many places -/
def places : List Wal → Nat
  | [] => 0
  | w :: ws => w.many + places ws
theorem places_snoc : ∀ (l : List Wal) (w : Wal), places (l ++ [w]) = places l + w.many
  | [], w => by simp [places]
  | x :: l, w => by
    show x.many + places (l ++ [w]) = x.many + places l + w.many
    rw [places_snoc l w]
    omega
theorem spots_places : ∀ ws : List Wal, (spotsOf ws).length = places ws
  | [] => rfl
  | w :: ws => by
    have ih := spots_places ws
    unfold spotsOf at ih ⊢
    rw [List.flatMap_cons, List.length_append, ih]
    unfold spotsW
    rw [List.length_map, List.length_range]
    rfl
theorem slopeN_snoc : ∀ (p : Int) (l : List Wal) (w : Wal), slopeN p (l ++ [w]) = slopeN p l ++ spanN w.2.2.1 (p + places l) w.2.2.2
  | p, [], w => by simp [slopeN, places]
  | p, x :: l, w => by
    have ih := slopeN_snoc (p + x.many) l w
    show spanN x.2.2.1 p x.2.2.2 ++ slopeN (p + x.many) (l ++ [w]) = _
    rw [ih]
    show _ = spanN x.2.2.1 p x.2.2.2 ++ slopeN (p + x.many) l ++ _
    rw [List.append_assoc]
    have e : p + (x.many : Int) + (places l : Int) = p + ((places (x :: l) : Nat) : Int) := by show _ = p + ((x.many + places l : Nat) : Int); omega
    rw [e]
theorem slopeN_len : ∀ (p : Int) (l : List Wal), (slopeN p l).length ≤ 2 * places l
  | _, [] => Nat.zero_le _
  | p, x :: l => by
    have ih := slopeN_len (p + x.many) l
    show (spanN x.2.2.1 p x.2.2.2 ++ slopeN (p + x.many) l).length ≤ 2 * (x.many + places l)
    rw [List.length_append, spanN_len]
    have : x.many = x.2.2.2.length + 1 := rfl
    omega
theorem places_take {ws : List Wal} {i : Nat} {w : Wal} (h : ws[i]? = some w) : places (ws.take i) + w.many ≤ places ws := by
  have e : ws = ws.take (i + 1) ++ ws.drop (i + 1) := (List.take_append_drop _ _).symm
  have key : ∀ a b : List Wal, places (a ++ b) = places a + places b := fun a b => by
    induction a with
    | nil => simp [places]
    | cons x a ih =>
      show x.many + places (a ++ b) = x.many + places a + places b
      rw [ih]
      omega
  have e2 : places ws = places (ws.take (i + 1)) + places (ws.drop (i + 1)) := by rw [← key, ← e]
  rw [List.take_succ, h, Option.toList_some, places_snoc] at e2
  omega
/-- a link: two places, the least and the most difference -/
abbrev Lnk := Int × Int × Int × Int
def linkE (l : Lnk) : List Edge := [(l.1, l.2.1, l.2.2.2), (l.2.1, l.1, -l.2.2.1)]
def LnkT (K : PySem.W.Frag) (H : Hp) (t : Addr) (l : Lnk) : Prop := SqT K H t [.int l.1, .int l.2.1, .int l.2.2.1, .int l.2.2.2]
def LnksAt (K : PySem.W.Frag) (H : Hp) (p : Addr) (ls : List Lnk) : Prop := ∃ ts : List Addr, H p = some (.lst (ts.map V.ref)) ∧ ts.length = ls.length ∧ ∀ (i : Nat) (t : Addr) (l : Lnk), ts[i]? = some t → ls[i]? = some l → LnkT K H t l
theorem LnksAt.same {K : PySem.W.Frag} {H H' : Hp} {p : Addr} {ls : List Lnk} (h : LnksAt K H p ls) (s : Same H H') : LnksAt K H' p ls := by
  obtain ⟨ts, h1, h2, h3⟩ := h
  exact ⟨ts, s _ _ h1, h2, fun i t l e1 e2 => sqT_same (h3 i t l e1 e2) s⟩
theorem linkE_len (ls : List Lnk) : (ls.flatMap linkE).length = 2 * ls.length := by
  induction ls with
  | nil => rfl
  | cons l ls ih =>
    rw [List.flatMap_cons, List.length_append, ih, List.length_cons]
    show 2 + 2 * ls.length = _
    omega
structure EdTxt (mg : Str → Option Value) : Prop where
  ground : ∃ t, mg "GROUND" = some (.int (-1) t)
  enumerate : mg "enumerate" = none
def spGrd : Sp := fun vs H Q _ => ∃ (p : Addr) (ts : List Int), vs = [.ref p] ∧ H p = some (.lst (ts.map V.int)) ∧ ts.length ≤ 400 ∧ ∀ (q : Addr) (H' : Hp), H q = none → Same H H' → LimsAt H' q (groundN 0 ts) → Q (.ref q) H'
def spSlp (K : PySem.W.Frag) : Sp := fun vs H Q _ => ∃ (p : Addr) (ws : List Wal), vs = [.ref p] ∧ WalsAt K H p ws ∧ places ws ≤ 400 ∧ (∀ w ∈ ws, Sz w.2.2.1 ∧ ∀ x ∈ w.2.2.2, Sz x) ∧ ∀ (q : Addr) (H' : Hp), H q = none → Same H H' → LimsAt H' q (slopeN 0 ws) → Q (.ref q) H'
def spLnk (K : PySem.W.Frag) : Sp := fun vs H Q _ => ∃ (p : Addr) (ls : List Lnk), vs = [.ref p] ∧ LnksAt K H p ls ∧ ls.length ≤ 400 ∧ ∀ (q : Addr) (H' : Hp), H q = none → Same H H' → LimsAt H' q (ls.flatMap linkE) → Q (.ref q) H'
section
variable {P : Program} {w : World} {K : PySem.W.Frag} {mg : Str → Option Value} {base : Heap}
theorem scGrd : FnScope ["tops", "limits", "place", "top"] ["tops"] (defScope sGrd) := ⟨rfl, rfl, rfl, by decide +kernel, rfl, by decide +kernel, by decide +kernel⟩
theorem scSlp : FnScope ["rows", "limits", "place", "_", "slope", "spans", "span"] ["rows"] (defScope sSlp) := ⟨rfl, rfl, rfl, by decide +kernel, rfl, by decide +kernel, by decide +kernel⟩
theorem scLnk : FnScope ["links", "limits", "first", "second", "least", "most"] ["links"] (defScope sLnk) := ⟨rfl, rfl, rfl, by decide +kernel, rfl, by decide +kernel, by decide +kernel⟩
set_option maxHeartbeats 0 in
theorem ok_grd {f : Addr} {fd : FuncData} (F : Fun K "_ground_limits" "_ground_limits" sGrd f fd) (T : EdTxt mg) : FnOk P w K mg base CX0 1 f fd ["tops"] spGrd := by
  obtain ⟨tk, hgr⟩ := T.ground
  have hen := T.enumerate
  refine F.ok scGrd (fun vs H Q E h => ?_) (fun cdv A outer s H vs Q E hr h => ?_)
  · obtain ⟨p, ts, rfl, _⟩ := h
    rfl
  · obtain ⟨p, ts, rfl, hp, l4, k⟩ := h
    refine ⟨_, (pss_cons (ps_set (i := 1) scGrd.nd rfl (Or.inl rfl) (pe_lst pa_nil))
      (pss_cons (ps_for PassesOwn.never rfl (pi_enum (by rfl) hen (pa_cons (pv 0) pa_nil)) (pg_tup (by rfl) (pgs_cons (pg_name (i := 2) scGrd.nd rfl (Or.inl rfl)) (pgs_cons (pg_name (i := 3) scGrd.nd rfl (Or.inl rfl)) pgs_nil))) (pss_cons (ps_expr (pe_bm PySem.F.plainAttrs_list PySem.F.slot_list_append PySem.F.type_list_append mt_append (pv 1) (pa_cons (pe_tup (pa_cons (pe_glob (v := .int (-1)) rfl hgr ⟨_, rfl⟩) (pa_cons (pv 2) (pa_cons (pv 3) pa_nil)))) pa_nil)))
      (pss_one (ps_expr (pe_bm PySem.F.plainAttrs_list PySem.F.slot_list_append PySem.F.type_list_append mt_append (pv 1) (pa_cons (pe_tup (pa_cons (pv 2) (pa_cons (pe_glob (v := .int (-1)) rfl hgr ⟨_, rfl⟩) (pa_cons pe_int pa_nil)))) pa_nil))))))
      (pss_one (ps_ret (pv 1))))), ?_⟩
    refine ⟨by show 0 ≤ sizeLine; decide, fun D hD => ?_⟩
    have S1 := same_new (o := .lst []) hD
    refine ⟨_, rfl, p, _, rfl, SqL.of (S1 _ _ hp), ?_⟩
    refine for_it (walk_enum (xs := ts.map V.int)) (fun i σ' H' => ∃ v2 v3 : Option V, σ' = [some (.ref p), some (.ref D), v2, v3] ∧ LimsAt H' D (groundN 0 (ts.take i)) ∧ Same H H')
      ⟨_, _, rfl, ⟨[], upd_same, rfl, fun i t e z => by cases z⟩, S1⟩ (fun i σ' H' _ h => by obtain ⟨_, _, _, _, z⟩ := h; exact SqL.of (z _ _ hp)) ?_ ?_
    · rintro i x σ' H1 H2 hi ⟨v2, v3, rfl, L, S⟩ ⟨T0, x0, y0, rfl, hT, rfl, hx, hy⟩
      cases hx
      rw [List.length_map] at hi
      have hy : (ts.map V.int)[i]? = some y0 := hy
      rw [List.getElem?_map, List.getElem?_eq_getElem hi] at hy
      cases hy
      have sT := same_new (o := .tup [V.int (i : Nat), V.int ts[i]]) hT
      refine ⟨T0, _, rfl, SqT.of upd_same, rfl, _, _, rfl, _, _, rfl, rfl, ?_⟩
      have L2 := L.same sT
      have S2 := same_tr S sT
      generalize upd H1 T0 (.tup [V.int (i : Nat), V.int ts[i]]) = H2 at L2 S2
      obtain ⟨zs, z1, z2⟩ := L2.len
      have et : groundN 0 (ts.take (i + 1)) = groundN 0 (ts.take i) ++ [((-1 : Int), ((i : Nat) : Int), ts[i]), (((i : Nat) : Int), (-1 : Int), (0 : Int))] := by
        rw [List.take_succ, List.getElem?_eq_getElem hi, Option.toList_some, groundN_snoc, List.length_take, show min i ts.length = i by omega, Int.zero_add]
        rfl
      have pp := push2 (H0 := H) (Q := fun H' => ∃ v2 v3 : Option V, [some (.ref p), some (.ref D), some (.int ((i : Nat) : Int)), some (.int ts[i])] = [some (.ref p), some (.ref D), v2, v3] ∧ LimsAt H' D (groundN 0 (ts.take (i + 1))) ∧ Same H H')
        ((-1 : Int), ((i : Nat) : Int), ts[i]) (((i : Nat) : Int), (-1 : Int), (0 : Int)) L2 S2 hD (by rw [groundN_len, List.length_take]; omega) (fun H' l s => ⟨_, _, rfl, by rw [et]; exact l, s⟩)
      refine ⟨_, rfl, .inl ⟨rfl, _, SqL.of z1⟩, _, rfl, _, rfl, by show 3 ≤ sizeLine; decide, fun t ht => ?_⟩
      obtain ⟨xs, x1, x2, x3⟩ := pp t ht
      refine ⟨D, xs, _, rfl, rfl, x1, x2, ?_⟩
      obtain ⟨⟨ys, y1⟩, y2⟩ := x3 _ rfl
      refine ⟨_, rfl, .inl ⟨rfl, _, SqL.of y1⟩, _, rfl, by show 3 ≤ sizeLine; decide, fun u hu => ?_⟩
      obtain ⟨ys', w1, w2, w3⟩ := y2 u hu
      exact ⟨D, ys', _, rfl, rfl, w1, w2, w3⟩
    · rintro σ' H1 ⟨v2, v3, rfl, L, S⟩
      rw [List.length_map, List.take_length] at L
      exact ⟨_, rfl, k D H1 hD S L⟩
set_option maxHeartbeats 0 in
theorem ok_lnk {f : Addr} {fd : FuncData} (F : Fun K "_link_limits" "_link_limits" sLnk f fd) : FnOk P w K mg base CX0 1 f fd ["links"] (spLnk K) := by
  refine F.ok scLnk (fun vs H Q E h => ?_) (fun cdv A outer s H vs Q E hr h => ?_)
  · obtain ⟨p, ls, rfl, _⟩ := h
    rfl
  · obtain ⟨p, ls, rfl, hL, l4, k⟩ := h
    refine ⟨_, (pss_cons (ps_set (i := 1) scLnk.nd rfl (Or.inl rfl) (pe_lst pa_nil))
      (pss_cons (ps_for PassesOwn.never rfl (pi_list (pv 0)) (pg_tup (by rfl) (pgs_cons (pg_name (i := 2) scLnk.nd rfl (Or.inl rfl)) (pgs_cons (pg_name (i := 3) scLnk.nd rfl (Or.inl rfl)) (pgs_cons (pg_name (i := 4) scLnk.nd rfl (Or.inl rfl)) (pgs_cons (pg_name (i := 5) scLnk.nd rfl (Or.inl rfl)) pgs_nil))))) (pss_cons (ps_expr (pe_bm PySem.F.plainAttrs_list PySem.F.slot_list_append PySem.F.type_list_append mt_append (pv 1) (pa_cons (pe_tup (pa_cons (pv 2) (pa_cons (pv 3) (pa_cons (pv 5) pa_nil)))) pa_nil)))
      (pss_one (ps_expr (pe_bm PySem.F.plainAttrs_list PySem.F.slot_list_append PySem.F.type_list_append mt_append (pv 1) (pa_cons (pe_tup (pa_cons (pv 3) (pa_cons (pv 2) (pa_cons (pe_un un_neg (pv 4)) pa_nil)))) pa_nil))))))
      (pss_one (ps_ret (pv 1))))), ?_⟩
    refine ⟨by show 0 ≤ sizeLine; decide, fun D hD => ?_⟩
    have S1 := same_new (o := .lst []) hD
    obtain ⟨ts, t1, t2, t3⟩ := id hL
    refine ⟨_, rfl, p, rfl, ⟨_, SqL.of (S1 _ _ t1)⟩, ?_⟩
    refine for_it (walk_list (xs := ts.map V.ref)) (fun i σ' H' => ∃ v2 v3 v4 v5 : Option V, σ' = [some (.ref p), some (.ref D), v2, v3, v4, v5] ∧ LimsAt H' D ((ls.take i).flatMap linkE) ∧ Same H H')
      ⟨_, _, _, _, rfl, ⟨[], upd_same, rfl, fun i t e z => by cases z⟩, S1⟩ (fun i σ' H' _ h => by obtain ⟨_, _, _, _, _, _, z⟩ := h; exact SqL.of (z _ _ t1)) ?_ ?_
    · rintro i x σ' H1 H2 hi ⟨v2, v3, v4, v5, rfl, L, S⟩ ⟨rfl, hx⟩
      rw [List.length_map] at hi
      rw [List.getElem?_map, List.getElem?_eq_getElem hi] at hx
      cases hx
      obtain ⟨⟨a, b, least, most⟩, hl⟩ : ∃ l, ls[i]? = some l := ⟨_, List.getElem?_eq_getElem (by omega)⟩
      have z := sqT_same (t3 i _ _ (List.getElem?_eq_getElem hi) hl) S
      refine ⟨_, _, rfl, z, rfl, _, _, rfl, _, _, rfl, _, _, rfl, _, _, rfl, rfl, ?_⟩
      obtain ⟨zs, z1, z2⟩ := L.len
      have et : (ls.take (i + 1)).flatMap linkE = (ls.take i).flatMap linkE ++ [(a, b, most), (b, a, -least)] := by
        rw [List.take_succ, hl, List.flatMap_append]
        simp [linkE]
      have pp := push2 (H0 := H) (Q := fun H' => ∃ v2 v3 v4 v5 : Option V, [some (.ref p), some (.ref D), some (.int a), some (.int b), some (.int least), some (.int most)] = [some (.ref p), some (.ref D), v2, v3, v4, v5] ∧ LimsAt H' D ((ls.take (i + 1)).flatMap linkE) ∧ Same H H')
        (a, b, most) (b, a, -least) L S hD (by rw [linkE_len, List.length_take]; omega) (fun H' l s => ⟨_, _, _, _, rfl, by rw [et]; exact l, s⟩)
      refine ⟨_, rfl, .inl ⟨rfl, _, SqL.of z1⟩, _, rfl, _, rfl, _, rfl, by show 3 ≤ sizeLine; decide, fun t ht => ?_⟩
      obtain ⟨xs, x1, x2, x3⟩ := pp t ht
      refine ⟨D, xs, _, rfl, rfl, x1, x2, ?_⟩
      obtain ⟨⟨ys, y1⟩, y2⟩ := x3 _ rfl
      refine ⟨_, rfl, .inl ⟨rfl, _, SqL.of y1⟩, _, rfl, _, rfl, _, rfl, least, rfl, by show 3 ≤ sizeLine; decide, fun u hu => ?_⟩
      obtain ⟨ys', w1, w2, w3⟩ := y2 u hu
      exact ⟨D, ys', _, rfl, rfl, w1, w2, w3⟩
    · rintro σ' H1 ⟨v2, v3, v4, v5, rfl, L, S⟩
      rw [List.length_map, t2, List.take_length] at L
      exact ⟨_, rfl, k D H1 hD S L⟩
set_option maxHeartbeats 0 in
theorem ok_slp {f : Addr} {fd : FuncData} (F : Fun K "_slope_limits" "_slope_limits" sSlp f fd) : FnOk P w K mg base CX0 1 f fd ["rows"] (spSlp K) := by
  refine F.ok scSlp (fun vs H Q E h => ?_) (fun cdv A outer s H vs Q E hr h => ?_)
  · obtain ⟨p, ws, rfl, _⟩ := h
    rfl
  · obtain ⟨p, ws, rfl, hW, l4, hz, k⟩ := h
    refine ⟨_, (pss_cons (ps_set (i := 1) scSlp.nd rfl (Or.inl rfl) (pe_lst pa_nil))
      (pss_cons (ps_set (i := 2) scSlp.nd rfl (Or.inl rfl) pe_int)
      (pss_cons (ps_for PassesOwn.never rfl (pi_list (pv 0)) (pg_tup (by rfl) (pgs_cons (pg_name (i := 3) scSlp.nd rfl (Or.inl rfl)) (pgs_cons (pg_name (i := 3) scSlp.nd rfl (Or.inl rfl)) (pgs_cons (pg_name (i := 4) scSlp.nd rfl (Or.inl rfl)) (pgs_cons (pg_name (i := 5) scSlp.nd rfl (Or.inl rfl)) pgs_nil))))) (pss_cons (ps_for PassesOwn.never rfl (pi_tup (pv 5)) (pg_name (i := 6) scSlp.nd rfl (Or.inl rfl)) (pss_cons (ps_expr (pe_bm PySem.F.plainAttrs_list PySem.F.slot_list_append PySem.F.type_list_append mt_append (pv 1) (pa_cons (pe_tup (pa_cons (pv 2) (pa_cons (pe_op op_add (pv 2) pe_int) (pa_cons (pe_op op_mulW (pv 4) (pv 6)) pa_nil)))) pa_nil)))
      (pss_cons (ps_expr (pe_bm PySem.F.plainAttrs_list PySem.F.slot_list_append PySem.F.type_list_append mt_append (pv 1) (pa_cons (pe_tup (pa_cons (pe_op op_add (pv 2) pe_int) (pa_cons (pv 2) (pa_cons (pe_op op_mulW (pv 4) (pv 6)) pa_nil)))) pa_nil)))
      (pss_one (ps_aug (i := 2) scSlp.nd rfl (Or.inl rfl) pe_int ip_add)))))
      (pss_one (ps_aug (i := 2) scSlp.nd rfl (Or.inl rfl) pe_int ip_add))))
      (pss_one (ps_ret (pv 1)))))), ?_⟩
    refine ⟨by show 0 ≤ sizeLine; decide, fun D hD => ?_⟩
    have S1 := same_new (o := .lst []) hD
    obtain ⟨ts, t1, t2, t3⟩ := id hW
    refine ⟨_, rfl, p, rfl, ⟨_, SqL.of (S1 _ _ t1)⟩, ?_⟩
    refine for_it (walk_list (xs := ts.map V.ref)) (fun i σ' H' => ∃ v3 v4 v5 v6 : Option V, σ' = [some (.ref p), some (.ref D), some (.int (places (ws.take i) : Nat)), v3, v4, v5, v6] ∧ LimsAt H' D (slopeN 0 (ws.take i)) ∧ Same H H')
      ⟨_, _, _, _, rfl, ⟨[], upd_same, rfl, fun i t e z => by cases z⟩, S1⟩ (fun i σ' H' _ h => by obtain ⟨_, _, _, _, _, _, z⟩ := h; exact SqL.of (z _ _ t1)) ?_ ?_
    · rintro i x σ' H1 H2 hi ⟨v3, v4, v5, v6, rfl, L, S⟩ ⟨rfl, hx⟩
      rw [List.length_map] at hi
      rw [List.getElem?_map, List.getElem?_eq_getElem hi] at hx
      cases hx
      obtain ⟨⟨nm, tp, sl, spans⟩, hw⟩ : ∃ l, ws[i]? = some l := ⟨_, List.getElem?_eq_getElem (by omega)⟩
      obtain ⟨sp, z1H, z2H⟩ := t3 i _ _ (List.getElem?_eq_getElem hi) hw
      have z1 := S _ _ z1H
      have z2 := sqT_same z2H S
      obtain ⟨hs1, hs2⟩ := hz _ (List.mem_of_getElem? hw)
      have pt := places_take hw
      have pm : Wal.many (nm, tp, sl, spans) = spans.length + 1 := rfl
      have pl := slopeN_len 0 (ws.take i)
      refine ⟨_, _, rfl, SqT.of z1, rfl, _, _, rfl, _, _, rfl, _, _, rfl, _, _, rfl, rfl, ?_⟩
      have et : slopeN 0 (ws.take (i + 1)) = slopeN 0 (ws.take i) ++ spanN sl (places (ws.take i) : Nat) spans := by
        rw [List.take_succ, hw, Option.toList_some, slopeN_snoc, Int.zero_add]
      refine ⟨_, rfl, sp, rfl, ⟨_, z2⟩, ?_⟩
      refine for_it (walk_tup (xs := spans.map V.int)) (fun m σ' H' => ∃ v3 v6 : Option V, σ' = [some (.ref p), some (.ref D), some (.int ((places (ws.take i) : Nat) + (m : Nat))), v3, some (.int sl), some (.ref sp), v6] ∧ LimsAt H' D (slopeN 0 (ws.take i) ++ spanN sl (places (ws.take i) : Nat) (spans.take m)) ∧ Same H H' ∧ SqT K H' sp (spans.map V.int))
        ⟨some (.int tp), v6, by simp, by rw [List.take_zero]; simpa [spanN] using L, S, z2⟩ (fun m σ' H' _ h => by obtain ⟨_, _, _, _, _, z⟩ := h; exact z) ?_ ?_
      · rintro m x σ' H3 H4 hm ⟨v3, v6, rfl, L3, S3, z3⟩ ⟨rfl, hx⟩
        rw [List.length_map] at hm
        rw [List.getElem?_map, List.getElem?_eq_getElem hm] at hx
        cases hx
        obtain ⟨zs, q1, q2⟩ := L3.len
        have em : spanN sl (places (ws.take i) : Nat) (spans.take (m + 1)) = spanN sl (places (ws.take i) : Nat) (spans.take m) ++ [(((places (ws.take i) : Nat) : Int) + (m : Nat), ((places (ws.take i) : Nat) : Int) + (m : Nat) + 1, sl * spans[m]), (((places (ws.take i) : Nat) : Int) + (m : Nat) + 1, ((places (ws.take i) : Nat) : Int) + (m : Nat), sl * spans[m])] := by
          rw [List.take_succ, List.getElem?_eq_getElem hm, Option.toList_some, spanN_snoc, List.length_take, show min m spans.length = m by omega]
          rfl
        have cm : CMulW sl spans[m] := Sz.mul hs1.w (hs2 _ (List.getElem_mem hm)).w
        have pp := push2 (H0 := H) (Q := fun H' => LimsAt H' D (slopeN 0 (ws.take i) ++ spanN sl (places (ws.take i) : Nat) (spans.take (m + 1))) ∧ Same H H')
          (((places (ws.take i) : Nat) : Int) + (m : Nat), ((places (ws.take i) : Nat) : Int) + (m : Nat) + 1, sl * spans[m]) (((places (ws.take i) : Nat) : Int) + (m : Nat) + 1, ((places (ws.take i) : Nat) : Int) + (m : Nat), sl * spans[m]) L3 S3 hD
          (by rw [List.length_append, spanN_len, List.length_take]; omega) (fun H' l s => ⟨by rw [em, ← List.append_assoc]; exact l, s⟩)
        refine ⟨_, rfl, .inl ⟨rfl, _, SqL.of q1⟩, _, rfl, _, rfl, _, _, rfl, rfl, _, rfl, _, rfl, _, _, rfl, rfl, cm, by show 3 ≤ sizeLine; decide, fun t ht => ?_⟩
        obtain ⟨xs, x1, x2, x3⟩ := pp t ht
        refine ⟨D, xs, _, rfl, rfl, x1, x2, ?_⟩
        obtain ⟨⟨ys, y1⟩, y2⟩ := x3 _ rfl
        refine ⟨_, rfl, .inl ⟨rfl, _, SqL.of y1⟩, _, rfl, _, _, rfl, rfl, _, rfl, _, rfl, _, rfl, _, _, rfl, rfl, cm, by show 3 ≤ sizeLine; decide, fun u hu => ?_⟩
        obtain ⟨ys', w1, w2, w3, w4⟩ := y2 u hu
        refine ⟨D, ys', _, rfl, rfl, w1, w2, ?_⟩
        refine ⟨_, rfl, _, _, rfl, rfl, v3, some (.int spans[m]), ?_, w3, w4, sqT_same z2H w4⟩
        have e1 : ((places (ws.take i) : Nat) : Int) + (m : Nat) + 1 = ((places (ws.take i) : Nat) : Int) + ((m + 1 : Nat) : Nat) := by omega
        rw [← e1]
        rfl
      · rintro σ' H3 ⟨v3, v6, rfl, L3, S3, z3⟩
        rw [List.length_map, List.take_length] at L3
        refine ⟨_, rfl, _, _, rfl, rfl, v3, some (.int sl), some (.ref sp), v6, ?_, by rw [et]; exact L3, S3⟩
        have e1 : ((places (ws.take i) : Nat) : Int) + ((spans.map V.int).length : Nat) + 1 = ((places (ws.take (i + 1)) : Nat) : Int) := by
          rw [List.take_succ, hw, Option.toList_some, places_snoc, pm, List.length_map]
          omega
        rw [← e1]
        rfl
    · rintro σ' H1 ⟨v3, v4, v5, v6, rfl, L, S⟩
      rw [List.length_map, t2, List.take_length] at L
      exact ⟨_, rfl, k D H1 hD S L⟩
end
end Law

/-! The told limits: the least of the limits between two nodes, in a dict with tuple keys. -/
namespace Law
open PySem PySem.Spec PyProof.Rows L2 Sup
abbrev sTold : Stmt := top 25
def keyT (e : Edge) : List Key := [.inl e.1, .inl e.2.1]
def kvT (es : List Edge) : List (List Key × V) := es.map fun e => (keyT e, .int e.2.2)
def likeE (e x : Edge) : Bool := decide (x.1 = e.1 ∧ x.2.1 = e.2.1)
def putE (es : List Edge) (e : Edge) : List Edge := if es.any (likeE e) = true then es.map (fun x => if likeE e x = true then e else x) else es ++ [e]
/-- one limit is told -/
def tell (es : List Edge) (e : Edge) : List Edge := match es.find? (likeE e) with
  | none => putE es e
  | some x => if e.2.2 < x.2.2 then putE es e else es
theorem keyT_eq (e x : Edge) : decide (keyT x = keyT e) = likeE e x := by
  unfold keyT likeE
  refine decide_eq_decide.mpr ⟨fun h => ?_, fun h => by rw [h.1, h.2]⟩
  injection h with h1 h2
  injection h2 with h2 _
  exact ⟨Sum.inl.inj h1, Sum.inl.inj h2⟩
theorem val_kvT (e : Edge) : ∀ es : List Edge, valV (kvT es) (keyT e) = (es.find? (likeE e)).map fun x => V.int x.2.2
  | [] => rfl
  | x :: es => by
    have ih := val_kvT e es
    have q := keyT_eq e x
    show valV ((keyT x, V.int x.2.2) :: kvT es) (keyT e) = _
    rw [List.find?_cons]
    cases c : likeE e x with
    | true =>
      rw [c] at q
      rw [valV_pos (of_decide_eq_true q)]
      rfl
    | false =>
      rw [c] at q
      rw [valV_neg (of_decide_eq_false q), ih]
theorem put_kvT (es : List Edge) (e : Edge) : putK (kvT es) (keyT e) (.int e.2.2) = kvT (putE es e) := by
  unfold putK putE
  have a : ((kvT es).any fun kv => decide (kv.1 = keyT e)) = es.any (likeE e) := by
    unfold kvT
    rw [List.any_map]
    congr 1
    funext x
    exact keyT_eq e x
  rw [a]
  by_cases c : es.any (likeE e) = true
  · rw [if_pos c, if_pos c]
    unfold kvT
    rw [List.map_map, List.map_map]
    refine List.map_congr_left fun x _ => ?_
    show (if keyT x = keyT e then (keyT x, V.int e.2.2) else (keyT x, V.int x.2.2)) = (fun e : Edge => (keyT e, V.int e.2.2)) (if likeE e x = true then e else x)
    have q := keyT_eq e x
    by_cases h : likeE e x = true
    · rw [h] at q
      rw [if_pos h, if_pos (of_decide_eq_true q), of_decide_eq_true q]
    · rw [Bool.eq_false_iff.mpr h] at q
      rw [if_neg h, if_neg (of_decide_eq_false q)]
  · rw [if_neg c, if_neg c]
    unfold kvT
    rw [List.map_append]
    rfl
theorem putE_len (es : List Edge) (e : Edge) : (putE es e).length ≤ es.length + 1 := by
  unfold putE
  split
  · rw [List.length_map]
    omega
  · rw [List.length_append]
    exact Nat.le_refl _
theorem tell_len (es : List Edge) (e : Edge) : (tell es e).length ≤ es.length + 1 := by
  unfold tell
  split
  · exact putE_len es e
  · split
    · exact putE_len es e
    · omega
theorem fold_len : ∀ (fs es : List Edge), (fs.foldl tell es).length ≤ es.length + fs.length
  | [], es => Nat.le_refl _
  | f :: fs, es => by
    have h1 := fold_len fs (tell es f)
    have h2 := tell_len es f
    rw [List.length_cons]
    show (fs.foldl tell (tell es f)).length ≤ _
    omega
theorem LimsAt.sameB {H H' : Hp} {p D : Addr} {es : List Edge} {kv : List (List Key × V)} (h : LimsAt H p es) (hD : H D = some (.dT kv)) (s : SameB D H H') : LimsAt H' p es := by
  obtain ⟨ts, h1, h2, h3⟩ := h
  refine ⟨ts, s _ _ (fun z => by rw [z, hD] at h1; cases h1) h1, h2, fun i t e e1 e2 => ?_⟩
  have z := h3 i t e e1 e2
  exact s _ _ (fun w => by rw [w, hD] at z; cases z) z
/-- all the limits that rows, tops and links tell -/
def limsOf (ws : List Wal) (ls : List Lnk) : List Edge := groundN 0 (topsOf ws) ++ slopeN 0 ws ++ ls.flatMap linkE
def toldOf (ws : List Wal) (ls : List Lnk) : List Edge := (limsOf ws ls).foldl tell []
theorem lims_len (ws : List Wal) (ls : List Lnk) : (limsOf ws ls).length ≤ 4 * places ws + 2 * ls.length := by
  unfold limsOf
  rw [List.length_append, List.length_append, groundN_len, linkE_len, tops_len, spots_places]
  have := slopeN_len 0 ws
  omega
structure ToTxt (mg : Str → Option Value) (fGr fSl fLk : Addr) : Prop where
  grd : mg "_ground_limits" = some (.ref fGr)
  slp : mg "_slope_limits" = some (.ref fSl)
  lnk : mg "_link_limits" = some (.ref fLk)
def spTold (K : PySem.W.Frag) : Sp := fun vs H Q _ => ∃ (p1 p2 p3 : Addr) (ws : List Wal) (ls : List Lnk), vs = [.ref p1, .ref p2, .ref p3] ∧ WalsAt K H p1 ws ∧ H p2 = some (.lst ((topsOf ws).map V.int)) ∧ LnksAt K H p3 ls ∧ places ws ≤ 150 ∧ ls.length ≤ 100 ∧ (∀ w ∈ ws, Sz w.2.2.1 ∧ ∀ x ∈ w.2.2.2, Sz x) ∧
  ∀ (q : Addr) (H' : Hp), H q = none → Same H H' → H' q = some (.dT (kvT (toldOf ws ls))) → Q (.ref q) H'
section
variable {P : Program} {w : World} {K : PySem.W.Frag} {mg : Str → Option Value} {base : Heap}
theorem scTold : FnScope ["rows", "tops", "links", "told", "limits", "first", "second", "most", "known"] ["rows", "tops", "links"] (defScope sTold) := ⟨rfl, rfl, rfl, by decide +kernel, rfl, by decide +kernel, by decide +kernel⟩
set_option maxHeartbeats 0 in
theorem ok_told {f fGr fSl fLk : Addr} {fd fdGr fdSl fdLk : FuncData} (F : Fun K "_told_limits" "_told_limits" sTold f fd) (T : ToTxt mg fGr fSl fLk) (GGr : FnOk P w K mg base CX0 1 fGr fdGr ["tops"] spGrd) (FGr : Fun K "_ground_limits" "_ground_limits" sGrd fGr fdGr) (bGr : Binds K fdGr ["tops"] [])
    (GSl : FnOk P w K mg base CX0 1 fSl fdSl ["rows"] (spSlp K)) (FSl : Fun K "_slope_limits" "_slope_limits" sSlp fSl fdSl) (bSl : Binds K fdSl ["rows"] [])
    (GLk : FnOk P w K mg base CX0 1 fLk fdLk ["links"] (spLnk K)) (FLk : Fun K "_link_limits" "_link_limits" sLnk fLk fdLk) (bLk : Binds K fdLk ["links"] []) : FnOk P w K mg base CX0 2 f fd ["rows", "tops", "links"] (spTold K) := by
  refine F.ok scTold (fun vs H Q E h => ?_) (fun cdv A outer s H vs Q E hr h => ?_)
  · obtain ⟨p1, p2, p3, ws, ls, rfl, _⟩ := h
    rfl
  · obtain ⟨p1, p2, p3, ws, ls, rfl, hW, hT, hL, l1, l2, hz, k⟩ := h
    have hr1 : Room 1 _ := hr.mono (by decide)
    refine ⟨_, (pss_cons (ps_set (i := 3) scTold.nd rfl (Or.inl rfl) pe_dnewT)
      (pss_cons (ps_set (i := 4) scTold.nd rfl (Or.inl rfl) (pe_op op_cat (pe_op op_cat (pe_call GGr hr1 rfl T.grd FGr.kp bGr .nil pass0 (pa_cons (pv 1) pa_nil)) (pe_call GSl hr1 rfl T.slp FSl.kp bSl .nil pass0 (pa_cons (pv 0) pa_nil))) (pe_call GLk hr1 rfl T.lnk FLk.kp bLk .nil pass0 (pa_cons (pv 2) pa_nil))))
      (pss_cons (ps_for PassesOwn.never rfl (pi_list (pv 4)) (pg_tup (by rfl) (pgs_cons (pg_name (i := 5) scTold.nd rfl (Or.inl rfl)) (pgs_cons (pg_name (i := 6) scTold.nd rfl (Or.inl rfl)) (pgs_cons (pg_name (i := 7) scTold.nd rfl (Or.inl rfl)) pgs_nil)))) (pss_cons (ps_set (i := 8) scTold.nd rfl (Or.inl rfl) (pe_dget1 (hu_of hr) (pv 3) (pe_tup (pa_cons (pv 5) (pa_cons (pv 6) pa_nil))) ⟨rfl, rfl, rfl, rfl⟩))
      (pss_one (ps_if (PW.pt (pw_or (pt_cmpR op_isN (pv 8) pe_non (nomark _)) (pw_or1 (pt_cmpR op_lt (pv 7) (pv 8) (nomark _))))) (pss_one (ps_dput (hu_of hr) (pv 3) (pe_tup (pa_cons (pv 5) (pa_cons (pv 6) pa_nil))) (pv 7) rfl)) pss_nil))))
      (pss_one (ps_ret (pv 3)))))), ?_⟩
    refine fun D hD => ?_
    have S1 := same_new (o := .dT []) hD
    have e1 : upd H D (.dT []) D = some (.dT []) := upd_same
    generalize upd H D (.dT []) = H1 at S1 e1
    have tl := tops_len ws
    rw [spots_places] at tl
    refine ⟨_, rfl, p2, topsOf ws, rfl, S1 _ _ hT, by omega, fun a Ha na sa La => ?_⟩
    refine ⟨_, rfl, p1, ws, rfl, (hW.same S1).same sa, by omega, hz, fun b Hb nb sb Lb => ?_⟩
    have La2 := La.same sb
    obtain ⟨xs, x1, x2⟩ := La2.len
    obtain ⟨ys, y1, y2⟩ := Lb.len
    have sl := slopeN_len 0 ws
    rw [groundN_len] at x2
    refine ⟨a, b, xs, ys, rfl, rfl, x1, y1, by rw [sizeLine_eq]; omega, fun c hc => ?_⟩
    have Lc := La2.cat Lb x1 y1 hc
    have sc := same_new (o := .lst (xs ++ ys)) hc
    have S2 := same_tr (same_tr (same_tr S1 sa) sb) sc
    have e2 := sc _ _ (sb _ _ (sa _ _ e1))
    generalize upd Hb c (.lst (xs ++ ys)) = H2 at Lc S2 e2
    refine ⟨_, rfl, p3, ls, rfl, hL.same S2, by omega, fun d Hd nd sd Ld => ?_⟩
    have Lc2 := Lc.same sd
    obtain ⟨us, u1, u2⟩ := Lc2.len
    obtain ⟨vs, v1, v2⟩ := Ld.len
    rw [linkE_len] at v2
    rw [List.length_append, groundN_len] at u2
    refine ⟨c, d, us, vs, rfl, rfl, u1, v1, by rw [sizeLine_eq]; omega, fun lp hlp => ?_⟩
    have LL := Lc2.cat Ld u1 v1 hlp
    have sl' := same_new (o := .lst (us ++ vs)) hlp
    have S3 := same_tr (same_tr S2 sd) sl'
    have e3 := sl' _ _ (sd _ _ e2)
    generalize upd Hd lp (.lst (us ++ vs)) = H3 at LL S3 e3
    have LL : LimsAt H3 lp (limsOf ws ls) := LL
    have ll := lims_len ws ls
    generalize hes : limsOf ws ls = es at LL ll
    obtain ⟨ts, t1, t2, t3⟩ := id LL
    refine ⟨_, rfl, lp, rfl, ⟨_, SqL.of t1⟩, ?_⟩
    have nlD : lp ≠ D := fun z => by rw [z, e3] at t1; cases t1
    refine for_it (walk_list (xs := ts.map V.ref)) (fun i σ' H' => ∃ v5 v6 v7 v8 : Option V, σ' = [some (.ref p1), some (.ref p2), some (.ref p3), some (.ref D), some (.ref lp), v5, v6, v7, v8] ∧ H' D = some (.dT (kvT ((es.take i).foldl tell []))) ∧ SameB D H3 H')
      ⟨_, _, _, _, rfl, e3, SameB.of_same same_rfl⟩ (fun i σ' H' _ h => by obtain ⟨_, _, _, _, _, _, z⟩ := h; exact SqL.of (z _ _ nlD t1)) ?_ ?_
    · rintro i x σ' H4 H5 hi ⟨v5, v6, v7, v8, rfl, eD, S⟩ ⟨rfl, hx⟩
      rw [List.length_map] at hi
      rw [List.getElem?_map, List.getElem?_eq_getElem hi] at hx
      cases hx
      obtain ⟨⟨u, v, m⟩, hl⟩ : ∃ l, es[i]? = some l := ⟨_, List.getElem?_eq_getElem (by omega)⟩
      have z0 := t3 i _ _ (List.getElem?_eq_getElem hi) hl
      have z := S _ _ (fun w => by rw [w, e3] at z0; cases z0) z0
      have et : (es.take (i + 1)).foldl tell [] = tell ((es.take i).foldl tell []) (u, v, m) := by
        rw [List.take_succ, hl, Option.toList_some, List.foldl_append]
        rfl
      have fl := fold_len (es.take i) []
      rw [List.length_take] at fl
      have fl : ((es.take i).foldl tell []).length ≤ 900 := by simp only [List.length_nil] at fl; omega
      generalize (es.take i).foldl tell [] = acc at eD et fl
      refine ⟨_, _, rfl, SqT.of z, rfl, _, _, rfl, _, _, rfl, _, _, rfl, rfl, ?_⟩
      refine ⟨_, rfl, D, rfl, .inr ⟨_, .inl eD⟩, _, rfl, _, rfl, by show 2 ≤ sizeLine; decide, fun kt hkt => ?_⟩
      have sk := same_new (o := .tup [V.int u, V.int v]) hkt
      have eD2 := sk _ _ eD
      have ek : upd H5 kt (.tup [V.int u, V.int v]) kt = some (.tup ((keyT (u, v, m)).map kV)) := upd_same
      have S2 : SameB D H3 (upd H5 kt (.tup [V.int u, V.int v])) := S.trans (SameB.of_same sk)
      generalize upd H5 kt (.tup [V.int u, V.int v]) = H6 at eD2 ek S2
      refine ⟨_, DGet.t eD2 ek, ?_⟩
      rw [val_kvT]
      -- the limit is put
      have puts : ∀ {Q : Hp → Prop}, (∀ H', H' D = some (.dT (kvT (putE acc (u, v, m)))) → SameB D H3 H' → Q H') → ∀ kt2, H6 kt2 = none → ∃ H7, DPut (upd H6 kt2 (.tup [V.int u, V.int v])) D (.ref kt2) (.int m) H7 ∧ Q H7 := fun {Q} kq kt2 hk2 => by
        have s7 := same_new (o := .tup [V.int u, V.int v]) hk2
        have eD7 := s7 _ _ eD2
        have ek7 : upd H6 kt2 (.tup [V.int u, V.int v]) kt2 = some (.tup ((keyT (u, v, m)).map kV)) := upd_same
        have S7 : SameB D H3 (upd H6 kt2 (.tup [V.int u, V.int v])) := S2.trans (SameB.of_same s7)
        generalize upd H6 kt2 (.tup [V.int u, V.int v]) = H7 at eD7 ek7 S7
        refine ⟨_, DPut.t eD7 ek7 (by unfold kvT; rw [List.length_map, sizeLine_eq]; omega), kq _ ?_ fun c o n e => ?_⟩
        · rw [upd_same]
          have pk := put_kvT acc (u, v, m)
          dsimp only at pk
          rw [pk]
        · rw [upd_ne n]
          exact S7 _ _ n e
      cases hf : acc.find? (likeE (u, v, m)) with
      | none =>
        have te : tell acc (u, v, m) = putE acc (u, v, m) := by unfold tell; rw [hf]
        refine ⟨_, rfl, rfl, _, rfl, if_t (by simp) ?_⟩
        refine ⟨_, rfl, _, rfl, _, rfl, _, rfl, by show 2 ≤ sizeLine; decide, fun kt2 hk2 => ?_⟩
        obtain ⟨H7, w1, w2⟩ := puts (Q := fun H' => ∃ v5 v6 v7 v8 : Option V, [some (.ref p1), some (.ref p2), some (.ref p3), some (.ref D), some (.ref lp), some (.int u), some (.int v), some (.int m), some V.non] = [some (.ref p1), some (.ref p2), some (.ref p3), some (.ref D), some (.ref lp), v5, v6, v7, v8] ∧ H' D = some (.dT (kvT ((es.take (i + 1)).foldl tell []))) ∧ SameB D H3 H')
          (fun H' h1 h2 => ⟨_, _, _, _, rfl, by rw [et, te]; exact h1, h2⟩) kt2 hk2
        exact ⟨D, H7, rfl, w1, w2⟩
      | some x =>
        refine ⟨_, rfl, rfl, _, rfl, if_f (by simp) ?_⟩
        refine ⟨_, rfl, _, rfl, _, _, rfl, rfl, _, rfl, ?_⟩
        by_cases c : m < x.2.2
        · have te : tell acc (u, v, m) = putE acc (u, v, m) := by unfold tell; rw [hf]; exact if_pos c
          refine if_t (decide_eq_true c) ?_
          refine ⟨_, rfl, _, rfl, _, rfl, _, rfl, by show 2 ≤ sizeLine; decide, fun kt2 hk2 => ?_⟩
          obtain ⟨H7, w1, w2⟩ := puts (Q := fun H' => ∃ v5 v6 v7 v8 : Option V, [some (.ref p1), some (.ref p2), some (.ref p3), some (.ref D), some (.ref lp), some (.int u), some (.int v), some (.int m), some (V.int x.2.2)] = [some (.ref p1), some (.ref p2), some (.ref p3), some (.ref D), some (.ref lp), v5, v6, v7, v8] ∧ H' D = some (.dT (kvT ((es.take (i + 1)).foldl tell []))) ∧ SameB D H3 H')
            (fun H' h1 h2 => ⟨_, _, _, _, rfl, by rw [et, te]; exact h1, h2⟩) kt2 hk2
          exact ⟨D, H7, rfl, w1, w2⟩
        · have te : tell acc (u, v, m) = acc := by unfold tell; rw [hf]; exact if_neg c
          exact if_f (decide_eq_false c) ⟨_, _, _, _, rfl, by rw [et, te]; exact eD2, S2⟩
    · rintro σ' H4 ⟨v5, v6, v7, v8, rfl, eD, S⟩
      rw [List.length_map, t2, List.take_length] at eD
      refine ⟨_, rfl, k D H4 hD (fun c o e => S _ _ (ne_of_none e hD) (S3 _ _ e)) ?_⟩
      unfold toldOf
      rw [hes]
      exact eD
end
end Law

/-! The ring of a site: rounds of relaxing, where a shape is. -/
namespace Law
open PySem PySem.Spec PyProof.Rows L2 Sup
abbrev sFnd : Stmt := top 29
abbrev sRgb : Stmt := top 30
/-- the sums of the nodes -/
def SumsAt (H : Hp) (D : Addr) (n : Nat) (s : Int → Int) : Prop := ∃ kv : List (Key × V), H D = some (.dK kv) ∧ kv.length ≤ n + 1 ∧ ∀ v : Int, -1 ≤ v → v < n → valV kv (.inl v) = some (.int (s v))
theorem putLen {κ : Type} [DecidableEq κ] (c : List (κ × V)) (k : κ) (x : V) : (putK c k x).length ≤ c.length + 1 := by
  unfold putK
  split
  · rw [List.length_map]
    omega
  · rw [List.length_append]
    exact Nat.le_refl _
theorem SumsAt.get {H : Hp} {D : Addr} {n : Nat} {s : Int → Int} (h : SumsAt H D n s) {v : Int} (h1 : -1 ≤ v) (h2 : v < n) : DGet H D (.int v) (some (.int (s v))) := by
  obtain ⟨kv, e, _, k⟩ := h
  rw [← k v h1 h2]
  exact DGet.k (k := .inl v) e
theorem SumsAt.put {H : Hp} {D : Addr} {n : Nat} {s : Int → Int} (h : SumsAt H D n s) {v x : Int} (h1 : -1 ≤ v) (h2 : v < n) (hn : n ≤ 200) : ∃ H', DPut H D (.int v) (.int x) H' ∧ SumsAt H' D n (Relax.put s v x) ∧ ∀ b, b ≠ D → H' b = H b := by
  obtain ⟨kv, e, l, k⟩ := h
  refine ⟨_, DPut.k (k := .inl v) e (by rw [sizeLine_eq]; omega), ⟨_, upd_same, ?_, fun u u1 u2 => ?_⟩, fun b hb => upd_ne hb⟩
  · have := valV_any (.inl v) kv
    rw [k v h1 h2] at this
    unfold putK
    rw [if_pos (by rw [this]; rfl), List.length_map]
    exact l
  · rw [valV_put]
    unfold Relax.put
    by_cases z : u = v
    · subst z
      rw [if_pos rfl, if_pos rfl]
    · rw [if_neg z, if_neg (fun w => z (Sum.inl.inj w))]
      exact k u u1 u2
theorem SumsAt.of_eq {H H' : Hp} {D : Addr} {n : Nat} {s : Int → Int} (h : SumsAt H D n s) (e : H' D = H D) : SumsAt H' D n s := by
  obtain ⟨kv, a, b⟩ := h
  exact ⟨kv, e.trans a, b⟩
theorem relax_no {s : Int → Int} {e : Edge} (h : s e.2.1 ≤ s e.1 + e.2.2) : Relax.relax s e = s := by
  unfold Relax.relax
  rw [if_neg (by omega)]
structure FiTxt (mg : Str → Option Value) (fRb : Addr) : Prop where
  ground : ∃ t, mg "GROUND" = some (.int (-1) t)
  range : mg "range" = none
  rgb : mg "_ring_behind" = some (.ref fRb)
def spNo : Sp := fun _ _ _ _ => False
def inNodes (n : Nat) (es : List Edge) : Prop := ∀ e ∈ es, (-1 ≤ e.1 ∧ e.1 < n) ∧ -1 ≤ e.2.1 ∧ e.2.1 < n
def spFnd : Sp := fun vs H Q _ => ∃ (n : Nat) (t : Addr) (es : List Edge) (pi : Int → Int), vs = [.int n, .ref t] ∧ H t = some (.dT (kvT es)) ∧ n ≤ 200 ∧ es.length ≤ 900 ∧ inNodes n es ∧ (∀ e ∈ es, pi e.2.1 - pi e.1 ≤ e.2.2) ∧
  ∀ (q : Addr) (H' : Hp), H q = none → Same H H' → H' q = some (.lst []) → Q (.ref q) H'
section
variable {P : Program} {w : World} {K : PySem.W.Frag} {mg : Str → Option Value} {base : Heap}
theorem scFnd : FnScope ["size", "told", "sums", "node", "before", "changed", "_", "first", "second", "most"] ["size", "told"] (defScope sFnd) := ⟨rfl, rfl, rfl, by decide +kernel, rfl, by decide +kernel, by decide +kernel⟩
set_option maxHeartbeats 0 in
theorem ok_fnd {f fRb : Addr} {fd fdRb : FuncData} (F : Fun K "_find_ring" "_find_ring" sFnd f fd) (T : FiTxt mg fRb) (GRb : FnOk P w K mg base CX0 1 fRb fdRb ["node", "before"] spNo) (FRb : Fun K "_ring_behind" "_ring_behind" sRgb fRb fdRb) (bRb : Binds K fdRb ["node", "before"] []) : FnOk P w K mg base CX0 2 f fd ["size", "told"] spFnd := by
  obtain ⟨tk, hgr⟩ := T.ground
  refine F.ok scFnd (fun vs H Q E h => ?_) (fun cdv A outer s H vs Q E hr h => ?_)
  · obtain ⟨n, t, es, pi, rfl, _⟩ := h
    rfl
  · obtain ⟨n, t, es, pi, rfl, ht, ln, le, hin, hpi, k⟩ := h
    have hr1 : Room 1 _ := hr.mono (by decide)
    refine ⟨_, (pss_cons (DcX.ps_setDc (i := 2) (own := [("node", 3)]) (g := gName 3) (tt := tYes) rfl scFnd.nd rfl rfl (DcX.swd_true rfl rfl rfl (by decide +kernel)) (pi_range2 (by rfl) T.range (pa_cons (pe_glob (v := .int (-1)) rfl hgr ⟨_, rfl⟩) (pa_cons (pv 0) pa_nil)))
        (blkOk_by (own := [("node", 3)]) (N := ["size", "told", "sums", "node", "before", "changed", "_", "first", "second", "most"]) (sc := defScope sFnd) (by decide +kernel)) (fun _ _ _ _ _ => pg_name (i := 3) scFnd.nd rfl (Or.inl rfl)) (fun _ _ _ _ _ => pts_nil) (fun _ _ _ _ _ => pv 3) (fun _ _ _ _ _ => pe_int))
      (pss_cons (ps_set (i := 4) scFnd.nd rfl (Or.inl rfl) pe_dnewK)
      (pss_cons (ps_set (i := 5) scFnd.nd rfl (Or.inl rfl) (pe_lst pa_nil))
      (pss_cons (ps_for PassesOwn.never rfl (pi_range2 (by rfl) T.range (pa_cons (pe_glob (v := .int (-1)) rfl hgr ⟨_, rfl⟩) (pa_cons (pv 0) pa_nil))) (pg_name (i := 6) scFnd.nd rfl (Or.inl rfl)) (pss_cons (ps_set (i := 5) scFnd.nd rfl (Or.inl rfl) (pe_lst pa_nil))
      (pss_one (ps_lock (ps_for PassesOwn.never rfl (DTX.pi_itemsT (pv 1)) (pg_tup (by rfl) (pgs_cons (pg_tup (by rfl) (pgs_cons (pg_name (i := 7) scFnd.nd rfl (Or.inl rfl)) (pgs_cons (pg_name (i := 8) scFnd.nd rfl (Or.inl rfl)) pgs_nil))) (pgs_cons (pg_name (i := 9) scFnd.nd rfl (Or.inl rfl)) pgs_nil))) (pss_one (ps_if (pt_cmpR op_lt (pe_op op_add (pe_dget (hu_of hr) (pv 2) (pv 7) (fun _ _ => rfl)) (pv 9)) (pe_dget (hu_of hr) (pv 2) (pv 8) (fun _ _ => rfl)) (nomark _)) (pss_cons (ps_dput (hu_of hr) (pv 2) (pv 8) (pe_op op_add (pe_dget (hu_of hr) (pv 2) (pv 7) (fun _ _ => rfl)) (pv 9)) rfl)
      (pss_cons (ps_dput (hu_of hr) (pv 4) (pv 8) (pv 7) rfl)
      (pss_one (ps_expr (pe_bm PySem.F.plainAttrs_list PySem.F.slot_list_append PySem.F.type_list_append mt_append (pv 5) (pa_cons (pv 8) pa_nil)))))) pss_nil)))))))
      (pss_cons (ps_if (pt_not (pt_truth (pv 5) (by intro _; rfl))) (pss_one (ps_ret (pe_lst pa_nil))) pss_nil)
      (pss_one (ps_ret (pe_call GRb hr1 rfl T.rgb FRb.kp bRb .nil pass0 (pa_cons (pe_ix ix_list (pv 5) (pe_un un_neg pe_int) (fun _ _ => rfl)) (pa_cons (pv 4) pa_nil)))))))))), ?_⟩
    have en : ((n : Int) - -1).toNat = n + 1 := by omega
    refine ⟨_, rfl, _, _, rfl, ⟨by omega, by omega, by omega, by omega⟩, fun D hD => ?_⟩
    rw [en]
    refine DcX.dc_it (walk_range (lo := -1) (n := n + 1)) (fun i H' => (∃ kv : List (Key × V), H' D = some (.dK kv) ∧ kv.length ≤ i ∧ ∀ v : Int, -1 ≤ v → v < -1 + (i : Int) → valV kv (.inl v) = some (.int 0)) ∧ Same H H') ⟨⟨[], upd_same, Nat.le_refl _, fun v h1 h2 => absurd h2 (by omega)⟩, same_new hD⟩ (fun _ _ _ _ => trivial) ?_ ?_
    · rintro i x H1 H2 hi ⟨⟨kv, a1, a2, a3⟩, S1⟩ ⟨rfl, rfl⟩
      refine ⟨rfl, _, rfl, _, .inl (-1 + (i : Int)), rfl, a1, small1000 (by omega), ⟨_, upd_same, Nat.le_trans (putLen _ _ _) (by omega), fun v h1 h2 => ?_⟩, fun b o e => ?_⟩
      · rw [valV_put]
        by_cases z : v = -1 + (i : Int)
        · subst z
          rw [if_pos rfl]
        · rw [if_neg fun w => z (Sum.inl.inj w)]
          exact a3 v h1 (by omega)
      · rw [upd_ne (ne_of_none e hD)]
        exact S1 _ _ e
    rintro H1 ⟨⟨kv, a1, a2, a3⟩, S1⟩
    have SA : SumsAt H1 D n (Relax.rounds es 0) := ⟨kv, a1, a2, fun v h1 h2 => a3 v h1 (by omega)⟩
    refine fun B hB => ?_
    have nDB : D ≠ B := ne_of_none a1 hB
    have s2 := same_new (o := .dK []) hB
    have S2 := same_tr S1 s2
    have SA := SA.of_eq (H' := upd H1 B (.dK [])) (upd_ne nDB)
    have eB : upd H1 B (.dK []) B = some (.dK []) := upd_same
    have hB0 : H B = none := none_back S1 hB
    generalize upd H1 B (.dK []) = H2 at SA S2 eB
    refine ⟨by show 0 ≤ sizeLine; decide, fun C0 hC0 => ?_⟩
    have s3 := same_new (o := .lst []) hC0
    have hC00 := none_back S2 hC0
    have S3 := same_tr S2 s3
    have SA := SA.of_eq (H' := upd H2 C0 (.lst [])) (upd_ne (ne_of_none (show H2 D = some (.dK (Classical.choose SA)) from (Classical.choose_spec SA).1) hC0))
    have eB := s3 _ _ eB
    have eC : upd H2 C0 (.lst []) C0 = some (.lst []) := upd_same
    generalize upd H2 C0 (.lst []) = H3 at SA S3 eB eC
    have nDt : D ≠ t := fun z => by rw [z, ht] at hD; cases hD
    have nBt : B ≠ t := fun z => by rw [z, ht] at hB0; cases hB0
    refine ⟨_, rfl, _, _, rfl, ⟨by omega, by omega, by omega, by omega⟩, ?_⟩
    rw [en]
    refine for_it (walk_range (lo := -1) (n := n + 1)) (fun i σ' H' => ∃ (C : Addr) (v3 v6 v7 v8 v9 : Option V) (cl : List V) (kb : List (Key × V)), σ' = [some (.int n), some (.ref t), some (.ref D), v3, some (.ref B), some (.ref C), v6, v7, v8, v9] ∧
      SumsAt H' D n (Relax.rounds es i) ∧ (H' B = some (.dK kb) ∧ kb.length ≤ i * es.length) ∧ H' C = some (.lst cl) ∧ H C = none ∧ (i = n + 1 → cl = []) ∧ Same H H')
      ⟨C0, _, _, _, _, _, [], [], rfl, SA, ⟨eB, by simp⟩, eC, hC00, fun _ => rfl, S3⟩ (fun _ _ _ _ _ => trivial) ?_ ?_
    · rintro i x σ' H4 H5 hi ⟨C1, v3, v6, v7, v8, v9, cl1, kb0, rfl, SA4, ⟨b1, b2⟩, c1, c2, c3, S4⟩ ⟨rfl, rfl⟩
      refine ⟨by show 0 ≤ sizeLine; decide, fun C hC => ?_⟩
      have s5 := same_new (o := .lst []) hC
      have hC0 := none_back S4 hC
      have S5 := same_tr S4 s5
      have nDC : D ≠ C := ne_of_none (Classical.choose_spec SA4).1 hC
      have nBC : B ≠ C := ne_of_none b1 hC
      have SA5 := SA4.of_eq (H' := upd H5 C (.lst [])) (upd_ne nDC)
      have b1 := s5 _ _ b1
      have eC : upd H5 C (.lst []) C = some (.lst []) := upd_same
      generalize upd H5 C (.lst []) = H6 at SA5 S5 b1 eC
      have nCt : C ≠ t := fun z => by rw [z, ht] at hC0; cases hC0
      refine ⟨t, .dT (kvT es), S5 _ _ ht, trivial, fun od => ?_⟩
      refine ⟨_, rfl, t, od, kvT es, rfl, upd_same, ?_⟩
      have kl : (kvT es).length = es.length := by unfold kvT; rw [List.length_map]
      refine for_it DTX.walk_itemsT (fun j σ' H' => ∃ (v7 v8 v9 : Option V) (cl : List V) (kb : List (Key × V)), σ' = [some (.int n), some (.ref t), some (.ref D), v3, some (.ref B), some (.ref C), some (.int (-1 + (i : Int))), v7, v8, v9] ∧
        H' t = some (.frz od (.dT (kvT es))) ∧ SumsAt H' D n ((es.take j).foldl Relax.relax (Relax.rounds es i)) ∧ (H' B = some (.dK kb) ∧ kb.length ≤ i * es.length + j) ∧ (H' C = some (.lst cl) ∧ cl.length ≤ j ∧ (i = n → cl = [] ∧ (es.take j).foldl Relax.relax (Relax.rounds es i) = Relax.rounds es i)) ∧ SameB t H H')
        ⟨_, _, _, [], kb0, rfl, upd_same, SA5.of_eq (upd_ne nDt), ⟨(upd_ne nBt).trans b1, b2⟩, ⟨(upd_ne nCt).trans eC, Nat.le_refl _, fun _ => ⟨rfl, rfl⟩⟩, fun b o nb e => (upd_ne nb).trans (S5 _ _ e)⟩ (fun _ _ _ _ h => by obtain ⟨_, _, _, _, _, _, z, _⟩ := h; exact z) ?_ ?_
      · rintro j x σ' H7 H8 hj ⟨v7, v8, v9, cl, kb, rfl, ft, SJ, ⟨k1, k2⟩, ⟨l1, l2, l3⟩, SB⟩ ⟨T0, q0, kk, vv, e1, rfl, e2, hT, rfl⟩
        rw [kl] at hj
        obtain ⟨⟨u, v, m⟩, he⟩ : ∃ e, es[j]? = some e := ⟨_, List.getElem?_eq_getElem hj⟩
        unfold kvT at e1
        rw [List.getElem?_map, he] at e1
        cases e1
        have sT := same_new (o := .tup [V.ref q0, V.int m]) hT
        have em := List.mem_of_getElem? he
        obtain ⟨⟨u1, u2⟩, w1, w2⟩ := hin _ em
        have et : (es.take (j + 1)).foldl Relax.relax (Relax.rounds es i) = Relax.relax ((es.take j).foldl Relax.relax (Relax.rounds es i)) (u, v, m) := by
          rw [List.take_succ, he, Option.toList_some, List.foldl_append]
          rfl
        refine ⟨T0, _, rfl, SqT.of upd_same, rfl, _, _, rfl, q0, _, rfl, SqT.of (sT _ _ e2), rfl, _, _, rfl, _, _, rfl, rfl, _, _, rfl, rfl, ?_⟩
        have nD0 : D ≠ T0 := ne_of_none (Classical.choose_spec SJ).1 hT
        have SK := SJ.of_eq (H' := upd H7 T0 (.tup [V.ref q0, V.int m])) (upd_ne nD0)
        have k1 := sT _ _ k1
        have l1 := sT _ _ l1
        have ft := sT _ _ ft
        have SB2 : SameB t H (upd H7 T0 (.tup [V.ref q0, V.int m])) := fun b o nb e => sT _ _ (SB b o nb e)
        generalize upd H7 T0 (.tup [V.ref q0, V.int m]) = H8 at SK k1 l1 ft SB2
        generalize hS : (es.take j).foldl Relax.relax (Relax.rounds es i) = S at SK et l3
        have G1 := SK.get u1 u2
        have G2 := SK.get w1 w2
        refine ⟨_, rfl, _, rfl, D, _, rfl, G1, _, rfl, _, _, rfl, rfl, _, rfl, _, rfl, D, _, rfl, G2, _, _, rfl, rfl, _, rfl, ?_⟩
        by_cases c : S u + m < S v
        · refine if_t (decide_eq_true c) ?_
          have er : Relax.relax S (u, v, m) = Relax.put S v (S u + m) := if_pos c
          obtain ⟨H9, p1, p2, p3⟩ := SK.put (x := S u + m) w1 w2 ln
          refine ⟨_, rfl, _, rfl, D, _, rfl, G1, _, rfl, _, _, rfl, rfl, _, rfl, _, rfl, D, H9, rfl, p1, ?_⟩
          have k9 := (p3 B (Ne.symm nDB)).trans k1
          have l9 := (p3 C (Ne.symm nDC)).trans l1
          have f9 := (p3 t (Ne.symm nDt)).trans ft
          have hij : i * es.length + j ≤ 200000 := by
            have a : i * es.length ≤ 201 * 900 := Nat.mul_le_mul (by omega) le
            omega
          refine ⟨_, rfl, _, rfl, _, rfl, B, _, rfl, DPut.k (k := .inl v) k9 (by rw [sizeLine_eq]; omega), ?_⟩
          have l10 : upd H9 B (.dK (putK kb (.inl v) (.int u))) C = some (.lst cl) := (upd_ne (Ne.symm nBC)).trans l9
          refine ⟨_, rfl, .inl ⟨rfl, _, SqL.of l10⟩, _, rfl, C, cl, _, rfl, rfl, l10, small1000 (by omega), ?_⟩
          refine ⟨_, _, _, cl ++ [.int v], putK kb (.inl v) (.int u), rfl, ?_, ?_, ⟨?_, ?_⟩, ⟨upd_same, ?_, fun z => ?_⟩, fun b o nb e => ?_⟩
          · rw [upd_ne (Ne.symm nCt), upd_ne (Ne.symm nBt)]
            exact f9
          · rw [et, er]
            exact p2.of_eq (by rw [upd_ne nDC, upd_ne nDB])
          · rw [upd_ne nBC, upd_same]
            rfl
          · have := putLen kb (.inl v) (.int u)
            omega
          · rw [List.length_append]
            show cl.length + 1 ≤ j + 1
            omega
          · have st := Relax.settled (n := n + 1) (lo := -1) (k := n) hpi (fun e he => by have := hin e he; omega) (Nat.le_refl _) _ em
            have e3 := (l3 z).2
            subst z
            rw [e3] at c
            have st : Relax.rounds es i v ≤ Relax.rounds es i u + m := st
            omega
          · have nbD : b ≠ D := ne_of_none e hD
            have nbB : b ≠ B := ne_of_none e hB0
            have nbC : b ≠ C := ne_of_none e hC0
            rw [upd_ne nbC, upd_ne nbB, p3 b nbD]
            exact SB2 b o nb e
        · refine if_f (decide_eq_false c) ?_
          have er : Relax.relax S (u, v, m) = S := if_neg c
          refine ⟨_, _, _, cl, kb, rfl, ft, by rw [et, er]; exact SK, ⟨k1, by omega⟩, ⟨l1, by omega, fun z => ⟨(l3 z).1, by rw [et, er]; exact (l3 z).2⟩⟩, SB2⟩
      · rintro σ' H7 ⟨v7, v8, v9, cl, kb, rfl, ft, SJ, ⟨k1, k2⟩, ⟨l1, l2, l3⟩, SB⟩
        rw [kl] at SJ k2 l2 l3
        rw [List.take_length] at SJ l3
        refine ⟨ft, C, v3, _, v7, v8, v9, cl, kb, rfl, SJ.of_eq (upd_ne nDt), ⟨(upd_ne nBt).trans k1, by rw [Nat.add_mul, Nat.one_mul]; exact k2⟩, (upd_ne nCt).trans l1, hC0, fun z => (l3 (by omega)).1, fun b o e => ?_⟩
        by_cases z : b = t
        · subst z
          rw [ht] at e
          cases e
          exact upd_same
        · rw [upd_ne z]
          exact SB _ _ z e
    · rintro σ' H4 ⟨C1, v3, v6, v7, v8, v9, cl1, kb0, rfl, SA4, ⟨b1, b2⟩, c1, c2, c3, S4⟩
      obtain rfl := c3 rfl
      refine ⟨_, rfl, false, .inl ⟨[], SqL.of c1, rfl⟩, if_t rfl ?_⟩
      exact ⟨by show 0 ≤ sizeLine; decide, fun q hq => k q _ (none_back S4 hq) (same_tr S4 (same_new hq)) upd_same⟩
end
end Law


/-! Rings: behind a change in the last round the steps back lead into a ring. -/
namespace Relax
structure RInv (es : List Edge) (n : Nat) (k : Nat) (done : List Edge) (S : Int → Int) (bf : Int → Option Int) (t : Int → Nat) : Prop where
  i1 : ∀ e ∈ es, S e.2.1 ≤ S e.1 + e.2.2 ∨ (if e ∈ done then k else k - 1) ≤ t e.1
  i2 : ∀ v, 1 ≤ t v → ∃ u, bf v = some u ∧ t v ≤ t u + 1 ∧ -1 ≤ u ∧ u < n
  i3 : ∀ v, t v ≤ k
theorem RInv.start (es : List Edge) (n : Nat) (S : Int → Int) : RInv es n 1 [] S (fun _ => none) (fun _ => 0) :=
  ⟨fun e he => .inr (by rw [if_neg (by simp)]; exact Nat.zero_le _), fun v h => absurd h (by decide), fun v => Nat.zero_le _⟩
theorem RInv.next {es : List Edge} {n k : Nat} {S : Int → Int} {bf : Int → Option Int} {t : Int → Nat} (h : RInv es n k es S bf t) : RInv es n (k + 1) [] S bf t := by
  refine ⟨fun e he => ?_, h.i2, fun v => Nat.le_succ_of_le (h.i3 v)⟩
  rcases h.i1 e he with q | q
  · exact .inl q
  · rw [if_pos he] at q
    exact .inr (by rw [if_neg (by simp)]; exact q)
/-- an edge that relaxes -/
theorem RInv.relax {es done : List Edge} {n k : Nat} {S : Int → Int} {bf : Int → Option Int} {t : Int → Nat} {u v w : Int} (h : RInv es n k done S bf t) (he : (u, v, w) ∈ es) (hk : 1 ≤ k) (hu : -1 ≤ u ∧ u < n) (c : S u + w < S v) :
    RInv es n k (done ++ [(u, v, w)]) (put S v (S u + w)) (fun a => if a = v then some u else bf a) (fun a => if a = v then k else t a) := by
  have tu : k ≤ t u + 1 := by
    rcases h.i1 _ he with q | q
    · have q : S v ≤ S u + w := q
      omega
    · have q : (if (u, v, w) ∈ done then k else k - 1) ≤ t u := q
      split at q <;> omega
  have tm : ∀ a, t a ≤ (if a = v then k else t a) := fun a => by
    split
    · exact h.i3 a
    · exact Nat.le_refl _
  refine ⟨fun e he' => ?_, fun a ha => ?_, fun a => ?_⟩
  · by_cases ca : e.1 = v
    · refine .inr ?_
      show _ ≤ (if e.1 = v then k else t e.1)
      rw [if_pos ca]
      split <;> omega
    · have hp : put S v (S u + w) e.1 = S e.1 := if_neg ca
      have hle : put S v (S u + w) e.2.1 ≤ S e.2.1 := by
        unfold put
        split
        · rename_i z
          rw [z]
          omega
        · exact Int.le_refl _
      rw [hp]
      by_cases ee : e = (u, v, w)
      · refine .inl ?_
        rw [ee]
        show put S v (S u + w) v ≤ S u + w
        unfold put
        rw [if_pos rfl]
        exact Int.le_refl _
      · rcases h.i1 e he' with q | q
        · exact .inl (Int.le_trans hle q)
        · refine .inr ?_
          show _ ≤ (if e.1 = v then k else t e.1)
          rw [if_neg ca]
          have : (e ∈ done ++ [(u, v, w)]) ↔ e ∈ done := by simp [ee]
          simp only [this]
          exact q
  · show ∃ x, (if a = v then some u else bf a) = some x ∧ (if a = v then k else t a) ≤ (if x = v then k else t x) + 1 ∧ _
    have ha : 1 ≤ (if a = v then k else t a) := ha
    by_cases ca : a = v
    · rw [if_pos ca, if_pos ca]
      exact ⟨u, rfl, Nat.le_trans tu (Nat.succ_le_succ (tm u)), hu⟩
    · rw [if_neg ca] at ha
      rw [if_neg ca, if_neg ca]
      obtain ⟨x, h1, h2, h3⟩ := h.i2 a ha
      exact ⟨x, h1, Nat.le_trans h2 (Nat.succ_le_succ (tm x)), h3⟩
  · show (if a = v then k else t a) ≤ k
    split
    · exact Nat.le_refl _
    · exact h.i3 a
theorem RInv.keep {es done : List Edge} {n k : Nat} {S : Int → Int} {bf : Int → Option Int} {t : Int → Nat} {e : Edge} (h : RInv es n k done S bf t) (c : S e.2.1 ≤ S e.1 + e.2.2) : RInv es n k (done ++ [e]) S bf t := by
  refine ⟨fun e' he' => ?_, h.i2, h.i3⟩
  by_cases ee : e' = e
  · subst ee
    exact .inl c
  · rcases h.i1 e' he' with q | q
    · exact .inl q
    · have : (e' ∈ done ++ [e]) ↔ e' ∈ done := by simp [ee]
      simp only [this]
      exact .inr q
/-! going back -/
def back (bf : Int → Option Int) (v : Int) : Nat → Int
  | 0 => v
  | j + 1 => (bf (back bf v j)).getD 0
theorem rep (it : Nat → Int) : ∀ m : Nat, ((List.range (m + 1)).map it).Nodup ∨ ∃ i j, i < j ∧ j ≤ m ∧ it i = it j ∧ ((List.range j).map it).Nodup
  | 0 => .inl (by simp)
  | m + 1 => by
    rcases rep it m with h | ⟨i, j, h1, h2, h3⟩
    · by_cases c : it (m + 1) ∈ (List.range (m + 1)).map it
      · obtain ⟨i, hi, e⟩ := List.mem_map.mp c
        exact .inr ⟨i, m + 1, List.mem_range.mp hi, Nat.le_refl _, e, h⟩
      · refine .inl ?_
        rw [List.range_succ, List.map_append]
        refine List.nodup_append.mpr ⟨h, by simp, fun a ha b hb e => ?_⟩
        rw [List.map_cons, List.map_nil, List.mem_singleton] at hb
        exact c (hb ▸ e ▸ ha)
    · exact .inr ⟨i, j, h1, by omega, h3⟩
/-- from a node changed in the last round: all steps back are told, and they come to a ring -/
theorem ring_of {es : List Edge} {n : Nat} {S : Int → Int} {bf : Int → Option Int} {t : Int → Nat} {v : Int} (h : RInv es n (n + 1) es S bf t) (hv : t v = n + 1) (hr : -1 ≤ v ∧ v < n) :
    ∃ i j, i < j ∧ j ≤ n + 1 ∧ back bf v i = back bf v j ∧ ((List.range j).map (back bf v)).Nodup ∧ (∀ m, bf (back bf v m) = some (back bf v (m + 1))) ∧ ∀ m, -1 ≤ back bf v m ∧ back bf v m < n := by
  have st : ∀ m, m ≤ n + 1 → n + 1 ≤ t (back bf v m) + m ∧ -1 ≤ back bf v m ∧ back bf v m < n := fun m => by
    induction m with
    | zero => exact fun _ => ⟨by show n + 1 ≤ t v + 0; omega, hr⟩
    | succ m ih =>
      intro hm
      obtain ⟨a, b⟩ := ih (by omega)
      obtain ⟨u, h1, h2, h3⟩ := h.i2 (back bf v m) (by omega)
      have e : back bf v (m + 1) = u := by show (bf (back bf v m)).getD 0 = u; rw [h1]; rfl
      rw [e]
      exact ⟨by omega, h3⟩
  have df : ∀ m, m ≤ n → bf (back bf v m) = some (back bf v (m + 1)) := fun m hm => by
    obtain ⟨a, _⟩ := st m (by omega)
    obtain ⟨u, h1, _⟩ := h.i2 (back bf v m) (by omega)
    show _ = some ((bf (back bf v m)).getD 0)
    rw [h1]
    rfl
  rcases rep (back bf v) (n + 1) with nd | ⟨i, j, h1, h2, h3, h4⟩
  · have := few (n + 1) (-1) ((List.range (n + 1 + 1)).map (back bf v)) nd fun x hx => by
      obtain ⟨m, hm, rfl⟩ := List.mem_map.mp hx
      obtain ⟨_, q⟩ := st m (by have := List.mem_range.mp hm; omega)
      omega
    rw [List.length_map, List.length_range] at this
    omega
  · refine ⟨i, j, h1, h2, h3, h4, ?_⟩
    have per : ∀ m, ∃ m', m' < j ∧ back bf v m = back bf v m' := fun m => by
      induction m with
      | zero => exact ⟨0, by omega, rfl⟩
      | succ m ih =>
        obtain ⟨m', q1, q2⟩ := ih
        have e : back bf v (m + 1) = back bf v (m' + 1) := by show (bf _).getD 0 = (bf _).getD 0; rw [q2]
        by_cases c : m' + 1 < j
        · exact ⟨m' + 1, c, e⟩
        · have : m' + 1 = j := by omega
          rw [this, ← h3] at e
          exact ⟨i, h1, e⟩
    refine ⟨fun m => ?_, fun m => ?_⟩
    · obtain ⟨m', q1, q2⟩ := per m
      rw [q2, df m' (by omega)]
      show some ((bf (back bf v m')).getD 0) = some ((bf (back bf v m)).getD 0)
      rw [q2]
    · obtain ⟨m', q1, q2⟩ := per m
      rw [q2]
      exact (st m' (by omega)).2
theorem back_per {bf : Int → Option Int} {v : Int} {i j : Nat} (h : i < j) (e : back bf v i = back bf v j) : ∀ m, i ≤ m → back bf v (m + (j - i)) = back bf v m := fun m => by
  induction m with
  | zero =>
    intro hm
    obtain rfl : i = 0 := by omega
    rw [Nat.zero_add, Nat.sub_zero]
    exact e.symm
  | succ m ih =>
    intro hm
    by_cases c : i ≤ m
    · have q := ih c
      rw [show m + 1 + (j - i) = (m + (j - i)) + 1 by omega]
      show (bf _).getD 0 = (bf _).getD 0
      rw [q]
    · have : i = m + 1 := by omega
      subst this
      rw [show m + 1 + (j - (m + 1)) = j by omega]
      exact e.symm
theorem back_add (bf : Int → Option Int) (v : Int) (a : Nat) : ∀ b, back bf (back bf v a) b = back bf v (a + b)
  | 0 => rfl
  | b + 1 => by
    show (bf (back bf (back bf v a) b)).getD 0 = (bf (back bf v (a + b))).getD 0
    rw [back_add bf v a b]
end Relax

/-! The ring of a site, whether a shape is or not. -/
namespace Law
open PySem PySem.Spec PyProof.Rows L2 Sup
theorem keys_len : ∀ (kv : List (Key × V)) (l : List Int), (∀ a ∈ l, (valV kv (.inl a)).isSome = true) → l.Nodup → l.length ≤ kv.length
  | [], [], _, _ => Nat.le_refl _
  | [], a :: l, h, _ => by
    have := h a List.mem_cons_self
    cases this
  | (k, v) :: kv, l, h, hn => by
    have e := keys_len kv (l.filter fun a => decide (k ≠ .inl a)) (fun a ha => by
      obtain ⟨h1, h2⟩ := List.mem_filter.mp ha
      have z := h a h1
      rw [valV_neg (of_decide_eq_true h2)] at z
      exact z) (hn.filter _)
    have z : l.length ≤ (l.filter fun a => decide (k ≠ .inl a)).length + 1 := by
      clear e h
      induction l with
      | nil => exact Nat.zero_le _
      | cons a l ih =>
        obtain ⟨n1, n2⟩ := List.nodup_cons.mp hn
        by_cases c : k = .inl a
        · have all : l.filter (fun a => decide (k ≠ .inl a)) = l := List.filter_eq_self.mpr fun b hb => decide_eq_true fun z => n1 (by rw [c] at z; rw [Sum.inl.inj z]; exact hb)
          rw [List.filter_cons, if_neg (by simp [c]), all, List.length_cons]
          exact Nat.le_refl _
        · have := ih n2
          rw [List.filter_cons, if_pos (by simp [c]), List.length_cons, List.length_cons]
          omega
    rw [List.length_cons]
    omega
/-- the steps back, in a dict -/
def BefAt (H : Hp) (B : Addr) (n : Nat) (bf : Int → Option Int) : Prop := ∃ kv : List (Key × V), H B = some (.dK kv) ∧ kv.length ≤ 200000 ∧ ∀ v : Int, -1 ≤ v → v < n → valV kv (.inl v) = (bf v).map V.int
structure RbTxt (mg : Str → Option Value) : Prop where
  b_len : mg "len" = none
  b_range : mg "range" = none
/-- a ring is told -/
def RingAt (H : Hp) (q : Addr) (n : Nat) : Prop := ∃ ring : List Int, H q = some (.lst (ring.map V.int)) ∧ ring ≠ [] ∧ ring.length ≤ n + 1 ∧ ∀ x ∈ ring, -1 ≤ x ∧ x < n
def spRgb : Sp := fun vs H Q _ => ∃ (v : Int) (B : Addr) (n i j : Nat) (bf : Int → Option Int), vs = [.int v, .ref B] ∧ BefAt H B n bf ∧ i < j ∧ j ≤ n + 1 ∧ n ≤ 200 ∧ Relax.back bf v i = Relax.back bf v j ∧ ((List.range j).map (Relax.back bf v)).Nodup ∧
  (∀ m, bf (Relax.back bf v m) = some (Relax.back bf v (m + 1))) ∧ (∀ m, -1 ≤ Relax.back bf v m ∧ Relax.back bf v m < n) ∧ ∀ (q : Addr) (H' : Hp), H q = none → Same H H' → RingAt H' q n → Q (.ref q) H'
def spFnd2 : Sp := fun vs H Q _ => ∃ (n : Nat) (t : Addr) (es : List Edge), vs = [.int n, .ref t] ∧ H t = some (.dT (kvT es)) ∧ n ≤ 200 ∧ es.length ≤ 900 ∧ inNodes n es ∧
  ((∃ pi : Int → Int, ∀ e ∈ es, pi e.2.1 - pi e.1 ≤ e.2.2) → ∀ (q : Addr) (H' : Hp), H q = none → Same H H' → H' q = some (.lst []) → Q (.ref q) H') ∧
  ((¬ ∃ pi : Int → Int, ∀ e ∈ es, pi e.2.1 - pi e.1 ≤ e.2.2) → ∀ (q : Addr) (H' : Hp), H q = none → Same H H' → RingAt H' q n → Q (.ref q) H')
section
variable {P : Program} {w : World} {K : PySem.W.Frag} {mg : Str → Option Value} {base : Heap}
theorem scRgb : FnScope ["node", "before", "_", "ring", "other"] ["node", "before"] (defScope sRgb) := ⟨rfl, rfl, rfl, by decide +kernel, rfl, by decide +kernel, by decide +kernel⟩
set_option maxHeartbeats 0 in
theorem ok_rgb2 {f : Addr} {fd : FuncData} (F : Fun K "_ring_behind" "_ring_behind" sRgb f fd) (T : RbTxt mg) : FnOk P w K mg base CX0 1 f fd ["node", "before"] spRgb := by
  refine F.ok scRgb (fun vs H Q E h => ?_) (fun cdv A outer s H vs Q E hr h => ?_)
  · obtain ⟨v, B, n, i, j, bf, rfl, _⟩ := h
    rfl
  · obtain ⟨v, B, n, i, j, bf, rfl, ⟨kv, b1, b2, b3⟩, hij, hj, hn, he, hnd, hdf, hin, k⟩ := h
    refine ⟨_, (pss_cons (ps_for PassesOwn.never rfl (pi_range1 (by rfl) T.b_range (pa_cons (pe_callB call_lenD (by rfl) T.b_len PySem.boot_len (pa_cons (pv 1) pa_nil)) pa_nil)) (pg_name (i := 2) scRgb.nd rfl (Or.inl rfl)) (pss_one (ps_set (i := 0) scRgb.nd rfl (Or.inl rfl) (pe_dget (hu_of hr) (pv 1) (pv 0) (fun _ _ => rfl)))))
      (pss_cons (ps_set (i := 3) scRgb.nd rfl (Or.inl rfl) (pe_lst (pa_cons (pv 0) pa_nil)))
      (pss_cons (ps_set (i := 4) scRgb.nd rfl (Or.inl rfl) (pe_dget (hu_of hr) (pv 1) (pv 0) (fun _ _ => rfl)))
      (pss_cons (ps_while PassesOwn.never (pt_cmpR op_ne (pv 4) (pv 0) (nomark _)) (pss_cons (ps_expr (pe_bm PySem.F.plainAttrs_list PySem.F.slot_list_append PySem.F.type_list_append mt_append (pv 3) (pa_cons (pv 4) pa_nil)))
      (pss_one (ps_set (i := 4) scRgb.nd rfl (Or.inl rfl) (pe_dget (hu_of hr) (pv 1) (pv 4) (fun _ _ => rfl))))))
      (pss_cons (ps_expr (pe_bm0 PySem.F.plainAttrs_list PySem.F.slot_list_reverse PySem.F.type_list_reverse mt_reverse (pv 3)))
      (pss_one (ps_ret (pv 3)))))))), ?_⟩
    have get : ∀ m, ∀ {H' : Hp}, H' B = some (.dK kv) → DGet H' B (.int (Relax.back bf v m)) (some (.int (Relax.back bf v (m + 1)))) := fun m {H'} e => by
      have z := DGet.k (k := .inl (Relax.back bf v m)) e
      rw [b3 _ (hin m).1 (hin m).2, hdf m] at z
      exact z
    have hL : j ≤ kv.length := by
      have z := keys_len kv ((List.range j).map (Relax.back bf v)) (fun a ha => by
        obtain ⟨m, _, rfl⟩ := List.mem_map.mp ha
        rw [b3 _ (hin m).1 (hin m).2, hdf m]
        rfl) hnd
      rw [List.length_map, List.length_range] at z
      exact z
    have per := Relax.back_per hij he
    refine ⟨_, rfl, B, kv, rfl, b1, _, rfl, by omega, by omega, ?_⟩
    rw [Int.toNat_natCast]
    refine for_it (walk_range (lo := 0) (n := kv.length)) (fun m σ' H' => (∃ v2 : Option V, σ' = [some (.int (Relax.back bf v m)), some (.ref B), v2, none, none]) ∧ H' = H) ⟨⟨_, rfl⟩, rfl⟩ (fun _ _ _ _ _ => trivial) ?_ ?_
    · rintro m x σ' H1 H2 hm ⟨⟨v2, rfl⟩, rfl⟩ ⟨rfl, rfl⟩
      exact ⟨_, rfl, _, rfl, B, _, rfl, get m b1, ⟨_, rfl⟩, rfl⟩
    rintro σ' H1 ⟨⟨v2, rfl⟩, rfl⟩
    generalize hx : Relax.back bf v kv.length = x
    have bx : ∀ m, Relax.back bf x m = Relax.back bf v (kv.length + m) := fun m => by rw [← hx]; exact Relax.back_add bf v kv.length m
    have getx : ∀ m, ∀ {H' : Hp}, H' B = some (.dK kv) → DGet H' B (.int (Relax.back bf x m)) (some (.int (Relax.back bf x (m + 1)))) := fun m {H'} e => by
      rw [bx, bx]
      exact get _ e
    have hpx : Relax.back bf x (j - i) = x := by
      rw [bx, per kv.length (by omega), hx]
    refine ⟨_, rfl, by show 1 ≤ sizeLine; decide, fun R hR => ?_⟩
    have s1 := same_new (o := .lst [V.int x]) hR
    have e1 : upd H1 R (.lst [V.int x]) R = some (.lst [V.int x]) := upd_same
    have nBR : B ≠ R := ne_of_none b1 hR
    have b1 := s1 _ _ b1
    generalize upd H1 R (.lst [V.int x]) = H2 at s1 e1 b1
    refine ⟨_, rfl, _, rfl, B, _, rfl, getx 0 b1, ?_⟩
    refine ⟨fun m σ' H' => ∃ qq, m + qq = j - i ∧ 1 ≤ m ∧ σ' = [some (.int x), some (.ref B), v2, some (.ref R), some (.int (Relax.back bf x (qq + 1)))] ∧ H' R = some (.lst (((List.range (qq + 1)).map (Relax.back bf x)).map V.int)) ∧ H' B = some (.dK kv) ∧ Same H1 H',
      ⟨j - i, 0, by omega, by omega, rfl, e1, b1, s1⟩, ?_⟩
    rintro m σ' H3 ⟨qq, m1, m2, rfl, r1, r2, S3⟩
    refine ⟨_, rfl, _, rfl, rfl, _, rfl, ?_⟩
    by_cases c : Relax.back bf x (qq + 1) = x
    · refine if_f (by simp [c]) ?_
      refine ⟨_, rfl, .inl ⟨rfl, _, SqL.of r1⟩, R, _, rfl, rfl, r1, ?_⟩
      refine ⟨_, rfl, k R _ hR (fun b o e => (upd_ne (ne_of_none e hR)).trans (S3 _ _ e)) ⟨((List.range (qq + 1)).map (Relax.back bf x)).reverse, ?_, ?_, ?_, fun y hy => ?_⟩⟩
      · rw [upd_same, List.map_reverse]
      · intro z
        have := congrArg List.length z
        simp at this
      · rw [List.length_reverse, List.length_map, List.length_range]
        omega
      · obtain ⟨y1, _, rfl⟩ := List.mem_map.mp (List.mem_reverse.mp hy)
        rw [bx]
        exact hin _
    · refine if_t (by simp [c]) ?_
      have hlt : qq + 1 < j - i := by
        rcases Nat.lt_or_ge (qq + 1) (j - i) with z | z
        · exact z
        · have : qq + 1 = j - i := by omega
          rw [this] at c
          exact absurd hpx c
      refine ⟨fun σ' H' => σ' = [some (.int x), some (.ref B), v2, some (.ref R), some (.int (Relax.back bf x (qq + 1 + 1)))] ∧ H' R = some (.lst (((List.range (qq + 1 + 1)).map (Relax.back bf x)).map V.int)) ∧ H' B = some (.dK kv) ∧ Same H1 H',
        fun σ' H' h => ⟨m - 1, by omega, qq + 1, by omega, by omega, h⟩, ?_⟩
      refine ⟨_, rfl, .inl ⟨rfl, _, SqL.of r1⟩, _, rfl, R, _, _, rfl, rfl, r1, small1000 (by rw [List.length_map, List.length_map, List.length_range]; omega), ?_⟩
      have r2' : upd H3 R (.lst (((List.range (qq + 1)).map (Relax.back bf x)).map V.int ++ [V.int (Relax.back bf x (qq + 1))])) B = some (.dK kv) := (upd_ne nBR).trans r2
      refine ⟨_, rfl, _, rfl, B, _, rfl, getx (qq + 1) r2', rfl, ?_, r2', fun b o e => (upd_ne (ne_of_none e hR)).trans (S3 _ _ e)⟩
      rw [upd_same, List.range_succ (n := qq + 1), List.map_append, List.map_append]
      rfl
set_option maxHeartbeats 0 in
theorem ok_fnd2 {f fRb : Addr} {fd fdRb : FuncData} (F : Fun K "_find_ring" "_find_ring" sFnd f fd) (T : FiTxt mg fRb) (GRb : FnOk P w K mg base CX0 1 fRb fdRb ["node", "before"] spRgb) (FRb : Fun K "_ring_behind" "_ring_behind" sRgb fRb fdRb) (bRb : Binds K fdRb ["node", "before"] []) : FnOk P w K mg base CX0 2 f fd ["size", "told"] spFnd2 := by
  obtain ⟨tk, hgr⟩ := T.ground
  refine F.ok scFnd (fun vs H Q E h => ?_) (fun cdv A outer s H vs Q E hr h => ?_)
  · obtain ⟨n, t, es, rfl, _⟩ := h
    rfl
  · obtain ⟨n, t, es, rfl, ht, ln, le, hin, kA, kB⟩ := h
    have hr1 : Room 1 _ := hr.mono (by decide)
    refine ⟨_, (pss_cons (DcX.ps_setDc (i := 2) (own := [("node", 3)]) (g := gName 3) (tt := tYes) rfl scFnd.nd rfl rfl (DcX.swd_true rfl rfl rfl (by decide +kernel)) (pi_range2 (by rfl) T.range (pa_cons (pe_glob (v := .int (-1)) rfl hgr ⟨_, rfl⟩) (pa_cons (pv 0) pa_nil)))
        (blkOk_by (own := [("node", 3)]) (N := ["size", "told", "sums", "node", "before", "changed", "_", "first", "second", "most"]) (sc := defScope sFnd) (by decide +kernel)) (fun _ _ _ _ _ => pg_name (i := 3) scFnd.nd rfl (Or.inl rfl)) (fun _ _ _ _ _ => pts_nil) (fun _ _ _ _ _ => pv 3) (fun _ _ _ _ _ => pe_int))
      (pss_cons (ps_set (i := 4) scFnd.nd rfl (Or.inl rfl) pe_dnewK)
      (pss_cons (ps_set (i := 5) scFnd.nd rfl (Or.inl rfl) (pe_lst pa_nil))
      (pss_cons (ps_for PassesOwn.never rfl (pi_range2 (by rfl) T.range (pa_cons (pe_glob (v := .int (-1)) rfl hgr ⟨_, rfl⟩) (pa_cons (pv 0) pa_nil))) (pg_name (i := 6) scFnd.nd rfl (Or.inl rfl)) (pss_cons (ps_set (i := 5) scFnd.nd rfl (Or.inl rfl) (pe_lst pa_nil))
      (pss_one (ps_lock (ps_for PassesOwn.never rfl (DTX.pi_itemsT (pv 1)) (pg_tup (by rfl) (pgs_cons (pg_tup (by rfl) (pgs_cons (pg_name (i := 7) scFnd.nd rfl (Or.inl rfl)) (pgs_cons (pg_name (i := 8) scFnd.nd rfl (Or.inl rfl)) pgs_nil))) (pgs_cons (pg_name (i := 9) scFnd.nd rfl (Or.inl rfl)) pgs_nil))) (pss_one (ps_if (pt_cmpR op_lt (pe_op op_add (pe_dget (hu_of hr) (pv 2) (pv 7) (fun _ _ => rfl)) (pv 9)) (pe_dget (hu_of hr) (pv 2) (pv 8) (fun _ _ => rfl)) (nomark _)) (pss_cons (ps_dput (hu_of hr) (pv 2) (pv 8) (pe_op op_add (pe_dget (hu_of hr) (pv 2) (pv 7) (fun _ _ => rfl)) (pv 9)) rfl)
      (pss_cons (ps_dput (hu_of hr) (pv 4) (pv 8) (pv 7) rfl)
      (pss_one (ps_expr (pe_bm PySem.F.plainAttrs_list PySem.F.slot_list_append PySem.F.type_list_append mt_append (pv 5) (pa_cons (pv 8) pa_nil)))))) pss_nil)))))))
      (pss_cons (ps_if (pt_not (pt_truth (pv 5) (by intro _; rfl))) (pss_one (ps_ret (pe_lst pa_nil))) pss_nil)
      (pss_one (ps_ret (pe_call GRb hr1 rfl T.rgb FRb.kp bRb .nil pass0 (pa_cons (pe_ix ix_list (pv 5) (pe_un un_neg pe_int) (fun _ _ => rfl)) (pa_cons (pv 4) pa_nil)))))))))), ?_⟩
    have en : ((n : Int) - -1).toNat = n + 1 := by omega
    refine ⟨_, rfl, _, _, rfl, ⟨by omega, by omega, by omega, by omega⟩, fun D hD => ?_⟩
    rw [en]
    refine DcX.dc_it (walk_range (lo := -1) (n := n + 1)) (fun i H' => (∃ kv : List (Key × V), H' D = some (.dK kv) ∧ kv.length ≤ i ∧ ∀ v : Int, -1 ≤ v → v < -1 + (i : Int) → valV kv (.inl v) = some (.int 0)) ∧ Same H H') ⟨⟨[], upd_same, Nat.le_refl _, fun v h1 h2 => absurd h2 (by omega)⟩, same_new hD⟩ (fun _ _ _ _ => trivial) ?_ ?_
    · rintro i x H1 H2 hi ⟨⟨kv, a1, a2, a3⟩, S1⟩ ⟨rfl, rfl⟩
      refine ⟨rfl, _, rfl, _, .inl (-1 + (i : Int)), rfl, a1, small1000 (by omega), ⟨_, upd_same, Nat.le_trans (putLen _ _ _) (by omega), fun v h1 h2 => ?_⟩, fun b o e => ?_⟩
      · rw [valV_put]
        by_cases z : v = -1 + (i : Int)
        · subst z
          rw [if_pos rfl]
        · rw [if_neg fun w => z (Sum.inl.inj w)]
          exact a3 v h1 (by omega)
      · rw [upd_ne (ne_of_none e hD)]
        exact S1 _ _ e
    rintro H1 ⟨⟨kv, a1, a2, a3⟩, S1⟩
    have SA : SumsAt H1 D n (Relax.rounds es 0) := ⟨kv, a1, a2, fun v h1 h2 => a3 v h1 (by omega)⟩
    refine fun B hB => ?_
    have nDB : D ≠ B := ne_of_none a1 hB
    have s2 := same_new (o := .dK []) hB
    have S2 := same_tr S1 s2
    have SA := SA.of_eq (H' := upd H1 B (.dK [])) (upd_ne nDB)
    have eB : upd H1 B (.dK []) B = some (.dK []) := upd_same
    have hB0 : H B = none := none_back S1 hB
    generalize upd H1 B (.dK []) = H2 at SA S2 eB
    refine ⟨by show 0 ≤ sizeLine; decide, fun C0 hC0 => ?_⟩
    have s3 := same_new (o := .lst []) hC0
    have hC00 := none_back S2 hC0
    have S3 := same_tr S2 s3
    have SA := SA.of_eq (H' := upd H2 C0 (.lst [])) (upd_ne (ne_of_none (show H2 D = some (.dK (Classical.choose SA)) from (Classical.choose_spec SA).1) hC0))
    have eB := s3 _ _ eB
    have eC : upd H2 C0 (.lst []) C0 = some (.lst []) := upd_same
    generalize upd H2 C0 (.lst []) = H3 at SA S3 eB eC
    let Shp : Prop := ∃ pi : Int → Int, ∀ e ∈ es, pi e.2.1 - pi e.1 ≤ e.2.2
    have nDt : D ≠ t := fun z => by rw [z, ht] at hD; cases hD
    have nBt : B ≠ t := fun z => by rw [z, ht] at hB0; cases hB0
    refine ⟨_, rfl, _, _, rfl, ⟨by omega, by omega, by omega, by omega⟩, ?_⟩
    rw [en]
    refine for_it (walk_range (lo := -1) (n := n + 1)) (fun i σ' H' => ∃ (C : Addr) (v3 v6 v7 v8 v9 : Option V) (cl : List Int) (kb : List (Key × V)) (bf : Int → Option Int) (tt : Int → Nat), σ' = [some (.int n), some (.ref t), some (.ref D), v3, some (.ref B), some (.ref C), v6, v7, v8, v9] ∧
      SumsAt H' D n (Relax.rounds es i) ∧ (H' B = some (.dK kb) ∧ kb.length ≤ i * es.length ∧ ∀ v : Int, -1 ≤ v → v < n → valV kb (.inl v) = (bf v).map V.int) ∧ H' C = some (.lst (cl.map V.int)) ∧ H C = none ∧ (Shp → i = n + 1 → cl = []) ∧ Same H H' ∧
      ((i = 0 ∧ Relax.RInv es n 1 [] (Relax.rounds es i) bf tt) ∨ (1 ≤ i ∧ Relax.RInv es n i es (Relax.rounds es i) bf tt ∧ (∀ v ∈ cl, tt v = i ∧ -1 ≤ v ∧ v < n) ∧ (cl = [] → ∀ e ∈ es, Relax.rounds es i e.2.1 ≤ Relax.rounds es i e.1 + e.2.2))))
      ⟨C0, _, _, _, _, _, [], [], fun _ => none, fun _ => 0, rfl, SA, ⟨eB, by simp, fun v _ _ => rfl⟩, eC, hC00, fun _ _ => rfl, S3, .inl ⟨rfl, Relax.RInv.start es n _⟩⟩ (fun _ _ _ _ _ => trivial) ?_ ?_
    · rintro i x σ' H4 H5 hi ⟨C1, v3, v6, v7, v8, v9, cl1, kb0, bf0, tt0, rfl, SA4, ⟨b1, b2, b3⟩, c1, c2, c3, S4, RO⟩ ⟨rfl, rfl⟩
      have R0 : Relax.RInv es n (i + 1) [] (Relax.rounds es i) bf0 tt0 := by
        rcases RO with ⟨rfl, r⟩ | ⟨_, r, _⟩
        · exact r
        · exact r.next
      refine ⟨by show 0 ≤ sizeLine; decide, fun C hC => ?_⟩
      have s5 := same_new (o := .lst []) hC
      have hC0 := none_back S4 hC
      have S5 := same_tr S4 s5
      have nDC : D ≠ C := ne_of_none (Classical.choose_spec SA4).1 hC
      have nBC : B ≠ C := ne_of_none b1 hC
      have SA5 := SA4.of_eq (H' := upd H5 C (.lst [])) (upd_ne nDC)
      have b1 := s5 _ _ b1
      have eC : upd H5 C (.lst []) C = some (.lst []) := upd_same
      generalize upd H5 C (.lst []) = H6 at SA5 S5 b1 eC
      have nCt : C ≠ t := fun z => by rw [z, ht] at hC0; cases hC0
      refine ⟨t, .dT (kvT es), S5 _ _ ht, trivial, fun od => ?_⟩
      refine ⟨_, rfl, t, od, kvT es, rfl, upd_same, ?_⟩
      have kl : (kvT es).length = es.length := by unfold kvT; rw [List.length_map]
      refine for_it DTX.walk_itemsT (fun j σ' H' => ∃ (v7 v8 v9 : Option V) (cl : List Int) (kb : List (Key × V)) (bf : Int → Option Int) (tt : Int → Nat), σ' = [some (.int n), some (.ref t), some (.ref D), v3, some (.ref B), some (.ref C), some (.int (-1 + (i : Int))), v7, v8, v9] ∧
        H' t = some (.frz od (.dT (kvT es))) ∧ SumsAt H' D n ((es.take j).foldl Relax.relax (Relax.rounds es i)) ∧ (H' B = some (.dK kb) ∧ kb.length ≤ i * es.length + j ∧ ∀ v : Int, -1 ≤ v → v < n → valV kb (.inl v) = (bf v).map V.int) ∧
        (H' C = some (.lst (cl.map V.int)) ∧ cl.length ≤ j ∧ (Shp → i = n → cl = [] ∧ (es.take j).foldl Relax.relax (Relax.rounds es i) = Relax.rounds es i)) ∧ SameB t H H' ∧ Relax.RInv es n (i + 1) (es.take j) ((es.take j).foldl Relax.relax (Relax.rounds es i)) bf tt ∧ (∀ v ∈ cl, tt v = i + 1 ∧ -1 ≤ v ∧ v < n) ∧
        (cl = [] → (es.take j).foldl Relax.relax (Relax.rounds es i) = Relax.rounds es i ∧ ∀ e ∈ es.take j, Relax.rounds es i e.2.1 ≤ Relax.rounds es i e.1 + e.2.2))
        ⟨_, _, _, [], kb0, bf0, tt0, rfl, upd_same, SA5.of_eq (upd_ne nDt), ⟨(upd_ne nBt).trans b1, b2, b3⟩, ⟨(upd_ne nCt).trans eC, Nat.le_refl _, fun _ _ => ⟨rfl, rfl⟩⟩, fun b o nb e => (upd_ne nb).trans (S5 _ _ e), R0, (fun _ h => by cases h), fun _ => ⟨rfl, fun e he => by cases he⟩⟩ (fun _ _ _ _ h => by obtain ⟨_, _, _, _, _, _, _, _, z, _⟩ := h; exact z) ?_ ?_
      · rintro j x σ' H7 H8 hj ⟨v7, v8, v9, cl, kb, bf, tt, rfl, ft, SJ, ⟨k1, k2, k3⟩, ⟨l1, l2, l3⟩, SB, RI, cT, cE⟩ ⟨T0, q0, kk, vv, e1, rfl, e2, hT, rfl⟩
        rw [kl] at hj
        obtain ⟨⟨u, v, m⟩, he⟩ : ∃ e, es[j]? = some e := ⟨_, List.getElem?_eq_getElem hj⟩
        unfold kvT at e1
        rw [List.getElem?_map, he] at e1
        cases e1
        have sT := same_new (o := .tup [V.ref q0, V.int m]) hT
        have em := List.mem_of_getElem? he
        obtain ⟨⟨u1, u2⟩, w1, w2⟩ := hin _ em
        have et : (es.take (j + 1)).foldl Relax.relax (Relax.rounds es i) = Relax.relax ((es.take j).foldl Relax.relax (Relax.rounds es i)) (u, v, m) := by
          rw [List.take_succ, he, Option.toList_some, List.foldl_append]
          rfl
        refine ⟨T0, _, rfl, SqT.of upd_same, rfl, _, _, rfl, q0, _, rfl, SqT.of (sT _ _ e2), rfl, _, _, rfl, _, _, rfl, rfl, _, _, rfl, rfl, ?_⟩
        have nD0 : D ≠ T0 := ne_of_none (Classical.choose_spec SJ).1 hT
        have SK := SJ.of_eq (H' := upd H7 T0 (.tup [V.ref q0, V.int m])) (upd_ne nD0)
        have k1 := sT _ _ k1
        have l1 := sT _ _ l1
        have ft := sT _ _ ft
        have SB2 : SameB t H (upd H7 T0 (.tup [V.ref q0, V.int m])) := fun b o nb e => sT _ _ (SB b o nb e)
        generalize upd H7 T0 (.tup [V.ref q0, V.int m]) = H8 at SK k1 l1 ft SB2
        generalize hS : (es.take j).foldl Relax.relax (Relax.rounds es i) = S at SK et l3 RI cE
        have etk : es.take (j + 1) = es.take j ++ [(u, v, m)] := by rw [List.take_succ, he]; rfl
        have G1 := SK.get u1 u2
        have G2 := SK.get w1 w2
        refine ⟨_, rfl, _, rfl, D, _, rfl, G1, _, rfl, _, _, rfl, rfl, _, rfl, _, rfl, D, _, rfl, G2, _, _, rfl, rfl, _, rfl, ?_⟩
        by_cases c : S u + m < S v
        · refine if_t (decide_eq_true c) ?_
          have er : Relax.relax S (u, v, m) = Relax.put S v (S u + m) := if_pos c
          obtain ⟨H9, p1, p2, p3⟩ := SK.put (x := S u + m) w1 w2 ln
          refine ⟨_, rfl, _, rfl, D, _, rfl, G1, _, rfl, _, _, rfl, rfl, _, rfl, _, rfl, D, H9, rfl, p1, ?_⟩
          have k9 := (p3 B (Ne.symm nDB)).trans k1
          have l9 := (p3 C (Ne.symm nDC)).trans l1
          have f9 := (p3 t (Ne.symm nDt)).trans ft
          have hij : i * es.length + j ≤ 200000 := by
            have a : i * es.length ≤ 201 * 900 := Nat.mul_le_mul (by omega) le
            omega
          refine ⟨_, rfl, _, rfl, _, rfl, B, _, rfl, DPut.k (k := .inl v) k9 (by rw [sizeLine_eq]; omega), ?_⟩
          have l10 : upd H9 B (.dK (putK kb (.inl v) (.int u))) C = some (.lst (cl.map V.int)) := (upd_ne (Ne.symm nBC)).trans l9
          refine ⟨_, rfl, .inl ⟨rfl, _, SqL.of l10⟩, _, rfl, C, cl.map V.int, _, rfl, rfl, l10, small1000 (by rw [List.length_map]; omega), ?_⟩
          have RN := RI.relax em (by omega) ⟨u1, u2⟩ c
          refine ⟨_, _, _, cl ++ [v], putK kb (.inl v) (.int u), _, _, rfl, ?_, ?_, ⟨?_, ?_, fun a a1 a2 => ?_⟩, ⟨by rw [upd_same, List.map_append]; rfl, ?_, fun sh z => ?_⟩, fun b o nb e => ?_, by rw [et, er, etk]; exact RN, fun a ha => ?_, fun z => ?_⟩
          · rw [upd_ne (Ne.symm nCt), upd_ne (Ne.symm nBt)]
            exact f9
          · rw [et, er]
            exact p2.of_eq (by rw [upd_ne nDC, upd_ne nDB])
          · rw [upd_ne nBC, upd_same]
            rfl
          · have := putLen kb (.inl v) (.int u)
            omega
          · rw [valV_put]
            by_cases z : a = v
            · subst z
              rw [if_pos rfl, if_pos rfl]
              rfl
            · rw [if_neg z, if_neg (fun w => z (Sum.inl.inj w))]
              exact k3 a a1 a2
          · rw [List.length_append]
            show cl.length + 1 ≤ j + 1
            omega
          · obtain ⟨pi, hpi⟩ := sh
            have st := Relax.settled (n := n + 1) (lo := -1) (k := n) hpi (fun e he => by have := hin e he; omega) (Nat.le_refl _) _ em
            have e3 := (l3 ⟨pi, hpi⟩ z).2
            subst z
            rw [e3] at c
            have st : Relax.rounds es i v ≤ Relax.rounds es i u + m := st
            omega
          · have nbD : b ≠ D := ne_of_none e hD
            have nbB : b ≠ B := ne_of_none e hB0
            have nbC : b ≠ C := ne_of_none e hC0
            rw [upd_ne nbC, upd_ne nbB, p3 b nbD]
            exact SB2 b o nb e
          · show (if a = v then i + 1 else tt a) = i + 1 ∧ _
            rcases List.mem_append.mp ha with h | h
            · obtain ⟨q1, q2⟩ := cT a h
              refine ⟨?_, q2⟩
              split
              · rfl
              · exact q1
            · rw [List.mem_singleton] at h
              rw [if_pos h, h]
              exact ⟨rfl, w1, w2⟩
          · have := congrArg List.length z
            simp at this
        · refine if_f (decide_eq_false c) ?_
          have er : Relax.relax S (u, v, m) = S := if_neg c
          have cle : S v ≤ S u + m := by omega
          refine ⟨_, _, _, cl, kb, bf, tt, rfl, ft, by rw [et, er]; exact SK, ⟨k1, by omega, k3⟩, ⟨l1, by omega, fun sh z => ⟨(l3 sh z).1, by rw [et, er]; exact (l3 sh z).2⟩⟩, SB2, by rw [et, er, etk]; exact RI.keep cle, cT, fun z => ?_⟩
          obtain ⟨q1, q2⟩ := cE z
          refine ⟨by rw [et, er]; exact q1, fun e he' => ?_⟩
          rw [etk] at he'
          rcases List.mem_append.mp he' with h | h
          · exact q2 e h
          · rw [List.mem_singleton] at h
            subst h
            rw [← q1]
            exact cle
      · rintro σ' H7 ⟨v7, v8, v9, cl, kb, bf, tt, rfl, ft, SJ, ⟨k1, k2, k3⟩, ⟨l1, l2, l3⟩, SB, RI, cT, cE⟩
        rw [kl] at SJ k2 l2 l3 RI cE
        rw [List.take_length] at SJ l3 RI cE
        refine ⟨ft, C, v3, _, v7, v8, v9, cl, kb, bf, tt, rfl, SJ.of_eq (upd_ne nDt), ⟨(upd_ne nBt).trans k1, by rw [Nat.add_mul, Nat.one_mul]; exact k2, k3⟩, (upd_ne nCt).trans l1, hC0, fun sh z => (l3 sh (by omega)).1, fun b o e => ?_, .inr ⟨by omega, RI, cT, fun z e he => ?_⟩⟩
        rotate_left
        · obtain ⟨q1, q2⟩ := cE z
          show es.foldl Relax.relax (Relax.rounds es i) e.2.1 ≤ es.foldl Relax.relax (Relax.rounds es i) e.1 + e.2.2
          rw [q1]
          exact q2 e he
        by_cases z : b = t
        · subst z
          rw [ht] at e
          cases e
          exact upd_same
        · rw [upd_ne z]
          exact SB _ _ z e
    · rintro σ' H4 ⟨C1, v3, v6, v7, v8, v9, cl1, kb0, bf, tt, rfl, SA4, ⟨b1, b2, b3⟩, c1, c2, c3, S4, RO⟩
      obtain ⟨RI, cT, cE⟩ : Relax.RInv es n (n + 1) es (Relax.rounds es (n + 1)) bf tt ∧ (∀ v ∈ cl1, tt v = n + 1 ∧ -1 ≤ v ∧ v < n) ∧ (cl1 = [] → ∀ e ∈ es, Relax.rounds es (n + 1) e.2.1 ≤ Relax.rounds es (n + 1) e.1 + e.2.2) := by
        rcases RO with ⟨z, _⟩ | ⟨_, r⟩
        · exact absurd z (by omega)
        · exact r
      by_cases sh : Shp
      · obtain rfl := c3 sh rfl
        refine ⟨_, rfl, false, .inl ⟨[], SqL.of c1, rfl⟩, if_t rfl ?_⟩
        exact ⟨by show 0 ≤ sizeLine; decide, fun q hq => kA sh q _ (none_back S4 hq) (same_tr S4 (same_new hq)) upd_same⟩
      · have hne : cl1 ≠ [] := fun z => sh ⟨Relax.rounds es (n + 1), fun e he => by have := cE z e he; omega⟩
        have hlen : 0 < cl1.length := List.length_pos_iff.mpr hne
        refine ⟨_, rfl, true, .inl ⟨_, SqL.of c1, by cases cl1 with | nil => exact absurd rfl hne | cons x r => rfl⟩, if_f rfl ?_⟩
        obtain ⟨v, hv⟩ : ∃ v, cl1[cl1.length - 1]? = some v := ⟨_, List.getElem?_eq_getElem (by omega)⟩
        have av : atI (cl1.map V.int) (-1) = some (V.int v) := by
          unfold atI ixN
          rw [if_neg (by omega), if_pos (by rw [List.length_map]; omega)]
          show (cl1.map V.int)[((-1 : Int) + ((cl1.map V.int).length : Int)).toNat]? = _
          rw [List.length_map, show ((-1 : Int) + (cl1.length : Int)).toNat = cl1.length - 1 by omega, List.getElem?_map, hv]
          rfl
        obtain ⟨tv, vr⟩ := cT v (List.mem_of_getElem? hv)
        obtain ⟨i1, j1, r1, r2, r3, r4, r5, r6⟩ := Relax.ring_of RI tv vr
        have hij : (n + 1) * es.length ≤ 201 * 900 := Nat.mul_le_mul (by omega) le
        refine ⟨_, rfl, _, rfl, C1, _, -1, _, rfl, rfl, SqL.of c1, av, _, rfl, v, B, n, i1, j1, bf, rfl, ⟨kb0, b1, Nat.le_trans b2 (Nat.le_trans hij (by decide)), b3⟩, r1, r2, ln, r3, r4, r5, r6, fun q H' nq s R => ?_⟩
        exact kB sh q H' (none_back S4 nq) (same_tr S4 s) R
end
end Law



/-! The least sums of a site. -/
namespace Law
open PySem PySem.Spec PyProof.Rows L2 Sup
abbrev sLst : Stmt := top 31
abbrev sFst : Stmt := top 32
abbrev sSby : Stmt := top 33
theorem ix_listK (K : PySem.W.Frag) {X : Cx} (h : X.K = K) : IxR X (rIxL K) := h ▸ ix_list
theorem pi_listK (K : PySem.W.Frag) {X : Cx} {tg l : Expr} {tl : TE} (h : X.K = K) (hl : PE X l tl) : PI X tg l (iList K tl) := h ▸ pi_list hl
def firstSum (es : List Edge) (a b : Int) : Int := if a = b then 0 else match es.find? (likeE (a, b, 0)) with
  | some e => e.2.2
  | none => match es.find? (likeE (-1, b, 0)) with
    | some e => e.2.2
    | none => 0
def lessOf (st known more : Int) : Int := if known ≤ st + more then known else st + more
def sumsBy (row : List Int) (st : Int) (on : List Int) : List Int := List.zipWith (lessOf st) row on
def nodesI (n : Nat) : List Int := (List.range n).map (fun (i : Nat) => (i : Int)) ++ [-1]
def fwStep (M : List (List Int)) (k : Int) : List (List Int) := M.map fun row => sumsBy row ((atI row k).getD 0) ((atI M k).getD [])
def firstTab (n : Nat) (es : List Edge) : List (List Int) := (nodesI n).map fun a => (nodesI n).map fun b => firstSum es a b
def leastSums (n : Nat) (es : List Edge) : List (List Int) := (nodesI n).foldl fwStep (firstTab n es)
/-- a square of m rows -/
def Sqr (m : Nat) (M : List (List Int)) : Prop := M.length = m ∧ ∀ row ∈ M, row.length = m
def TabAt (H : Hp) (p : Addr) (M : List (List Int)) : Prop := ∃ ts : List Addr, H p = some (.lst (ts.map V.ref)) ∧ ts.length = M.length ∧ ∀ (i : Nat) (t : Addr) (row : List Int), ts[i]? = some t → M[i]? = some row → H t = some (.lst (row.map V.int))
def Full (n : Nat) (es : List Edge) : Prop := ∀ a ∈ nodesI n, ∀ b ∈ nodesI n, a ≠ b → es.find? (likeE (a, b, 0)) = none → es.find? (likeE (-1, b, 0)) ≠ none
theorem nodesI_len (n : Nat) : (nodesI n).length = n + 1 := by unfold nodesI; simp
theorem nodesI_mem {n : Nat} {a : Int} (h : a ∈ nodesI n) : -1 ≤ a ∧ a < n := by
  unfold nodesI at h
  rcases List.mem_append.mp h with h | h
  · obtain ⟨i, hi, rfl⟩ := List.mem_map.mp h
    have := List.mem_range.mp hi
    omega
  · rw [List.mem_singleton] at h
    subst h
    omega
theorem TabAt.same {H H' : Hp} {p : Addr} {M : List (List Int)} (h : TabAt H p M) (s : Same H H') : TabAt H' p M := by
  obtain ⟨ts, h1, h2, h3⟩ := h
  exact ⟨ts, s _ _ h1, h2, fun i t e e1 e2 => s _ _ (h3 i t e e1 e2)⟩
theorem neRow {H : Hp} {t D : Addr} {ts : List Addr} {row : List Int} (h : H D = some (.lst (ts.map V.ref))) (h' : H t = some (.lst (row.map V.int))) (hr : row ≠ []) : t ≠ D := fun z => by
  rw [z, h] at h'
  have e := HO.lst.inj (Option.some.inj h')
  cases row with
  | nil => exact hr rfl
  | cons x row =>
    cases ts with
    | nil => cases e
    | cons t ts => cases e
theorem TabAt.push {H : Hp} {D q : Addr} {M : List (List Int)} {row : List Int} (h : TabAt H D M) (hq : H q = some (.lst (row.map V.int))) (hM : ∀ r ∈ M, r ≠ []) (hr : row ≠ []) (hl : M.length ≤ 900) :
    ∃ acc, H D = some (.lst acc) ∧ acc.length < sizeLine ∧ TabAt (upd H D (.lst (acc ++ [.ref q]))) D (M ++ [row]) := by
  obtain ⟨ts, h1, h2, h3⟩ := h
  refine ⟨_, h1, small1000 (by rw [List.length_map]; omega), ts ++ [q], by rw [upd_same, List.map_append]; rfl, by simp [h2], fun i t r e1 e2 => ?_⟩
  by_cases hi : i < ts.length
  · rw [List.getElem?_append_left hi] at e1
    rw [List.getElem?_append_left (by omega)] at e2
    have z := h3 i t r e1 e2
    rw [upd_ne (neRow h1 z (hM r (List.mem_of_getElem? e2)))]
    exact z
  · rw [List.getElem?_append_right (by omega)] at e1 e2
    have ei : i - ts.length = 0 := by
      have := (List.getElem?_eq_some_iff.mp e1).1
      simp at this
      omega
    have ej : i - M.length = 0 := by omega
    rw [ei] at e1
    rw [ej] at e2
    cases e1
    cases e2
    rw [upd_ne (neRow h1 hq hr)]
    exact hq
theorem sumsBy_len (row : List Int) (st : Int) (on : List Int) (h : on.length = row.length) : (sumsBy row st on).length = row.length := by
  unfold sumsBy
  rw [List.length_zipWith, h, Nat.min_self]
theorem atI_some {α : Type} {xs : List α} {n : Nat} {k : Int} (hl : xs.length = n + 1) (h1 : -1 ≤ k) (h2 : k < n) : ∃ x, atI xs k = some x ∧ x ∈ xs ∧ xs[if k < 0 then n else k.toNat]? = some x := by
  unfold atI ixN
  by_cases c : 0 ≤ k
  · rw [if_pos c, if_pos (by omega), if_neg (by omega)]
    have hk : k.toNat < xs.length := by omega
    exact ⟨xs[k.toNat], by show xs[k.toNat]? = _; exact List.getElem?_eq_getElem hk, List.getElem_mem hk, List.getElem?_eq_getElem hk⟩
  · rw [if_neg c, if_pos (by omega), if_pos (by omega)]
    have hk : n < xs.length := by omega
    have e : (k + (xs.length : Int)).toNat = n := by omega
    rw [e]
    exact ⟨xs[n], by show xs[n]? = _; exact List.getElem?_eq_getElem hk, List.getElem_mem hk, List.getElem?_eq_getElem hk⟩
theorem atI_map {α β : Type} (f : α → β) (xs : List α) (k : Int) : atI (xs.map f) k = (atI xs k).map f := by
  unfold atI
  rw [List.length_map]
  cases ixN xs.length k with
  | none => rfl
  | some j => show (xs.map f)[j]? = (xs[j]?).map f; rw [List.getElem?_map]
theorem fwStep_sqr {n : Nat} {M : List (List Int)} {k : Int} (h : Sqr (n + 1) M) (h1 : -1 ≤ k) (h2 : k < n) : Sqr (n + 1) (fwStep M k) := by
  obtain ⟨a, b⟩ := h
  refine ⟨by unfold fwStep; rw [List.length_map]; exact a, fun row hr => ?_⟩
  unfold fwStep at hr
  obtain ⟨r, hr', rfl⟩ := List.mem_map.mp hr
  obtain ⟨o, ho, hm, _⟩ := atI_some a h1 h2
  rw [ho]
  show (sumsBy r _ o).length = _
  rw [sumsBy_len _ _ _ (by rw [b _ hm, b _ hr'])]
  exact b _ hr'
theorem firstTab_sqr (n : Nat) (es : List Edge) : Sqr (n + 1) (firstTab n es) := by
  refine ⟨by unfold firstTab; rw [List.length_map, nodesI_len], fun row h => ?_⟩
  unfold firstTab at h
  obtain ⟨a, _, rfl⟩ := List.mem_map.mp h
  rw [List.length_map, nodesI_len]
theorem fold_sqr {n : Nat} : ∀ (ks : List Int) {M : List (List Int)}, Sqr (n + 1) M → (∀ k ∈ ks, -1 ≤ k ∧ k < n) → Sqr (n + 1) (ks.foldl fwStep M)
  | [], _, h, _ => h
  | k :: ks, _, h, hk => fold_sqr ks (fwStep_sqr h (hk k List.mem_cons_self).1 (hk k List.mem_cons_self).2) fun x hx => hk x (List.mem_cons_of_mem _ hx)
structure LsTxt (mg : Str → Option Value) (fFs fSb : Addr) : Prop where
  ground : ∃ t, mg "GROUND" = some (.int (-1) t)
  range : mg "range" = none
  list : mg "list" = none
  zip : mg "zip" = none
  fst : mg "_first_sum" = some (.ref fFs)
  sby : mg "_sums_by" = some (.ref fSb)
def spFst : Sp := fun vs H Q _ => ∃ (t : Addr) (es : List Edge) (a b : Int), vs = [.ref t, .int a, .int b] ∧ H t = some (.dT (kvT es)) ∧ (a ≠ b → es.find? (likeE (a, b, 0)) = none → es.find? (likeE (-1, b, 0)) ≠ none) ∧ ∀ H', Same H H' → Q (.int (firstSum es a b)) H'
def spSby : Sp := fun vs H Q _ => ∃ (r o : Addr) (st : Int) (R O : List Int), vs = [.ref r, .int st, .ref o] ∧ H r = some (.lst (R.map V.int)) ∧ H o = some (.lst (O.map V.int)) ∧ O.length = R.length ∧ R.length ≤ 900 ∧
  ∀ (q : Addr) (H' : Hp), H q = none → Same H H' → H' q = some (.lst ((sumsBy R st O).map V.int)) → Q (.ref q) H'
def spLst : Sp := fun vs H Q _ => ∃ (n : Nat) (t : Addr) (es : List Edge), vs = [.int n, .ref t] ∧ H t = some (.dT (kvT es)) ∧ n ≤ 200 ∧ Full n es ∧
  ∀ (q : Addr) (H' : Hp), H q = none → Same H H' → TabAt H' q (leastSums n es) → Q (.ref q) H'
section
variable {P : Program} {w : World} {K : PySem.W.Frag} {mg : Str → Option Value} {base : Heap} {fFs fSb : Addr}
theorem scFst : FnScope ["told", "first", "second"] ["told", "first", "second"] (defScope sFst) := ⟨rfl, rfl, rfl, by decide +kernel, rfl, by decide +kernel, by decide +kernel⟩
theorem scSby : FnScope ["row", "step", "onward", "known", "more"] ["row", "step", "onward"] (defScope sSby) := ⟨rfl, rfl, rfl, by decide +kernel, rfl, by decide +kernel, by decide +kernel⟩
theorem scLst : FnScope ["size", "told", "nodes", "table", "first", "second", "node", "onward", "row"] ["size", "told"] (defScope sLst) := ⟨rfl, rfl, rfl, by decide +kernel, rfl, by decide +kernel, by decide +kernel⟩
set_option maxHeartbeats 0 in
theorem ok_fst {f : Addr} {fd : FuncData} (F : Fun K "_first_sum" "_first_sum" sFst f fd) (T : LsTxt mg fFs fSb) : FnOk P w K mg base CX0 1 f fd ["told", "first", "second"] spFst := by
  obtain ⟨tk, hgr⟩ := T.ground
  refine F.ok scFst (fun vs H Q E h => ?_) (fun cdv A outer s H vs Q E hr h => ?_)
  · obtain ⟨t, es, a, b, rfl, _⟩ := h
    rfl
  · obtain ⟨t, es, a, b, rfl, ht, hf, k⟩ := h
    refine ⟨_, (pss_cons (ps_if (pt_cmpR op_eq (pv 1) (pv 2) (nomark _)) (pss_one (ps_ret pe_int)) pss_nil)
      (pss_one (ps_ret (pe_dget2 (hu_of hr) (pv 0) (pe_tup (pa_cons (pv 1) (pa_cons (pv 2) pa_nil))) (pe_dget1 (hu_of hr) (pv 0) (pe_tup (pa_cons (pe_glob (v := .int (-1)) rfl hgr ⟨_, rfl⟩) (pa_cons (pv 2) pa_nil))) ⟨rfl, rfl, rfl, rfl⟩) ⟨rfl, rfl, rfl, rfl⟩)))), ?_⟩
    refine ⟨_, rfl, _, rfl, rfl, _, rfl, ?_⟩
    by_cases c : a = b
    · refine if_t (by simp [c]) ?_
      have z := k H same_rfl
      unfold firstSum at z
      rw [if_pos c] at z
      exact z
    · refine if_f (by simp [c]) ?_
      refine ⟨_, rfl, t, rfl, .inr ⟨_, .inl ht⟩, _, rfl, _, rfl, by show 2 ≤ sizeLine; decide, fun k1 hk1 => ?_⟩
      have s1 := same_new (o := .tup [V.int a, V.int b]) hk1
      have t1 := s1 _ _ ht
      have e1 : upd H k1 (.tup [V.int a, V.int b]) k1 = some (.tup ((keyT (a, b, 0)).map kV)) := upd_same
      generalize upd H k1 (.tup [V.int a, V.int b]) = H1 at s1 t1 e1
      refine ⟨_, rfl, t, rfl, .inr ⟨_, .inl t1⟩, _, rfl, by show 2 ≤ sizeLine; decide, fun k2 hk2 => ?_⟩
      have s2 := same_new (o := .tup [V.int (-1), V.int b]) hk2
      have t2 := s2 _ _ t1
      have e2 : upd H1 k2 (.tup [V.int (-1), V.int b]) k2 = some (.tup ((keyT (-1, b, 0)).map kV)) := upd_same
      have e1' := s2 _ _ e1
      generalize upd H1 k2 (.tup [V.int (-1), V.int b]) = H2 at s2 t2 e2 e1'
      refine ⟨_, DGet.t t2 e2, _, DGet.t t2 e1', ?_⟩
      rw [val_kvT, val_kvT]
      have z := k H2 (same_tr s1 s2)
      unfold firstSum at z
      rw [if_neg c] at z
      cases q1 : es.find? (likeE (a, b, 0)) with
      | some e =>
        rw [q1] at z
        exact z
      | none =>
        rw [q1] at z
        cases q2 : es.find? (likeE (-1, b, 0)) with
        | some e =>
          rw [q2] at z
          exact z
        | none => exact absurd q2 (hf c q1)
set_option maxHeartbeats 0 in
theorem ok_sby {f : Addr} {fd : FuncData} (F : Fun K "_sums_by" "_sums_by" sSby f fd) (T : LsTxt mg fFs fSb) : FnOk P w K mg base CX0 1 f fd ["row", "step", "onward"] spSby := by
  refine F.ok scSby (fun vs H Q E h => ?_) (fun cdv A outer s H vs Q E hr h => ?_)
  · obtain ⟨r, o, st, R, O, rfl, _⟩ := h
    rfl
  · obtain ⟨r, o, st, R, O, rfl, hR, hO, hl, h9, k⟩ := h
    refine ⟨_, (pss_one (ps_ret (pe_lc (own := [("known", 3), ("more", 4)]) (g := gTup K 2 (gCons (gName 3) (gCons (gName 4) gNil))) (tt := tYes) (by rfl) scSby.nd (pi_zip (by rfl) T.zip (pa_cons (pv 0) (pa_cons (pv 2) pa_nil)))
        (blkOk_by (own := [("known", 3), ("more", 4)]) (N := ["row", "step", "onward", "known", "more"]) (sc := defScope sSby) (by decide +kernel)) (fun _ _ _ _ _ => by exact (pg_tup (n := 2) rfl (pgs_cons (pg_name (i := 3) scSby.nd rfl (Or.inl rfl)) (pgs_cons (pg_name (i := 4) scSby.nd rfl (Or.inl rfl)) pgs_nil)))) (fun _ _ _ _ _ => pts_nil) (fun _ _ _ _ _ => (pe_ifExp (pt_cmpR op_le (pv 3) (pe_op op_add (pv 1) (pv 4)) (nomark _)) (pv 3) (pe_op op_add (pv 1) (pv 4))))))), ?_⟩
    refine ⟨_, rfl, _, rfl, r, o, _, _, rfl, SqL.of hR, SqL.of hO, fun D hD => ?_⟩
    have sl := sumsBy_len R st O hl
    refine lc_it (walk_zip (n := R.length) (by rw [List.length_map, List.length_map]; omega)) (fun i H' => H' D = some (.lst (((sumsBy R st O).take i).map V.int)) ∧ Same H H') ⟨by rw [upd_same]; rfl, same_new hD⟩ (fun _ _ _ h => ⟨SqL.of (h.2 _ _ hR), SqL.of (h.2 _ _ hO)⟩) ?_ ?_
    · rintro i x H1 H2 hi ⟨a1, S1⟩ ⟨T0, x1, y1, rfl, hT, rfl, h1, h2⟩
      have h1 : (R.map V.int)[i]? = some x1 := h1
      have h2 : (O.map V.int)[i]? = some y1 := h2
      have hiO : i < O.length := by omega
      rw [List.getElem?_map, List.getElem?_eq_getElem hi] at h1
      rw [List.getElem?_map, List.getElem?_eq_getElem hiO] at h2
      cases h1
      cases h2
      have sT := same_new (o := .tup [V.int R[i], V.int O[i]]) hT
      have eT : (sumsBy R st O)[i]? = some (lessOf st R[i] O[i]) := by
        unfold sumsBy
        rw [List.getElem?_zipWith, List.getElem?_eq_getElem hi, List.getElem?_eq_getElem hiO]
      have fin : ∃ acc, upd H1 T0 (.tup [V.int R[i], V.int O[i]]) D = some (.lst acc) ∧ acc.length < sizeLine ∧ (fun i H' => H' D = some (.lst (((sumsBy R st O).take i).map V.int)) ∧ Same H H') (i + 1) (upd (upd H1 T0 (.tup [V.int R[i], V.int O[i]])) D (.lst (acc ++ [V.int (lessOf st R[i] O[i])]))) := by
        refine ⟨_, sT _ _ a1, small1000 (by rw [List.length_map, List.length_take]; omega), ?_, fun b o e => ?_⟩
        · rw [upd_same, List.take_succ, eT, Option.toList_some, List.map_append]
          rfl
        · rw [upd_ne (ne_of_none e hD)]
          exact sT _ _ (S1 _ _ e)
      refine ⟨T0, _, rfl, SqT.of upd_same, rfl, _, _, rfl, _, _, rfl, rfl, rfl, ?_⟩
      refine ⟨_, rfl, _, rfl, _, rfl, _, _, rfl, rfl, _, _, rfl, rfl, ?_⟩
      refine ⟨_, rfl, ?_⟩
      by_cases c : R[i] ≤ st + O[i]
      · have e : lessOf st R[i] O[i] = R[i] := if_pos c
        rw [e] at fin
        exact if_t (decide_eq_true c) ⟨_, rfl, fin⟩
      · have e : lessOf st R[i] O[i] = st + O[i] := if_neg c
        rw [e] at fin
        exact if_f (decide_eq_false c) ⟨_, rfl, _, rfl, _, _, rfl, rfl, fin⟩
    · rintro H1 ⟨a1, S1⟩
      rw [← sl, List.take_length] at a1
      exact k D H1 hD S1 a1
set_option maxHeartbeats 0 in
theorem ok_lst {f : Addr} {fd fdFs fdSb : FuncData} (F : Fun K "_least_sums" "_least_sums" sLst f fd) (T : LsTxt mg fFs fSb) (FFs : Fun K "_first_sum" "_first_sum" sFst fFs fdFs) (bFs : Binds K fdFs ["told", "first", "second"] []) (FSb : Fun K "_sums_by" "_sums_by" sSby fSb fdSb) (bSb : Binds K fdSb ["row", "step", "onward"] []) : FnOk P w K mg base CX0 2 f fd ["size", "told"] spLst := by
  have GFs : FnOk P w K mg base CX0 1 fFs fdFs ["told", "first", "second"] spFst := ok_fst FFs T
  have GSb : FnOk P w K mg base CX0 1 fSb fdSb ["row", "step", "onward"] spSby := ok_sby FSb T
  obtain ⟨tk, hgr⟩ := T.ground
  refine F.ok scLst (fun vs H Q E h => ?_) (fun cdv A outer s H vs Q E hr h => ?_)
  · obtain ⟨n, t, es, rfl, _⟩ := h
    rfl
  · obtain ⟨n, t, es, rfl, ht, hn, hF, k⟩ := h
    have hr1 : Room 1 _ := hr.mono (by decide)
    refine ⟨_, (pss_cons (ps_set (i := 2) scLst.nd rfl (Or.inr rfl) (pe_op op_cat (pe_listRg rfl (by rfl) T.list (prg_1 (by rfl) T.range (pv 0))) (pe_lst (pa_cons (pe_glob (v := .int (-1)) rfl hgr ⟨_, rfl⟩) pa_nil))))
      (pss_cons (ps_setLc (i := 3) (own := [("first", 4)]) (g := gName 4) (tt := tYes) (by rfl) scLst.nd rfl rfl (sw_true rfl rfl rfl (by decide +kernel)) (pi_list (pv 2)) (blkOk_by (own := [("first", 4)]) (N := ["size", "told", "nodes", "table", "first", "second", "node", "onward", "row"]) (sc := defScope sLst) (by decide +kernel)) (fun _ _ _ _ _ => pg_name (i := 4) scLst.nd rfl (Or.inr rfl)) (fun _ _ _ _ _ => pts_nil) (fun _ _ _ _ _ => by exact (pe_lc (own := [("second", 5)]) (g := gName 5) (tt := tYes) (by rfl) scLst.nd (pi_listK K rfl (pv 2)) (blkOk_by (own := [("second", 5)]) (N := ["size", "told", "nodes", "table", "first", "second", "node", "onward", "row"]) (sc := { kind := .function, names := [(".0", .local), ("first", .cell), ("nodes", .cell), ("told", .cell)], isGenerator := false, isCoroutine := false }) (by decide +kernel)) (fun _ _ _ _ _ => pg_name (i := 5) scLst.nd rfl (Or.inl rfl)) (fun _ _ _ _ _ => pts_nil) (fun _ _ _ _ _ => by exact (pe_call GFs hr1 rfl T.fst FFs.kp bFs .nil pass0 (pa_cons (pv 1) (pa_cons (pv 4) (pa_cons (pv 5) pa_nil))))))))
      (pss_cons (ps_for PassesOwn.never rfl (pi_list (pv 2)) (pg_name (i := 6) scLst.nd rfl (Or.inr rfl)) (pss_cons (ps_set (i := 7) scLst.nd rfl (Or.inr rfl) (pe_ix ix_list (pv 3) (pv 6) (fun _ _ => rfl)))
      (pss_one (ps_setLc (i := 3) (own := [("row", 8)]) (g := gName 8) (tt := tYes) (by rfl) scLst.nd rfl rfl (sw_true rfl rfl rfl (by decide +kernel)) (pi_list (pv 3)) (blkOk_by (own := [("row", 8)]) (N := ["size", "told", "nodes", "table", "first", "second", "node", "onward", "row"]) (sc := defScope sLst) (by decide +kernel)) (fun _ _ _ _ _ => pg_name (i := 8) scLst.nd rfl (Or.inl rfl)) (fun _ _ _ _ _ => pts_nil) (fun _ _ _ _ _ => (pe_call GSb hr1 rfl T.sby FSb.kp bSb .nil pass0 (pa_cons (pv 8) (pa_cons (pe_ix (ix_listK K rfl) (pv 8) (pv 6) (fun _ _ => rfl)) (pa_cons (pv 7) pa_nil)))))))))
      (pss_one (ps_ret (pv 3)))))), ?_⟩
    refine ⟨_, rfl, _, rfl, ⟨by omega, by omega, by omega, by omega, by omega⟩, fun q1 hq1 => ?_⟩
    have s1 := same_new (o := .lst (rgV 0 n)) hq1
    have e1 : upd H q1 (.lst (rgV 0 n)) q1 = some (.lst (rgV 0 n)) := upd_same
    generalize upd H q1 (.lst (rgV 0 n)) = H1 at s1 e1
    refine ⟨by show 1 ≤ sizeLine; decide, fun q2 hq2 => ?_⟩
    have s2 := same_new (o := .lst [V.int (-1)]) hq2
    have e2 : upd H1 q2 (.lst [V.int (-1)]) q2 = some (.lst [V.int (-1)]) := upd_same
    have e1 := s2 _ _ e1
    have S2 := same_tr s1 s2
    generalize upd H1 q2 (.lst [V.int (-1)]) = H2 at S2 e1 e2
    have ln : rgV 0 n ++ [V.int (-1)] = (nodesI n).map V.int := by
      unfold rgV nodesI
      rw [List.map_append, List.map_map, Int.sub_zero, Int.toNat_natCast]
      congr 1
      refine List.map_congr_left fun i _ => ?_
      show V.int (0 + (i : Int)) = V.int (i : Int)
      rw [Int.zero_add]
    refine ⟨q1, q2, _, _, rfl, rfl, e1, e2, by rw [rgV_length, sizeLine_eq]; simp; omega, fun lp hlp => ?_⟩
    rw [ln]
    have s3 := same_new (o := .lst ((nodesI n).map V.int)) hlp
    have e3 : upd H2 lp (.lst ((nodesI n).map V.int)) lp = some (.lst ((nodesI n).map V.int)) := upd_same
    have S3 := same_tr S2 s3
    generalize upd H2 lp (.lst ((nodesI n).map V.int)) = H3 at S3 e3
    have nl := nodesI_len n
    have t3 := S3 _ _ ht
    refine ⟨_, rfl, lp, rfl, ⟨_, SqL.of e3⟩, fun D hD => ?_⟩
    have fts := firstTab_sqr n es
    have ftl : (firstTab n es).length = n + 1 := fts.1
    refine lc_it (walk_list (xs := (nodesI n).map V.int)) (fun i H' => TabAt H' D ((firstTab n es).take i) ∧ Same H3 H') ⟨⟨[], upd_same, rfl, fun i t e z => by cases z⟩, same_new hD⟩ (fun _ _ _ h => SqL.of (h.2 _ _ e3)) ?_ ?_
    · rintro i x H4 H5 hi ⟨B, S4⟩ ⟨rfl, hx⟩
      rw [List.length_map] at hi
      rw [List.getElem?_map, List.getElem?_eq_getElem hi] at hx
      cases hx
      have am : (nodesI n)[i] ∈ nodesI n := List.getElem_mem hi
      generalize ha : (nodesI n)[i] = a at am
      refine ⟨rfl, _, rfl, lp, rfl, ⟨_, SqL.of (S4 _ _ e3)⟩, fun D2 hD2 => ?_⟩
      have er : (firstTab n es)[i]? = some ((nodesI n).map fun b => firstSum es a b) := by
        unfold firstTab
        rw [List.getElem?_map, List.getElem?_eq_getElem hi, ha]
        rfl
      refine lc_it (walk_list (xs := (nodesI n).map V.int)) (fun j H' => H' D2 = some (.lst ((((nodesI n).map fun b => firstSum es a b).take j).map V.int)) ∧ Same H5 H') ⟨upd_same, same_new hD2⟩ (fun _ _ _ h => SqL.of (h.2 _ _ (S4 _ _ e3))) ?_ ?_
      · rintro j x H6 H7 hj ⟨b1, S6⟩ ⟨rfl, hx⟩
        rw [List.length_map] at hj
        rw [List.getElem?_map, List.getElem?_eq_getElem hj] at hx
        cases hx
        have bm : (nodesI n)[j] ∈ nodesI n := List.getElem_mem hj
        refine ⟨rfl, _, rfl, _, rfl, _, rfl, t, es, a, (nodesI n)[j], rfl, S6 _ _ (S4 _ _ t3), fun c d => hF a am _ bm c d, fun H8 s8 => ?_⟩
        refine ⟨_, s8 _ _ b1, small1000 (by rw [List.length_map, List.length_take]; omega), ?_, fun b o e => ?_⟩
        · rw [upd_same, List.take_succ, List.getElem?_map, List.getElem?_eq_getElem hj, List.map_append]
          rfl
        · rw [upd_ne (ne_of_none e hD2)]
          exact s8 _ _ (S6 _ _ e)
      · rintro H6 ⟨b1, S6⟩
        rw [List.length_map, List.take_of_length_le (by rw [List.length_map]; omega)] at b1
        have B6 := B.same S6
        obtain ⟨acc, c1, c2, c3⟩ := B6.push b1 (fun r hr => by
          have := fts.2 r (List.mem_of_mem_take hr)
          intro z
          rw [z] at this
          cases this) (fun z => by have := congrArg List.length z; rw [List.length_map, nl] at this; cases this) (by rw [List.length_take]; omega)
        refine ⟨acc, c1, c2, ?_, fun b o e => ?_⟩
        · rw [List.take_succ, er]
          exact c3
        · rw [upd_ne (ne_of_none e hD)]
          exact S6 _ _ (S4 _ _ e)
    · rintro H4 ⟨B, S4⟩
      rw [List.length_map, nl, List.take_of_length_le (by omega)] at B
      have S5 := same_tr S3 S4
      refine ⟨_, rfl, lp, rfl, ⟨_, SqL.of (S4 _ _ e3)⟩, ?_⟩
      refine for_it (walk_list (xs := (nodesI n).map V.int)) (fun i σ' H' => ∃ (tb : Addr) (v4 v5 v6 v7 v8 : Option V), σ' = [some (.int n), some (.ref t), some (.ref lp), some (.ref tb), v4, v5, v6, v7, v8] ∧ H tb = none ∧ TabAt H' tb (((nodesI n).take i).foldl fwStep (firstTab n es)) ∧ Same H4 H')
        ⟨D, _, _, _, _, _, rfl, none_back S3 hD, B, same_rfl⟩ (fun i σ' H' _ h => by obtain ⟨_, _, _, _, _, _, _, _, _, z⟩ := h; exact SqL.of (z _ _ (S4 _ _ e3))) ?_ ?_
      · rintro i x σ' H5 H6 hi ⟨tb, v4, v5, v6, v7, v8, rfl, htb, B5, S6⟩ ⟨rfl, hx⟩
        rw [List.length_map] at hi
        rw [List.getElem?_map, List.getElem?_eq_getElem hi] at hx
        cases hx
        have am : (nodesI n)[i] ∈ nodesI n := List.getElem_mem hi
        have et : ((nodesI n).take (i + 1)).foldl fwStep (firstTab n es) = fwStep (((nodesI n).take i).foldl fwStep (firstTab n es)) (nodesI n)[i] := by
          rw [List.take_succ, List.getElem?_eq_getElem hi, Option.toList_some, List.foldl_append]
          rfl
        have sq := fold_sqr ((nodesI n).take i) fts fun k hk => nodesI_mem (List.mem_of_mem_take hk)
        obtain ⟨k1, k2⟩ := nodesI_mem am
        generalize (nodesI n)[i] = kk at am et k1 k2
        generalize ((nodesI n).take i).foldl fwStep (firstTab n es) = M at B5 et sq
        obtain ⟨ts, b1, b2, b3⟩ := id B5
        obtain ⟨O, o1, o2, o3⟩ := atI_some sq.1 k1 k2
        obtain ⟨oA, p1, p2, p3⟩ := atI_some (b2.trans sq.1) k1 k2
        have hO := b3 _ _ _ p3 o3
        have aR : atI (ts.map V.ref) kk = some (.ref oA) := by rw [atI_map, p1]; rfl
        refine ⟨_, rfl, _, rfl, tb, _, kk, _, rfl, rfl, SqL.of b1, aR, ?_⟩
        refine ⟨_, rfl, tb, rfl, ⟨_, SqL.of b1⟩, fun D2 hD2 => ?_⟩
        have fl : (fwStep M kk).length = n + 1 := (fwStep_sqr sq k1 k2).1
        refine lc_it (walk_list (xs := ts.map V.ref)) (fun j H' => TabAt H' D2 ((fwStep M kk).take j) ∧ Same H6 H') ⟨⟨[], upd_same, rfl, fun i t e z => by cases z⟩, same_new hD2⟩ (fun _ _ _ h => SqL.of (h.2 _ _ b1)) ?_ ?_
        · rintro j x H7 H8 hj ⟨B7, S8⟩ ⟨rfl, hx⟩
          rw [List.length_map] at hj
          rw [List.getElem?_map, List.getElem?_eq_getElem hj] at hx
          cases hx
          obtain ⟨R, hR⟩ : ∃ r, M[j]? = some r := ⟨_, List.getElem?_eq_getElem (by omega)⟩
          have rm := List.mem_of_getElem? hR
          have rl := sq.2 R rm
          have hr8 := S8 _ _ (b3 j _ R (List.getElem?_eq_getElem hj) hR)
          obtain ⟨st, u1, u2, u3⟩ := atI_some rl k1 k2
          have aS : atI (R.map V.int) kk = some (.int st) := by rw [atI_map, u1]; rfl
          have el : (fwStep M kk)[j]? = some (sumsBy R st O) := by
            unfold fwStep
            rw [List.getElem?_map, hR, o1]
            show some (sumsBy R ((atI R kk).getD 0) O) = _
            rw [u1]
            rfl
          have ol := sq.2 O o2
          refine ⟨rfl, _, rfl, _, rfl, _, rfl, _, _, kk, _, rfl, rfl, SqL.of hr8, aS, _, rfl, ts[j], oA, st, R, O, rfl, hr8, S8 _ _ hO, by omega, by omega, fun q H9 hq s9 e9 => ?_⟩
          have B9 := B7.same s9
          obtain ⟨acc, c1, c2, c3⟩ := B9.push e9 (fun r hr => by
            have := (fwStep_sqr sq k1 k2).2 r (List.mem_of_mem_take hr)
            intro z
            rw [z] at this
            cases this) (fun z => by have := congrArg List.length z; rw [sumsBy_len _ _ _ (by omega), rl] at this; cases this) (by rw [List.length_take]; omega)
          refine ⟨acc, c1, c2, ?_, fun b o e => ?_⟩
          · rw [List.take_succ, el]
            exact c3
          · rw [upd_ne (ne_of_none e hD2)]
            exact s9 _ _ (S8 _ _ e)
        · rintro H7 ⟨B7, S8⟩
          rw [List.length_map, b2, sq.1, List.take_of_length_le (by omega)] at B7
          exact ⟨D2, _, _, _, _, _, rfl, none_back (same_tr S5 S6) hD2, by rw [et]; exact B7, same_tr S6 S8⟩
      · rintro σ' H5 ⟨tb, v4, v5, v6, v7, v8, rfl, htb, B5, S6⟩
        rw [List.length_map, nl, List.take_of_length_le (by omega)] at B5
        exact ⟨_, rfl, k tb H5 htb (same_tr S5 S6) B5⟩
end
end Law

/-! What is checked of walls and links. -/
namespace Law
open PySem PySem.Spec PyProof.Rows L2 Sup
abbrev sCro : Stmt := top 20
abbrev sCnu : Stmt := top 21
abbrev sCli : Stmt := top 22
/-- an error that is due -/
inductive Due where
  | name (y : Str) | taken (y : Str) | num (x : Int) | many (n : Int) | place (x : Int)
  deriving DecidableEq
/-- the way out by it, from any heap of which S is true -/
def DueX (C : Errs) (E : XK) (S : Hp → Prop) : Due → Prop
  | .name y => ∀ (H' : Hp) (d : Addr), S H' → H' d = none → E (.ref C.N) (some d) (upd H' d (.xd [("name", .str y)]))
  | .taken y => ∀ (H' : Hp) (d : Addr), S H' → H' d = none → E (.ref C.T) (some d) (upd H' d (.xd [("name", .str y)]))
  | .num x => ∀ (H' : Hp) (d : Addr), S H' → H' d = none → E (.ref C.B) (some d) (upd H' d (.xd [("value", .int x)]))
  | .many x => ∀ (H' : Hp) (d : Addr), S H' → H' d = none → E (.ref C.M) (some d) (upd H' d (.xd [("count", .int x)]))
  | .place x => ∀ (H' : Hp) (d : Addr), S H' → H' d = none → E (.ref C.P) (some d) (upd H' d (.xd [("place", .int x)]))
theorem DueX.mono {C : Errs} {E : XK} {S S' : Hp → Prop} {b : Due} (h : DueX C E S b) (k : ∀ H', S' H' → S H') : DueX C E S' b := by
  cases b <;> exact fun H' d s hd => h H' d (k H' s) hd
def numDue (top slope : Int) (spans : List Int) : Option Int := if top < 0 then some top else if slope < 0 then some slope else spans.find? fun x => decide (x < 1)
def rowsDue : List Str → List Wal → Option Due
  | _, [] => none
  | acc, w :: r => if badN w.1 = true then some (.name w.1) else if acc.contains w.1 = true then some (.taken w.1) else match numDue w.2.1 w.2.2.1 w.2.2.2 with
    | some x => some (.num x)
    | none => rowsDue (acc ++ [w.1]) r
def linkDue (size : Int) (l : Lnk) : Option Int := if ¬ (0 ≤ l.1 ∧ l.1 < size) then some l.1 else if ¬ (0 ≤ l.2.1 ∧ l.2.1 < size) ∨ l.2.1 = l.1 then some l.2.1 else none
def linksDue (size : Int) (ls : List Lnk) : Option Int := ls.findSome? (linkDue size)
/-- walls that errors may tell -/
def WFit (w : Wal) : Prop := Fit w.1 ∧ Sz w.2.1 ∧ Sz w.2.2.1 ∧ ∀ x ∈ w.2.2.2, Sz x
def LFit (l : Lnk) : Prop := Sz l.1 ∧ Sz l.2.1
structure CkTxt (mg : Str → Option Value) (fCk fCn fCu : Addr) : Prop where
  chk : mg "check_not_negative" = some (.ref fCk)
  ckn : mg "check_name" = some (.ref fCn)
  cnu : mg "_check_numbers" = some (.ref fCu)
def spCnu (K : PySem.W.Frag) (C : Errs) : Sp := fun vs H Q E => ∃ (top slope : Int) (sp : Addr) (spans : List Int), vs = [.int top, .int slope, .ref sp] ∧ SqT K H sp (spans.map V.int) ∧ Sz top ∧ Sz slope ∧ (∀ x ∈ spans, Sz x) ∧
  (∀ x, numDue top slope spans = some x → DueX C E (Same H) (.num x)) ∧ (numDue top slope spans = none → Q .non H)
def spCro (K : PySem.W.Frag) (C : Errs) : Sp := fun vs H Q E => ∃ (p : Addr) (ws : List Wal), vs = [.ref p] ∧ WalsAt K H p ws ∧ ws.length ≤ 400 ∧ (∀ w ∈ ws, WFit w) ∧
  (∀ b, rowsDue [] ws = some b → DueX C E (Same H) b) ∧ (rowsDue [] ws = none → ∀ H', Same H H' → Q .non H')
def spCli (K : PySem.W.Frag) (C : Errs) : Sp := fun vs H Q E => ∃ (p : Addr) (ls : List Lnk) (size : Int), vs = [.ref p, .int size] ∧ LnksAt K H p ls ∧ (∀ l ∈ ls, LFit l) ∧
  (∀ x, linksDue size ls = some x → DueX C E (Same H) (.place x)) ∧ (linksDue size ls = none → Q .non H)
theorem Sz.ok {x : Int} (h : Sz x) : okInt (.int x) := ⟨x, rfl, log_of (by decide) (Nat.lt_of_lt_of_le h (Nat.pow_le_pow_right (by decide) (by decide)))⟩
section
variable {P : Program} {w : World} {K : PySem.W.Frag} {mg : Str → Option Value} {base : Heap} {C : Errs} {fCk fCn fCu : Addr}
theorem scCnu : FnScope ["top", "slope", "spans", "span"] ["top", "slope", "spans"] (defScope sCnu) := ⟨rfl, rfl, rfl, by decide +kernel, rfl, by decide +kernel, by decide +kernel⟩
theorem scCro : FnScope ["rows", "taken", "name", "top", "slope", "spans"] ["rows"] (defScope sCro) := ⟨rfl, rfl, rfl, by decide +kernel, rfl, by decide +kernel, by decide +kernel⟩
theorem scCli : FnScope ["links", "size", "first", "second", "_"] ["links", "size"] (defScope sCli) := ⟨rfl, rfl, rfl, by decide +kernel, rfl, by decide +kernel, by decide +kernel⟩
set_option maxHeartbeats 0 in
theorem ok_cnu {f : Addr} {fd fdCk : FuncData} (F : Fun K "_check_numbers" "_check_numbers" sCnu f fd) (RB : ErrOk P w K mg base "BadNumber" C.B "value" okInt) (FCk : Fun K "check_not_negative" "check_not_negative" sChk fCk fdCk) (bCk : Binds K fdCk ["number"] []) (T : CkTxt mg fCk fCn fCu) :
    FnOk P w K mg base (L2.CX P w) 5 f fd ["top", "slope", "spans"] (spCnu K C) := by
  have GCk : FnOk P w K mg base (L2.CX P w) 4 fCk fdCk ["number"] (spChk C.B) := ok_chk FCk RB
  refine F.okX scCnu (fun vs H Q E h => ?_) (fun cdv A outer s H vs Q E hr h => ?_)
  · obtain ⟨a, b, sp, spans, rfl, _⟩ := h
    rfl
  · obtain ⟨a, b, sp, spans, rfl, hsp, za, zb, zs, h1, h2⟩ := h
    have hr3 : Room 3 _ := hr.mono (by decide)
    have hrc : Room 4 _ := hr
    refine ⟨_, (pss_cons (ps_expr (pe_call (E := E) GCk hrc rfl T.chk FCk.kp bCk .nil (passes_call (takes_of rfl rfl rfl rfl) fun _ _ _ _ z => z) (pa_cons (pv 0) pa_nil)))
      (pss_cons (ps_expr (pe_call (E := E) GCk hrc rfl T.chk FCk.kp bCk .nil (passes_call (takes_of rfl rfl rfl rfl) fun _ _ _ _ z => z) (pa_cons (pv 1) pa_nil)))
      (pss_one (ps_for (passes_of rfl) rfl (pi_tup (pv 2)) (pg_name (i := 3) scCnu.nd rfl (Or.inl rfl)) (pss_one (ps_if (pt_cmpR op_lt (pv 3) pe_int (nomark _)) (pss_one (ps_err RB rfl (takes_of rfl rfl rfl rfl) hr3 (pa_cons (pv 3) pa_nil) rfl)) pss_nil)))))), ?_⟩
    refine ⟨_, rfl, a, rfl, za.t, fun c d hd => h1 a (by unfold numDue; rw [if_pos c]) H d same_rfl hd, fun ca => ?_⟩
    refine ⟨_, rfl, b, rfl, zb.t, fun c d hd => h1 b (by unfold numDue; rw [if_neg (by omega), if_pos c]) H d same_rfl hd, fun cb => ?_⟩
    have en : numDue a b spans = spans.find? fun x => decide (x < 1) := by unfold numDue; rw [if_neg (by omega), if_neg (by omega)]
    rw [en] at h1 h2
    refine ⟨_, rfl, sp, rfl, ⟨_, hsp⟩, ?_⟩
    refine for_it (walk_tup (xs := spans.map V.int)) (fun i σ' H' => (∃ v : Option V, σ' = [some (.int a), some (.int b), some (.ref sp), v]) ∧ H' = H ∧ (spans.take i).find? (fun x => decide (x < 1)) = none) ⟨⟨_, rfl⟩, rfl, rfl⟩ (fun _ _ _ _ h => by rw [h.2.1]; exact hsp) ?_ ?_
    · rintro i x σ' H1 H2 hi ⟨⟨v, rfl⟩, rfl, a1⟩ ⟨rfl, hx⟩
      rw [List.length_map] at hi
      rw [List.getElem?_map, List.getElem?_eq_getElem hi] at hx
      cases hx
      refine ⟨_, rfl, _, _, rfl, rfl, _, rfl, ?_⟩
      by_cases c : spans[i] < 1
      · refine if_t (decide_eq_true c) ⟨_, rfl, ?_⟩
        have e : spans.find? (fun x => decide (x < 1)) = some spans[i] := by
          conv => lhs; rw [← List.take_append_drop i spans]
          rw [List.find?_append, a1, Option.none_or, List.drop_eq_getElem_cons hi, List.find?_cons]
          simp [c]
        exact err_way (zs _ (List.getElem_mem hi)).ok fun d hd => h1 _ e _ d same_rfl hd
      · refine if_f (decide_eq_false c) ⟨⟨_, rfl⟩, rfl, ?_⟩
        rw [List.take_succ, List.getElem?_eq_getElem hi, List.find?_append, a1, Option.none_or]
        simp [c]
    · rintro σ' H1 ⟨⟨v, rfl⟩, rfl, a1⟩
      rw [List.length_map, List.take_length] at a1
      exact h2 a1
set_option maxHeartbeats 0 in
theorem ok_cro {f : Addr} {fd fdCk fdCn fdCu : FuncData} (F : Fun K "_check_rows" "_check_rows" sCro f fd) (RN : ErrOk P w K mg base "BadName" C.N "name" okTxt) (RT : ErrOk P w K mg base "TakenName" C.T "name" okTxt) (RB : ErrOk P w K mg base "BadNumber" C.B "value" okInt)
    (FCk : Fun K "check_not_negative" "check_not_negative" sChk fCk fdCk) (bCk : Binds K fdCk ["number"] []) (FCn : Fun K "check_name" "check_name" sCkn fCn fdCn) (bCn : Binds K fdCn ["name"] []) (FCu : Fun K "_check_numbers" "_check_numbers" sCnu fCu fdCu) (bCu : Binds K fdCu ["top", "slope", "spans"] [])
    (T : CkTxt mg fCk fCn fCu) (TN : NameTxt K mg) : FnOk P w K mg base (L2.CX P w) 6 f fd ["rows"] (spCro K C) := by
  have GCn : FnOk P w K mg base (L2.CX P w) 4 fCn fdCn ["name"] (spCkn C) := ok_ckn FCn RN TN
  have GCu : FnOk P w K mg base (L2.CX P w) 5 fCu fdCu ["top", "slope", "spans"] (spCnu K C) := ok_cnu FCu RB FCk bCk T
  refine F.okX scCro (fun vs H Q E h => ?_) (fun cdv A outer s H vs Q E hr h => ?_)
  · obtain ⟨p, ws, rfl, _⟩ := h
    rfl
  · obtain ⟨p, ws, rfl, hW, l4, hF, h1, h2⟩ := h
    have hr3 : Room 3 _ := hr.mono (by decide)
    have hrc : Room 5 _ := hr
    have hr4 : Room 4 _ := hr.mono (by decide)
    refine ⟨_, (pss_cons (ps_set (i := 1) scCro.nd rfl (Or.inl rfl) pe_dnewK)
      (pss_one (ps_for (passes_of rfl) rfl (pi_list (pv 0)) (pg_tup (by rfl) (pgs_cons (pg_name (i := 2) scCro.nd rfl (Or.inl rfl)) (pgs_cons (pg_name (i := 3) scCro.nd rfl (Or.inl rfl)) (pgs_cons (pg_name (i := 4) scCro.nd rfl (Or.inl rfl)) (pgs_cons (pg_name (i := 5) scCro.nd rfl (Or.inl rfl)) pgs_nil))))) (pss_cons (ps_expr (pe_call (E := E) GCn hr4 rfl T.ckn FCn.kp bCn .nil (passes_call (takes_of rfl rfl rfl rfl) fun _ _ _ _ z => z) (pa_cons (pv 2) pa_nil)))
      (pss_cons (ps_if (pt_cmp (pc_din (hu_of hr) (pv 2) (pv 1))) (pss_one (ps_err RT rfl (takes_of rfl rfl rfl rfl) hr3 (pa_cons (pv 2) pa_nil) rfl)) pss_nil)
      (pss_cons (ps_dput (hu_of hr) (pv 1) (pv 2) pe_bl rfl)
      (pss_one (ps_expr (pe_call (E := E) GCu hrc rfl T.cnu FCu.kp bCu .nil (passes_call (takes_of rfl rfl rfl rfl) fun _ _ _ _ z => z) (pa_cons (pv 3) (pa_cons (pv 4) (pa_cons (pv 5) pa_nil)))))))))))), ?_⟩
    refine fun D hD => ?_
    obtain ⟨ts, t1, t2, t3⟩ := id hW
    have S0 := same_new (o := .dK []) hD
    refine ⟨_, rfl, p, rfl, ⟨_, SqL.of (S0 _ _ t1)⟩, ?_⟩
    refine for_it (walk_list (xs := ts.map V.ref)) (fun i σ' H' => (∃ v2 v3 v4 v5 : Option V, σ' = [some (.ref p), some (.ref D), v2, v3, v4, v5]) ∧ (∃ kv : List (Key × V), H' D = some (.dK kv) ∧ kv.length ≤ i ∧ ∀ y : Str, (valV kv (.inr y)).isSome = ((ws.take i).map (·.1)).contains y) ∧ rowsDue ((ws.take i).map (·.1)) (ws.drop i) = rowsDue [] ws ∧ Same H H')
      ⟨⟨_, _, _, _, rfl⟩, ⟨[], upd_same, Nat.le_refl _, fun y => rfl⟩, rfl, S0⟩ (fun _ _ _ _ h => SqL.of (h.2.2.2 _ _ t1)) ?_ ?_
    · rintro i x σ' H1 H2 hi ⟨⟨v2, v3, v4, v5, rfl⟩, ⟨kv, d1, d2, d3⟩, a1, S1⟩ ⟨rfl, hx⟩
      rw [List.length_map] at hi
      rw [List.getElem?_map, List.getElem?_eq_getElem hi] at hx
      cases hx
      obtain ⟨⟨y, top, slope, spans⟩, hw⟩ : ∃ w, ws[i]? = some w := ⟨_, List.getElem?_eq_getElem (by omega)⟩
      obtain ⟨sp, z1, z2⟩ := (t3 i _ _ (List.getElem?_eq_getElem hi) hw).same S1
      obtain ⟨fy, f1, f2, f3⟩ := hF _ (List.mem_of_getElem? hw)
      have hiw : i < ws.length := by omega
      have ed : ws.drop i = (y, top, slope, spans) :: ws.drop (i + 1) := by
        rw [List.drop_eq_getElem_cons hiw]
        rw [List.getElem?_eq_getElem hiw] at hw
        rw [Option.some.inj hw]
      rw [ed] at a1
      refine ⟨_, _, rfl, SqT.of z1, rfl, _, _, rfl, _, _, rfl, _, _, rfl, _, _, rfl, rfl, ?_⟩
      refine ⟨_, rfl, y, rfl, fy, fun hb H' d s hd => h1 (.name y) (by rw [← a1]; unfold rowsDue; rw [if_pos hb]) H' d (same_tr S1 s) hd, fun hb => ?_⟩
      have hb' : ¬ badN y = true := by rw [hb]; decide
      refine ⟨_, rfl, _, rfl, D, _, rfl, DGet.k (k := .inr y) d1, _, rfl, ?_⟩
      rw [d3]
      by_cases c : ((ws.take i).map (·.1)).contains y = true
      · refine if_t c ⟨_, rfl, ?_⟩
        exact err_way fy.ok fun d hd => h1 (.taken y) (by rw [← a1]; unfold rowsDue; rw [if_neg hb', if_pos c]) _ d S1 hd
      · refine if_f (by simpa using c) ?_
        refine ⟨_, rfl, _, rfl, D, _, rfl, DPut.k (k := .inr y) d1 (small1000 (by omega)), ?_⟩
        have S2 : Same H (upd H2 D (.dK (putK kv (.inr y) (.bl true)))) := fun b o e => (upd_ne (ne_of_none e hD)).trans (S1 _ _ e)
        have nsD : SqT K (upd H2 D (.dK (putK kv (.inr y) (.bl true)))) sp (spans.map V.int) := by
          obtain ⟨sp', y1, y2⟩ := t3 i _ _ (List.getElem?_eq_getElem hi) hw
          have e' := S1 _ _ y1
          rw [z1] at e'
          cases e'
          exact sqT_same y2 S2
        refine ⟨_, rfl, _, rfl, _, rfl, top, slope, sp, spans, rfl, nsD, f1, f2, f3, fun x hx H' d s hd => h1 (.num x) (by rw [← a1]; unfold rowsDue; rw [if_neg hb', if_neg c, hx]) H' d (same_tr S2 s) hd, fun hn => ?_⟩
        have et : (ws.take (i + 1)).map (·.1) = (ws.take i).map (·.1) ++ [y] := by
          rw [List.take_succ, hw, List.map_append]
          rfl
        refine ⟨⟨_, _, _, _, rfl⟩, ⟨_, upd_same, Nat.le_trans (putLen _ _ _) (by omega), fun u => ?_⟩, ?_, S2⟩
        · show (valV (putK kv (.inr y) (.bl true)) (.inr u)).isSome = _
          rw [valV_put, et]
          by_cases e : u = y
          · subst e
            rw [if_pos rfl]
            simp
          · rw [if_neg fun z => e (Sum.inr.inj z), d3]
            simp [e]
        · rw [et, ← a1]
          conv => rhs; unfold rowsDue
          rw [if_neg hb', if_neg c]
          show _ = match numDue top slope spans with | some x => _ | none => _
          rw [hn]
    · rintro σ' H1 ⟨⟨v2, v3, v4, v5, rfl⟩, _, a1, S1⟩
      rw [List.length_map, t2, List.drop_length] at a1
      exact h2 a1.symm H1 S1
set_option maxHeartbeats 0 in
theorem ok_cli {f : Addr} {fd : FuncData} (F : Fun K "_check_links" "_check_links" sCli f fd) (RP : ErrOk P w K mg base "NoPlace" C.P "place" okInt) : FnOk P w K mg base (L2.CX P w) 4 f fd ["links", "size"] (spCli K C) := by
  refine F.okX scCli (fun vs H Q E h => ?_) (fun cdv A outer s H vs Q E hr h => ?_)
  · obtain ⟨p, ls, size, rfl, _⟩ := h
    rfl
  · obtain ⟨p, ls, size, rfl, hL, hF, h1, h2⟩ := h
    have hr3 : Room 3 _ := hr
    refine ⟨_, (pss_one (ps_for (passes_of rfl) rfl (pi_list (pv 0)) (pg_tup (by rfl) (pgs_cons (pg_name (i := 2) scCli.nd rfl (Or.inl rfl)) (pgs_cons (pg_name (i := 3) scCli.nd rfl (Or.inl rfl)) (pgs_cons (pg_name (i := 4) scCli.nd rfl (Or.inl rfl)) (pgs_cons (pg_name (i := 4) scCli.nd rfl (Or.inl rfl)) pgs_nil))))) (pss_cons (ps_if (pt_not (pt_chain op_le op_lt pe_int (pv 2) (pv 1))) (pss_one (ps_err RP rfl (takes_of rfl rfl rfl rfl) hr3 (pa_cons (pv 2) pa_nil) rfl)) pss_nil)
      (pss_one (ps_if (PW.pt (pw_or (pt_not (pt_chain op_le op_lt pe_int (pv 3) (pv 1))) (pw_or1 (pt_cmpR op_eq (pv 3) (pv 2) (nomark _))))) (pss_one (ps_err RP rfl (takes_of rfl rfl rfl rfl) hr3 (pa_cons (pv 3) pa_nil) rfl)) pss_nil))))), ?_⟩
    obtain ⟨ts, t1, t2, t3⟩ := id hL
    refine ⟨_, rfl, p, rfl, ⟨_, SqL.of t1⟩, ?_⟩
    refine for_it (walk_list (xs := ts.map V.ref)) (fun i σ' H' => (∃ v2 v3 v4 : Option V, σ' = [some (.ref p), some (.int size), v2, v3, v4]) ∧ H' = H ∧ linksDue size (ls.take i) = none) ⟨⟨_, _, _, rfl⟩, rfl, rfl⟩ (fun _ _ _ _ h => by rw [h.2.1]; exact SqL.of t1) ?_ ?_
    · rintro i x σ' H1 H2 hi ⟨⟨v2, v3, v4, rfl⟩, rfl, a1⟩ ⟨rfl, hx⟩
      rw [List.length_map] at hi
      rw [List.getElem?_map, List.getElem?_eq_getElem hi] at hx
      cases hx
      obtain ⟨⟨u, v, le, mo⟩, hl⟩ : ∃ l, ls[i]? = some l := ⟨_, List.getElem?_eq_getElem (by omega)⟩
      have z := t3 i _ _ (List.getElem?_eq_getElem hi) hl
      obtain ⟨f1, f2⟩ := hF _ (List.mem_of_getElem? hl)
      have hil : i < ls.length := by omega
      have ed : linksDue size ls = (linkDue size (u, v, le, mo)).or (linksDue size (ls.drop (i + 1))) := by
        conv => lhs; rw [← List.take_append_drop i ls]
        unfold linksDue at a1 ⊢
        rw [List.findSome?_append, a1, Option.none_or, List.drop_eq_getElem_cons hil, List.findSome?_cons]
        rw [List.getElem?_eq_getElem hil] at hl
        rw [Option.some.inj hl]
        cases linkDue size (u, v, le, mo) <;> rfl
      refine ⟨_, _, rfl, z, rfl, _, _, rfl, _, _, rfl, _, _, rfl, _, _, rfl, rfl, ?_⟩
      have er : ∀ {x}, Sz x → linkDue size (u, v, le, mo) = some x → okInt (.int x) ∧ ∀ d, H2 d = none → E (.ref C.P) (some d) (upd H2 d (.xd [("place", .int x)])) := fun {x} hx e => ⟨hx.ok, fun d hd => h1 x (by rw [ed, e]; rfl) _ d same_rfl hd⟩
      refine ⟨_, rfl, _, _, rfl, rfl, _, rfl, ?_⟩
      by_cases c0 : 0 ≤ u
      · refine if_t (decide_eq_true c0) ⟨_, rfl, _, _, rfl, rfl, _, rfl, ?_⟩
        by_cases c1 : u < size
        · refine if_f (by rw [decide_eq_true c1]; rfl) ?_
          have cu : ¬ ¬ (0 ≤ u ∧ u < size) := fun z => z ⟨c0, c1⟩
          have ev : ∀ {x}, x = v → (¬ (0 ≤ v ∧ v < size) ∨ v = u) → linkDue size (u, v, le, mo) = some x := fun {x} e z => by
            unfold linkDue
            rw [if_neg cu, if_pos z, e]
          refine ⟨_, rfl, _, _, rfl, rfl, _, rfl, ?_⟩
          by_cases d0 : 0 ≤ v
          · refine if_t (decide_eq_true d0) ⟨_, rfl, _, _, rfl, rfl, _, rfl, ?_⟩
            by_cases d1 : v < size
            · refine if_f (by rw [decide_eq_true d1]; rfl) ⟨_, rfl, _, rfl, rfl, _, rfl, ?_⟩
              by_cases d2 : v = u
              · refine if_t (by simp [d2]) ⟨_, rfl, ?_⟩
                obtain ⟨y1, y2⟩ := er f2 (ev rfl (.inr d2))
                exact err_way y1 y2
              · refine if_f (by simp [d2]) ⟨⟨_, _, _, rfl⟩, rfl, ?_⟩
                unfold linksDue at a1 ⊢
                rw [List.take_succ, hl, List.findSome?_append, a1, Option.none_or, Option.toList_some, List.findSome?_cons]
                unfold linkDue
                rw [if_neg cu, if_neg (show ¬ (¬ (0 ≤ v ∧ v < size) ∨ v = u) by omega)]
                rfl
            · refine if_t (by rw [decide_eq_false d1]; rfl) ?_
              refine if_t rfl ⟨_, rfl, ?_⟩
              obtain ⟨y1, y2⟩ := er f2 (ev rfl (.inl fun z => d1 z.2))
              exact err_way y1 y2
          · refine if_f (decide_eq_false d0) ⟨_, rfl, ?_⟩
            refine if_t rfl ?_
            refine if_t rfl ⟨_, rfl, ?_⟩
            obtain ⟨y1, y2⟩ := er f2 (ev rfl (.inl fun z => d0 z.1))
            exact err_way y1 y2
        · refine if_t (by rw [decide_eq_false c1]; rfl) ⟨_, rfl, ?_⟩
          obtain ⟨y1, y2⟩ := er f1 (by unfold linkDue; rw [if_pos (fun z => c1 z.2)])
          exact err_way y1 y2
      · refine if_f (decide_eq_false c0) ⟨_, rfl, ?_⟩
        refine if_t rfl ⟨_, rfl, ?_⟩
        obtain ⟨y1, y2⟩ := er f1 (by unfold linkDue; rw [if_pos (fun z => c0 z.1)])
        exact err_way y1 y2
    · rintro σ' H1 ⟨⟨v2, v3, v4, rfl⟩, rfl, a1⟩
      rw [List.length_map, t2, List.take_length] at a1
      exact h2 a1
end
end Law

/-! What is told: of the limits, one for each pair of nodes. -/
namespace Law
open PySem PySem.Spec PyProof.Rows L2 Sup
theorem putE_sub {x e : Edge} {es : List Edge} (h : x ∈ putE es e) : x ∈ es ∨ x = e := by
  unfold putE at h
  split at h
  · obtain ⟨y, hy, rfl⟩ := List.mem_map.mp h
    by_cases c : likeE e y = true
    · rw [if_pos c]
      exact .inr rfl
    · rw [if_neg c]
      exact .inl hy
  · rcases List.mem_append.mp h with h | h
    · exact .inl h
    · exact .inr (List.mem_singleton.mp h)
theorem tell_sub {x e : Edge} {es : List Edge} (h : x ∈ tell es e) : x ∈ es ∨ x = e := by
  unfold tell at h
  split at h
  · exact putE_sub h
  · split at h
    · exact putE_sub h
    · exact .inl h
theorem fold_sub : ∀ (fs es : List Edge) {x : Edge}, x ∈ fs.foldl tell es → x ∈ es ∨ x ∈ fs
  | [], es, x, h => .inl h
  | f :: fs, es, x, h => by
    rcases fold_sub fs (tell es f) h with h | h
    · rcases tell_sub h with h | h
      · exact .inl h
      · exact .inr (h ▸ List.mem_cons_self)
    · exact .inr (List.mem_cons_of_mem _ h)
theorem told_sub {ws : List Wal} {ls : List Lnk} {x : Edge} (h : x ∈ toldOf ws ls) : x ∈ limsOf ws ls := by
  rcases fold_sub _ _ h with h | h
  · cases h
  · exact h
def hasE (es : List Edge) (e : Edge) : Bool := es.any (likeE e)
theorem hasE_find (es : List Edge) (e : Edge) : hasE es e = (es.find? (likeE e)).isSome := by
  unfold hasE
  induction es with
  | nil => rfl
  | cons x es ih =>
    rw [List.any_cons, List.find?_cons]
    cases likeE e x with
    | true => rfl
    | false => rw [Bool.false_or]; exact ih
theorem like_iff {e x : Edge} : likeE e x = true ↔ x.1 = e.1 ∧ x.2.1 = e.2.1 := by
  unfold likeE
  exact decide_eq_true_iff
theorem putE_has {es : List Edge} {e k : Edge} (h : hasE es k = true ∨ likeE k e = true) : hasE (putE es e) k = true := by
  unfold hasE at h ⊢
  unfold putE
  split
  · rename_i c
    rw [List.any_map]
    rcases h with h | h
    · obtain ⟨x, hx, q⟩ := List.any_eq_true.mp h
      refine List.any_eq_true.mpr ⟨x, hx, ?_⟩
      show likeE k (if likeE e x = true then e else x) = true
      by_cases c : likeE e x = true
      · rw [if_pos c]
        have a := like_iff.mp c
        have b := like_iff.mp q
        exact like_iff.mpr ⟨a.1.symm.trans b.1, a.2.symm.trans b.2⟩
      · rw [if_neg c]
        exact q
    · obtain ⟨x, hx, q⟩ := List.any_eq_true.mp c
      refine List.any_eq_true.mpr ⟨x, hx, ?_⟩
      show likeE k (if likeE e x = true then e else x) = true
      rw [if_pos q]
      exact h
  · rw [List.any_append]
    rcases h with h | h
    · rw [h, Bool.true_or]
    · simp [h]
theorem tell_has {es : List Edge} {e k : Edge} (h : hasE es k = true ∨ likeE k e = true) : hasE (tell es e) k = true := by
  unfold tell
  split
  · exact putE_has h
  · rename_i x hx
    split
    · exact putE_has h
    · rcases h with h | h
      · exact h
      · unfold hasE
        have a := like_iff.mp h
        have b := like_iff.mp (List.find?_some hx)
        exact List.any_eq_true.mpr ⟨x, List.mem_of_find?_eq_some hx, like_iff.mpr ⟨b.1.trans a.1, b.2.trans a.2⟩⟩
theorem fold_has : ∀ (fs es : List Edge) {k : Edge}, (hasE es k = true ∨ ∃ e ∈ fs, likeE k e = true) → hasE (fs.foldl tell es) k = true
  | [], es, k, h => by
    rcases h with h | ⟨e, he, _⟩
    · exact h
    · cases he
  | f :: fs, es, k, h => by
    refine fold_has fs (tell es f) ?_
    rcases h with h | ⟨e, he, q⟩
    · exact .inl (tell_has (.inl h))
    · rcases List.mem_cons.mp he with rfl | he
      · exact .inl (tell_has (.inr q))
      · exact .inr ⟨e, he, q⟩
theorem told_has {ws : List Wal} {ls : List Lnk} {k e : Edge} (h : e ∈ limsOf ws ls) (q : likeE k e = true) : (toldOf ws ls).find? (likeE k) ≠ none := by
  have z : hasE (toldOf ws ls) k = true := fold_has _ [] (.inr ⟨e, h, q⟩)
  rw [hasE_find] at z
  intro w
  rw [w] at z
  cases z
theorem ground_mem : ∀ (ts : List Int) (k : Int) {e : Edge}, e ∈ groundN k ts → ∃ (i : Nat) (t : Int), ts[i]? = some t ∧ (e = (-1, k + i, t) ∨ e = (k + i, -1, 0))
  | [], _, _, h => by cases h
  | t :: ts, k, e, h => by
    rcases List.mem_append.mp h with h | h
    · refine ⟨0, t, rfl, ?_⟩
      rw [show k + ((0 : Nat) : Int) = k by omega]
      rcases List.mem_cons.mp h with h | h
      · exact .inl h
      · exact .inr (List.mem_singleton.mp h)
    · obtain ⟨i, u, h1, h2⟩ := ground_mem ts (k + 1) h
      refine ⟨i + 1, u, h1, ?_⟩
      rw [show k + ((i + 1 : Nat) : Int) = k + 1 + i by omega]
      exact h2
theorem ground_in : ∀ (ts : List Int) (k : Int) (i : Nat) {t : Int}, ts[i]? = some t → ((-1 : Int), k + (i : Int), t) ∈ groundN k ts ∧ (k + (i : Int), (-1 : Int), (0 : Int)) ∈ groundN k ts
  | [], _, _, _, h => by cases h
  | x :: ts, k, 0, t, h => by
    cases h
    rw [show k + ((0 : Nat) : Int) = k by omega]
    exact ⟨List.mem_append_left _ List.mem_cons_self, List.mem_append_left _ (List.mem_cons_of_mem _ List.mem_cons_self)⟩
  | x :: ts, k, i + 1, t, h => by
    have z := ground_in ts (k + 1) i (t := t) h
    rw [show k + ((i + 1 : Nat) : Int) = k + 1 + i by omega]
    exact ⟨List.mem_append_right _ z.1, List.mem_append_right _ z.2⟩
theorem span_mem (sl : Int) : ∀ (xs : List Int) (p : Int) {e : Edge}, e ∈ spanN sl p xs → ∃ (i : Nat) (x : Int), xs[i]? = some x ∧ (e = (p + i, p + i + 1, sl * x) ∨ e = (p + i + 1, p + i, sl * x))
  | [], _, _, h => by cases h
  | t :: ts, k, e, h => by
    rcases List.mem_append.mp h with h | h
    · refine ⟨0, t, rfl, ?_⟩
      rw [show k + ((0 : Nat) : Int) = k by omega]
      rcases List.mem_cons.mp h with h | h
      · exact .inl h
      · exact .inr (List.mem_singleton.mp h)
    · obtain ⟨i, u, h1, h2⟩ := span_mem sl ts (k + 1) h
      refine ⟨i + 1, u, h1, ?_⟩
      rw [show k + ((i + 1 : Nat) : Int) = k + 1 + i by omega]
      exact h2
theorem slope_mem : ∀ (ws : List Wal) (p : Int) {e : Edge}, e ∈ slopeN p ws → ∃ (a : Int) (w : Wal) (x : Int), w ∈ ws ∧ x ∈ w.2.2.2 ∧ p ≤ a ∧ a + 1 < p + places ws ∧ (e = (a, a + 1, w.2.2.1 * x) ∨ e = (a + 1, a, w.2.2.1 * x))
  | [], _, _, h => by cases h
  | w :: ws, p, e, h => by
    have pl : ((places (w :: ws) : Nat) : Int) = (w.2.2.2.length : Int) + 1 + places ws := by
      show ((w.many + places ws : Nat) : Int) = _
      have : w.many = w.2.2.2.length + 1 := rfl
      omega
    have wm : ((w.many : Nat) : Int) = (w.2.2.2.length : Int) + 1 := rfl
    rcases List.mem_append.mp h with h | h
    · obtain ⟨i, x, h1, h2⟩ := span_mem _ _ _ h
      have hi := (List.getElem?_eq_some_iff.mp h1).1
      exact ⟨p + i, w, x, List.mem_cons_self, List.mem_of_getElem? h1, by omega, by omega, h2⟩
    · obtain ⟨a, w', x, h1, h2, h3, h4, h5⟩ := slope_mem ws (p + w.many) h
      exact ⟨a, w', x, List.mem_cons_of_mem _ h1, h2, by omega, by omega, h5⟩
theorem link_mem {ls : List Lnk} {e : Edge} (h : e ∈ ls.flatMap linkE) : ∃ l ∈ ls, e = (l.1, l.2.1, l.2.2.2) ∨ e = (l.2.1, l.1, -l.2.2.1) := by
  obtain ⟨l, hl, h⟩ := List.mem_flatMap.mp h
  refine ⟨l, hl, ?_⟩
  rcases List.mem_cons.mp h with h | h
  · exact .inl h
  · exact .inr (List.mem_singleton.mp h)
theorem links_ok {n : Int} {ls : List Lnk} (h : linksDue n ls = none) {l : Lnk} (hl : l ∈ ls) : (0 ≤ l.1 ∧ l.1 < n) ∧ (0 ≤ l.2.1 ∧ l.2.1 < n) ∧ l.2.1 ≠ l.1 := by
  unfold linksDue at h
  have z := List.findSome?_eq_none_iff.mp h l hl
  unfold linkDue at z
  split at z
  · cases z
  · split at z
    · cases z
    · rename_i h1 h2
      exact ⟨Classical.not_not.mp h1, Classical.not_not.mp fun w => h2 (.inl w), fun w => h2 (.inr w)⟩
theorem lims_cases {ws : List Wal} {ls : List Lnk} {e : Edge} (h : e ∈ limsOf ws ls) :
    (∃ (i : Nat) (t : Int), (topsOf ws)[i]? = some t ∧ (e = (-1, (i : Int), t) ∨ e = ((i : Int), -1, 0))) ∨
    (∃ (a : Int) (w : Wal) (x : Int), w ∈ ws ∧ x ∈ w.2.2.2 ∧ 0 ≤ a ∧ a + 1 < places ws ∧ (e = (a, a + 1, w.2.2.1 * x) ∨ e = (a + 1, a, w.2.2.1 * x))) ∨
    (∃ l ∈ ls, e = (l.1, l.2.1, l.2.2.2) ∨ e = (l.2.1, l.1, -l.2.2.1)) := by
  unfold limsOf at h
  rcases List.mem_append.mp h with h | h
  · rcases List.mem_append.mp h with h | h
    · obtain ⟨i, t, h1, h2⟩ := ground_mem _ _ h
      rw [Int.zero_add] at h2
      exact .inl ⟨i, t, h1, h2⟩
    · obtain ⟨a, w, x, h1, h2, h3, h4, h5⟩ := slope_mem _ _ h
      exact .inr (.inl ⟨a, w, x, h1, h2, h3, by omega, h5⟩)
  · exact .inr (.inr (link_mem h))
theorem tops_places (ws : List Wal) : (topsOf ws).length = places ws := (tops_len ws).trans (spots_places ws)
theorem told_nodes {ws : List Wal} {ls : List Lnk} (h : linksDue (places ws) ls = none) : inNodes (places ws) (toldOf ws ls) := fun e he => by
  have tp := tops_places ws
  rcases lims_cases (told_sub he) with ⟨i, t, h1, h2⟩ | ⟨a, w, x, _, _, h3, h4, h5⟩ | ⟨l, hl, h2⟩
  · have hi := (List.getElem?_eq_some_iff.mp h1).1
    rcases h2 with rfl | rfl
    · exact ⟨⟨by show (-1 : Int) ≤ -1; decide, by show (-1 : Int) < _; omega⟩, by show (-1 : Int) ≤ (i : Int); omega, by show (i : Int) < _; omega⟩
    · exact ⟨⟨by show (-1 : Int) ≤ (i : Int); omega, by show (i : Int) < _; omega⟩, by show (-1 : Int) ≤ -1; decide, by show (-1 : Int) < _; omega⟩
  · rcases h5 with rfl | rfl
    · exact ⟨⟨by show -1 ≤ a; omega, by show a < _; omega⟩, by show -1 ≤ a + 1; omega, by show a + 1 < _; omega⟩
    · exact ⟨⟨by show -1 ≤ a + 1; omega, by show a + 1 < _; omega⟩, by show -1 ≤ a; omega, by show a < _; omega⟩
  · obtain ⟨⟨a1, a2⟩, ⟨b1, b2⟩, _⟩ := links_ok h hl
    rcases h2 with rfl | rfl
    · exact ⟨⟨by show -1 ≤ l.1; omega, a2⟩, by show -1 ≤ l.2.1; omega, b2⟩
    · exact ⟨⟨by show -1 ≤ l.2.1; omega, b2⟩, by show -1 ≤ l.1; omega, a2⟩
theorem told_full (ws : List Wal) (ls : List Lnk) : Full (places ws) (toldOf ws ls) := fun a ha b hb hab hn => by
  have tp := tops_places ws
  obtain ⟨a1, a2⟩ := nodesI_mem ha
  obtain ⟨b1, b2⟩ := nodesI_mem hb
  have has : ∀ c : Int, 0 ≤ c → c < places ws → ((-1 : Int), c, (topsOf ws).getD c.toNat 0) ∈ limsOf ws ls ∧ (c, (-1 : Int), (0 : Int)) ∈ limsOf ws ls := fun c c0 c1 => by
    have hc : c.toNat < (topsOf ws).length := by omega
    have z := ground_in (topsOf ws) 0 c.toNat (List.getElem?_eq_getElem hc)
    rw [show (0 : Int) + (c.toNat : Int) = c by omega] at z
    unfold limsOf
    rw [List.getD_eq_getElem?_getD, List.getElem?_eq_getElem hc]
    exact ⟨List.mem_append_left _ (List.mem_append_left _ z.1), List.mem_append_left _ (List.mem_append_left _ z.2)⟩
  by_cases c : 0 ≤ b
  · exact told_has (has b c b2).1 (like_iff.mpr ⟨rfl, rfl⟩)
  · have eb : b = -1 := by omega
    subst eb
    exact absurd hn (told_has (has a (by omega) a2).2 (like_iff.mpr ⟨rfl, rfl⟩))
/-- a shape keeps every limit -/
def ShapeOf (pi : Int → Int) (ws : List Wal) (ls : List Lnk) : Prop := ∀ e ∈ limsOf ws ls, pi e.2.1 - pi e.1 ≤ e.2.2
end Law


/-! What is told is the least of the limits. -/
namespace Law
theorem like_tr {a b c : Edge} (h : likeE a b = true) (h' : likeE b c = true) : likeE a c = true := by
  have x := like_iff.mp h
  have y := like_iff.mp h'
  exact like_iff.mpr ⟨y.1.trans x.1, y.2.trans x.2⟩
theorem like_sy {a b : Edge} (h : likeE a b = true) : likeE b a = true := by
  have x := like_iff.mp h
  exact like_iff.mpr ⟨x.1.symm, x.2.symm⟩
theorem like_rf (a : Edge) : likeE a a = true := like_iff.mpr ⟨rfl, rfl⟩
/-- one limit for each pair -/
def UniqE (es : List Edge) : Prop := ∀ x ∈ es, ∀ y ∈ es, likeE x y = true → x = y
/-- one that is no greater stands there -/
def LessE (es : List Edge) (k : Edge) : Prop := ∃ x ∈ es, likeE k x = true ∧ x.2.2 ≤ k.2.2
theorem putE_uniq {es : List Edge} {e : Edge} (h : UniqE es) : UniqE (putE es e) := fun x hx y hy q => by
  unfold putE at hx hy
  split at hx
  · rename_i c
    rw [if_pos c] at hy
    obtain ⟨x0, hx0, rfl⟩ := List.mem_map.mp hx
    obtain ⟨y0, hy0, rfl⟩ := List.mem_map.mp hy
    by_cases cx : likeE e x0 = true
    · rw [if_pos cx] at q ⊢
      by_cases cy : likeE e y0 = true
      · rw [if_pos cy]
      · rw [if_neg cy] at q
        exact absurd q cy
    · rw [if_neg cx] at q ⊢
      by_cases cy : likeE e y0 = true
      · rw [if_pos cy] at q
        exact absurd (like_sy q) cx
      · rw [if_neg cy] at q ⊢
        exact h x0 hx0 y0 hy0 q
  · rename_i c
    rw [if_neg c] at hy
    have no : ∀ z ∈ es, ¬ likeE e z = true := fun z hz w => c (List.any_eq_true.mpr ⟨z, hz, w⟩)
    rcases List.mem_append.mp hx with hx1 | hx1
    · rcases List.mem_append.mp hy with hy | hy
      · exact h x hx1 y hy q
      · rw [List.mem_singleton] at hy
        subst hy
        exact absurd (like_sy q) (no x hx1)
    · rw [List.mem_singleton] at hx1
      subst hx1
      rcases List.mem_append.mp hy with hy | hy
      · exact absurd q (no y hy)
      · rw [List.mem_singleton] at hy
        exact hy.symm
theorem tell_uniq {es : List Edge} {e : Edge} (h : UniqE es) : UniqE (tell es e) := by
  unfold tell
  split
  · exact putE_uniq h
  · split
    · exact putE_uniq h
    · exact h
theorem putE_self (es : List Edge) (e : Edge) : e ∈ putE es e := by
  unfold putE
  split
  · rename_i c
    obtain ⟨x, hx, q⟩ := List.any_eq_true.mp c
    exact List.mem_map.mpr ⟨x, hx, if_pos q⟩
  · exact List.mem_append_right _ List.mem_cons_self
theorem tell_less {es : List Edge} {e k : Edge} (hu : UniqE es) (h : LessE es k ∨ k = e) : LessE (tell es e) k := by
  unfold tell
  split
  · rename_i hn
    rcases h with ⟨x, hx, h1, h2⟩ | rfl
    · refine ⟨x, ?_, h1, h2⟩
      unfold putE
      have : ¬ es.any (likeE e) = true := fun z => by
        have := hasE_find es e
        unfold hasE at this
        rw [z, hn] at this
        cases this
      rw [if_neg this]
      exact List.mem_append_left _ hx
    · exact ⟨_, putE_self _ _, like_rf _, Int.le_refl _⟩
  · rename_i x hx
    have hxm := List.mem_of_find?_eq_some hx
    have hxl := List.find?_some hx
    split
    · rename_i c
      rcases h with ⟨y, hy, h1, h2⟩ | rfl
      · by_cases ce : likeE e y = true
        · have : x = y := hu x hxm y hy (like_tr (like_sy hxl) ce)
          subst this
          exact ⟨e, putE_self _ _, like_tr h1 (like_sy ce), by omega⟩
        · refine ⟨y, ?_, h1, h2⟩
          unfold putE
          rw [if_pos (List.any_eq_true.mpr ⟨x, hxm, hxl⟩)]
          exact List.mem_map.mpr ⟨y, hy, if_neg ce⟩
      · exact ⟨_, putE_self _ _, like_rf _, Int.le_refl _⟩
    · rename_i c
      rcases h with h | rfl
      · exact h
      · exact ⟨x, hxm, hxl, by omega⟩
theorem fold_less : ∀ (fs es : List Edge) {k : Edge}, UniqE es → (LessE es k ∨ k ∈ fs) → LessE (fs.foldl tell es) k
  | [], _, _, _, h => h.elim id fun z => by cases z
  | f :: fs, es, k, hu, h => by
    refine fold_less fs (tell es f) (tell_uniq hu) ?_
    rcases h with h | h
    · exact .inl (tell_less hu (.inl h))
    · rcases List.mem_cons.mp h with rfl | h
      · exact .inl (tell_less hu (.inr rfl))
      · exact .inr h
theorem told_less {ws : List Wal} {ls : List Lnk} {e : Edge} (h : e ∈ limsOf ws ls) : LessE (toldOf ws ls) e := fold_less _ [] (fun x hx => by cases hx) (.inr h)
/-- a shape of what is told is a shape of all limits -/
theorem told_shape {pi : Int → Int} {ws : List Wal} {ls : List Lnk} (h : ∀ e ∈ toldOf ws ls, pi e.2.1 - pi e.1 ≤ e.2.2) : ShapeOf pi ws ls := fun e he => by
  obtain ⟨x, hx, h1, h2⟩ := told_less he
  have z := h x hx
  have y := like_iff.mp h1
  rw [y.1, y.2] at z
  omega
end Law

namespace Sup
open PySem PySem.Spec PyProof.Rows L2
/-! an own error with a list in its field, ready to be raised and caught -/
structure ErrOkL (P : Program) (w : World) (K : PySem.W.Frag) (mg : Str → Option Value) (base : Heap) (nm : Str) (C : Addr) (fl : Str) : Prop where
  oex : OexC K C
  xf : XfC K C
  g : mg nm = some (.ref C)
  no : PySem.W.findIn K (.ref C) fl = some none
  te : PySem.W.exmOne K (.ref C) (.ref C) = some true
  run : ∃ (f : Addr) (fd : FuncData), PySem.W.findIn K (.ref C) "__init__" = some (some (.ref f)) ∧ PySem.W.typeIn K (.ref f) = some (.type "function") ∧
    FnOk P w K mg base CX0 2 f fd ["self", fl] (spErrL C fl) ∧ Binds K fd ["self", fl] []
section
variable {X : Cx} {nm : Str} {C : Addr} {fl : Str} {e : Expr} {ta : TA} {p pos pos2 : Pos} {W : WX}
def tErrL (C : Addr) (fl : Str) (ta : TA) (W : WX) : TS := fun _ σ H => tMkO C (spErrL C fl) [] ta σ H fun cls d H' => W cls d σ H'
theorem ps_errL (R : ErrOkL X.prog X.w X.K X.mg X.base nm C fl) (hc : X.calm = true) (tk : Takes X W) (hr : Room 3 X.A) (ha : PA X [e] ta) (hg : Gl X nm)
    (hdb : (nm == ("__debug__" : Str)) = false := by decide) (he : starEach [e] X.env = (false, eval e X.env) :: starEach [] X.env := by rfl) (hpl : (backTo pos (starEach [] X.env)).any (·.1) = false := by rfl) :
    PS X (.Raise (some (.Call (.Name nm p) [e] [] pos)) none pos2) (tErrL C fl ta W) := by
  obtain ⟨f, fd, h1, h2, h3, h4⟩ := R.run
  exact ps_raise hc tk (pmk_oex R.oex h1 h2 h3 hr h4 .nil pass0 hg R.g ha hdb he hpl)
theorem err_wayL {H1 : Hp} {l : Addr} {xs : List V} {Q : XK} (hl : H1 l = some (.lst xs)) (h60 : xs.length ≤ 60) (hs : Shown H1 xs)
    (h : ∀ c d, H1 c = none → (upd H1 c (.lst xs)) d = none → Q (.ref C) (some d) (upd (upd H1 c (.lst xs)) d (.xd [(fl, .ref c)]))) :
    [V.ref l].length ≤ 1000 ∧ ∀ a, H1 a = none → spErrL C fl (.ref a :: ([V.ref l] ++ [])) (upd H1 a (exo a C none))
      (fun r H2 => r = .non ∧ ∃ (d : Addr) (fs : List (Str × V)), H2 a = some (exo a C (some d)) ∧ H2 d = some (exd d fs) ∧ H1 d = none ∧ Q (.ref C) (some d) (upd (del H2 a) d (.xd fs))) (fun _ _ _ => False) := by
  refine ⟨by show 1 ≤ 1000; omega, fun a hn => ⟨a, l, xs, rfl, upd_same, by rw [upd_ne (ne_of_none hl hn)]; exact hl, h60, fun v hv => ?_, fun c dx hc hdx n1 n2 n3 => ⟨rfl, dx, _, upd_same, by rw [upd_ne n1, upd_same], ?_, ?_⟩⟩⟩
  · rcases hs v hv with z | ⟨t, ns, e, ht, r⟩
    · exact .inl z
    · exact .inr ⟨t, ns, e, by rw [upd_ne (ne_of_none ht hn)]; exact ht, r⟩
  · rw [upd_ne n1] at hdx
    exact hdx
  · have hc1 : H1 c = none := by
      rw [upd_ne n2] at hc
      exact hc
    have hd1 : H1 dx = none := by
      rw [upd_ne n1] at hdx
      exact hdx
    have e : upd (del (upd (upd (upd (upd H1 a (exo a C none)) c (.lst xs)) dx (exd dx [(fl, .ref c)])) a (exo a C (some dx))) a) dx (.xd [(fl, .ref c)]) = upd (upd H1 c (.lst xs)) dx (.xd [(fl, .ref c)]) := by
      funext b
      by_cases hb : b = dx
      · rw [hb, upd_same, upd_same]
      · rw [upd_ne hb, upd_ne hb]
        by_cases hba : b = a
        · rw [hba, del_same, upd_ne (Ne.symm n2), hn]
        · rw [del_ne hba, upd_ne hba, upd_ne hb]
          by_cases hbc : b = c
          · rw [hbc, upd_same, upd_same]
          · rw [upd_ne hbc, upd_ne hbc, upd_ne hba]
    rw [e]
    exact h c dx hc1 (by rw [upd_ne n3]; exact hd1)
end
end Sup

/-! (x, ..) * 0 and * 1. -/
namespace TupM
open PySem PySem.Spec PyProof.Rows L2
theorem tuple_mul1 (l : Addr) (items : Array Value) (n : Nat) (dd : Option Addr) (sl : Array (Option Value)) (u : Tok) :
    Meets (Builtin.«tuple.__mul__» ⟨[.ref l, .int 1 u], []⟩) (fun _ R s => s.heap.get? l = some { cls := .type "tuple", dict := dd, data := .seq items n, slots := sl } ∧ R (.ok (.ret (Value.ref l))) s) :=
  .of_wp fun prog w A R s h => by
    obtain ⟨hp, g, d, tk, os⟩ := s
    obtain ⟨hl, h⟩ := h
    have f1 := AutoSeq1.idx_int
    wp_walk using wpAny_loadPart' hl
    exact ⟨_, rfl, h⟩
theorem tuple_mul0 (l : Addr) (items : Array Value) (n : Nat) (dd : Option Addr) (sl : Array (Option Value)) (u : Tok) (c1 : items.isEmpty = false) :
    Meets (Builtin.«tuple.__mul__» ⟨[.ref l, .int 0 u], []⟩) (fun _ R s => s.heap.get? l = some { cls := .type "tuple", dict := dd, data := .seq items n, slots := sl } ∧
      R (.ok (.ret (Value.ref s.heap.objs.size))) { s with heap := s.heap.push { cls := Value.type "tuple", data := Data.seq #[] }, toks := s.toks }) :=
  .of_wp fun prog w A R s h => by
    obtain ⟨hp, g, d, tk, os⟩ := s
    obtain ⟨hl, h⟩ := h
    have f1 := AutoSeq1.idx_int
    wp_walk using wpAny_loadPart' hl
    exact ⟨_, rfl, h⟩
def rRep1 (K : PySem.W.Frag) : R2 := fun x y H Q => ∃ l xs, x = .ref l ∧ y = .int 1 ∧ SqT K H l xs ∧ Q (.ref l) H
def rRep0 (K : PySem.W.Frag) : R2 := fun x y H Q => ∃ l xs, x = .ref l ∧ y = .int 0 ∧ SqT K H l xs ∧ xs ≠ [] ∧ ∀ p, H p = none → Q (.ref p) (upd H p (.tup []))
section
variable {X : Cx}
theorem op_rep1 : OpR X (binaryOp .Mult) (rRep1 X.K) := by
  intro pins s σ H x y v u Q I rx ry h
  obtain ⟨l, xs, rfl, rfl, hT, q⟩ := h
  cases rx
  obtain ⟨t, rfl⟩ := ry
  obtain ⟨its, r, ⟨⟨cls, dd, data, sl⟩, ho, hc, n, hd⟩, hs⟩ := I.tuple hT
  simp only at hc hd
  subst hc hd
  exact wpAny_binaryOp_repeat_ref (T := "tuple") (U := "int") (by decide) ⟨_, ho, rfl⟩ (fun s' => typeIs_int s' 1 t) noFill_tuple_mul F.fills_int_mul F.slot_int_rmul repeat_tuple F.slot_int_index.lookup
    (call_meets F.slot_int_rmul (typeIs_int s 1 t) F.entry_int_rmul (F.args_int_rmul_2 _ _) (int_rmul_tuple 1 t l its.toArray n dd sl)
      ⟨ho, rfl, ⟨_, ho, rfl⟩, call_meets F.slot_tuple_mul ⟨_, ho, rfl⟩ F.entry_tuple_mul (F.args_tuple_mul_2 _ _) (tuple_mul1 l its.toArray n dd sl t) ⟨ho, ⟨.ref l, H, I, rfl, q⟩⟩⟩)
theorem op_rep0 : OpR X (binaryOp .Mult) (rRep0 X.K) := by
  intro pins s σ H x y v u Q I rx ry h
  obtain ⟨l, xs, rfl, rfl, hT, hne, q⟩ := h
  cases rx
  obtain ⟨t, rfl⟩ := ry
  obtain ⟨its, r, ⟨⟨cls, dd, data, sl⟩, ho, hc, n, hd⟩, hs⟩ := I.tuple hT
  simp only at hc hd
  subst hc hd
  have hi : its.toArray.isEmpty = false := by
    cases its with
    | nil => cases r; exact absurd rfl hne
    | cons a b => rfl
  refine wpAny_binaryOp_repeat_ref (T := "tuple") (U := "int") (by decide) ⟨_, ho, rfl⟩ (fun s' => typeIs_int s' 0 t) noFill_tuple_mul F.fills_int_mul F.slot_int_rmul repeat_tuple F.slot_int_index.lookup
    (call_meets F.slot_int_rmul (typeIs_int s 0 t) F.entry_int_rmul (F.args_int_rmul_2 _ _) (int_rmul_tuple 0 t l its.toArray n dd sl)
      ⟨ho, rfl, ⟨_, ho, rfl⟩, call_meets F.slot_tuple_mul ⟨_, ho, rfl⟩ F.entry_tuple_mul (F.args_tuple_mul_2 _ _) (tuple_mul0 l its.toArray n dd sl t hi) ⟨ho, ?_⟩⟩)
  refine ⟨.ref s.heap.objs.size, _, I.laid (t' := s.toks) (o := .tup []) (fun b ob q => Heap.get?_push_of_some _ q) (Nat.le_refl _) ?_, rfl, q _ (I.hok.fresh (Nat.le_refl _))⟩
  exact ⟨by decide, [], .nil, IsTup.new _ _⟩
theorem op_repA : OpR X (binaryOp .Mult) (fun x y H Q => rRepT X.K x y H Q ∨ rRep1 X.K x y H Q ∨ rRep0 X.K x y H Q) := op_repT.or (op_rep1.or op_rep0)
/-- (1,) * n: a tuple of n ones -/
def rOnes (K : PySem.W.Frag) : R2 := fun x y H Q => ∃ l n, x = .ref l ∧ y = .int (n : Nat) ∧ n ≤ 1000 ∧ SqT K H l [.int 1] ∧ ∀ p H', SqT K H' p (List.replicate n (V.int 1)) → (∀ b o, H b = some o → H' b = some o) → Q (.ref p) H'
theorem op_ones : OpR X (binaryOp .Mult) (rOnes X.K) := by
  intro pins s σ H x y v u Q I rx ry h
  obtain ⟨l, n, rfl, rfl, hn, hT, q⟩ := h
  refine op_repA pins s σ H _ _ v u Q I rx ry ?_
  match n, hn, q with
  | 0, _, q => exact .inr (.inr ⟨l, _, rfl, rfl, hT, by decide, fun p hp => q p _ (SqT.of upd_same) fun b o e => by rw [upd_ne (ne_of_none e hp)]; exact e⟩)
  | 1, _, q => exact .inr (.inl ⟨l, _, rfl, rfl, hT, q l H hT fun _ _ e => e⟩)
  | n + 2, hn, q =>
    refine .inl ⟨l, ((n + 2 : Nat) : Int), _, rfl, rfl, hT, by decide, by omega, by omega, by decide, fun p hp => q p _ (SqT.of ?_) fun b o e => by rw [upd_ne (ne_of_none e hp)]; exact e⟩
    rw [upd_same, Int.toNat_natCast]
    congr 2
    induction n + 2 with
    | zero => rfl
    | succ m ih => rw [List.replicate_succ, List.flatten_cons, ih]; rfl
end
end TupM

/-! Site: what is made of walls and links. -/
namespace Law
open PySem PySem.Spec PyProof.Rows L2 Sup
abbrev sSini : Stmt := inClass (top 19) 0
theorem pe_tupleOfK (K : PySem.W.Frag) {X : Cx} {a : Expr} {ta : TE} {p pos : Pos} (h : X.K = K) (hg : Gl X "tuple") (hm : X.mg "tuple" = none) (ha : PE X a ta) (na : starEach [a] X.env = (false, eval a X.env) :: starEach [] X.env := by rfl) :
    PE X (.Call (.Name "tuple" p) [a] [] pos) (tThen ta (kTup K)) := h ▸ pe_tupleOf hg hm ha na
def keyS (s : Str × Int) : List Key := [.inr s.1, .inl s.2]
/-- the places of the spots -/
def PlcAt (H : Hp) (p : Addr) (ss : List (Str × Int)) : Prop := ∃ kv : List (List Key × V), H p = some (.dT kv) ∧ kv.length ≤ ss.length ∧ (∀ (m : Nat) (s : Str × Int), ss[m]? = some s → valV kv (keyS s) = some (.int (m : Nat))) ∧ ∀ s, s ∉ ss → valV kv (keyS s) = none
/-- walls or links as they are passed: a list or a tuple of tuples -/
def WalsIn (K : PySem.W.Frag) (H : Hp) (p : Addr) (ws : List Wal) : Prop := ∃ ts : List Addr, ItSeq.Sq K H p (ts.map V.ref) ∧ ts.length = ws.length ∧ ∀ (i : Nat) (t : Addr) (w : Wal), ts[i]? = some t → ws[i]? = some w → WalT K H t w
def LnksIn (K : PySem.W.Frag) (H : Hp) (p : Addr) (ls : List Lnk) : Prop := ∃ ts : List Addr, ItSeq.Sq K H p (ts.map V.ref) ∧ ts.length = ls.length ∧ ∀ (i : Nat) (t : Addr) (l : Lnk), ts[i]? = some t → ls[i]? = some l → LnkT K H t l
def SiteAt (K : PySem.W.Frag) (CS : Addr) (ws : List Wal) (ls : List Lnk) (H : Hp) (r : Addr) : Prop := ∃ (dx : Addr) (fs : List (Str × V)) (pr pl ps pd pt : Addr), H r = some (.ins CS dx fs) ∧
  (fs.lookup ("_rows" : Str) = some (.ref pr) ∧ WalsAt K H pr ws) ∧ (fs.lookup ("_links" : Str) = some (.ref pl) ∧ LnksAt K H pl ls) ∧ (fs.lookup ("_spots" : Str) = some (.ref ps) ∧ RowsAt H ps (spotsOf ws)) ∧ (fs.lookup ("_places" : Str) = some (.ref pd) ∧ PlcAt H pd (spotsOf ws)) ∧
  (fs.lookup ("_tops" : Str) = some (.ref pt) ∧ H pt = some (.lst ((topsOf ws).map V.int))) ∧ fs.lookup ("size" : Str) = some (.int (places ws : Nat)) ∧ (∀ m : Str, m ∉ (["_rows", "_links", "_spots", "_places", "_tops", "size", "_told", "_limits"] : List Str) → fs.lookup m = none) ∧
  ∃ ptd plm : Addr, fs.lookup ("_told" : Str) = some (.ref ptd) ∧ H ptd = some (.dT (kvT (toldOf ws ls))) ∧ fs.lookup ("_limits" : Str) = some (.ref plm) ∧ TabAt H plm (leastSums (places ws) (toldOf ws ls))
/-- what is new since H (and x), and all tuples -/
structure NewIn (x : Addr) (H H' Hs : Hp) : Prop where
  all : ∀ b o, H' b = some o → Hs b = some o
  new : ∀ b o, (H b = none ∨ b = x) → H' b = some o → Hs b = some o
  tup : ∀ b xs, H' b = some (.tup xs) → Hs b = some (.tup xs)
  frz : ∀ b o xs, H' b = some (.frz o (.tup xs)) → Hs b = some (.frz o (.tup xs))
theorem NewIn.sqT {K : PySem.W.Frag} {x : Addr} {H H' Hs : Hp} (n : NewIn x H H' Hs) {a : Addr} {xs : List V} (h : SqT K H' a xs) : SqT K Hs a xs := by
  rcases h with (h | ⟨o, h⟩) | h
  · exact .inl (.inl (n.tup _ _ h))
  · exact .inl (.inr ⟨o, n.frz _ _ _ h⟩)
  · exact .inr h
theorem WalT.newIn {K : PySem.W.Frag} {x : Addr} {H H' Hs : Hp} (n : NewIn x H H' Hs) {t : Addr} {w : Wal} (h : WalT K H' t w) : WalT K Hs t w := by
  obtain ⟨sp, h1, h2⟩ := h
  exact ⟨sp, n.tup _ _ h1, n.sqT h2⟩
theorem WalsAt.newIn {K : PySem.W.Frag} {x : Addr} {H H' Hs : Hp} (n : NewIn x H H' Hs) {p : Addr} {ws : List Wal} (h : WalsAt K H' p ws) (hp : H p = none) : WalsAt K Hs p ws := by
  obtain ⟨ts, h1, h2, h3⟩ := h
  exact ⟨ts, n.new _ _ (.inl hp) h1, h2, fun i t w e1 e2 => (h3 i t w e1 e2).newIn n⟩
theorem LnksAt.newIn {K : PySem.W.Frag} {x : Addr} {H H' Hs : Hp} (n : NewIn x H H' Hs) {p : Addr} {ls : List Lnk} (h : LnksAt K H' p ls) (hp : H p = none) : LnksAt K Hs p ls := by
  obtain ⟨ts, h1, h2, h3⟩ := h
  exact ⟨ts, n.new _ _ (.inl hp) h1, h2, fun i t w e1 e2 => n.sqT (h3 i t w e1 e2)⟩
theorem RowsAt.newIn {x : Addr} {H H' Hs : Hp} (n : NewIn x H H' Hs) {p : Addr} {rows : List Row} (h : RowsAt H' p rows) (hp : H p = none) : RowsAt Hs p rows := by
  obtain ⟨ts, h1, h2, h3⟩ := h
  exact ⟨ts, n.new _ _ (.inl hp) h1, h2, fun i t y L e1 e2 => n.tup _ _ (h3 i t y L e1 e2)⟩
theorem PlcAt.newIn {x : Addr} {H H' Hs : Hp} (n : NewIn x H H' Hs) {p : Addr} {ss : List (Str × Int)} (h : PlcAt H' p ss) (hp : H p = none) : PlcAt Hs p ss := by
  obtain ⟨kv, h1, h2⟩ := h
  exact ⟨kv, n.new _ _ (.inl hp) h1, h2⟩
section
variable {K : PySem.W.Frag} {H H' : Hp} {x CS dx : Addr} {fs : List (Str × V)}
/-- all but an instance stands as it stood -/
theorem sqT_sB {a : Addr} {xs : List V} (h : SqT K H a xs) (hx : H x = some (.ins CS dx fs)) (s : SameB x H H') : SqT K H' a xs := by
  rcases h with (h | ⟨o, h⟩) | h
  · exact .inl (.inl (s _ _ (fun z => by rw [z, hx] at h; cases h) h))
  · exact .inl (.inr ⟨o, s _ _ (fun z => by rw [z, hx] at h; cases h) h⟩)
  · exact .inr h
theorem sqL_sB {a : Addr} {xs : List V} (h : SqL K H a xs) (hx : H x = some (.ins CS dx fs)) (s : SameB x H H') : SqL K H' a xs := by
  rcases h with (h | ⟨o, h⟩) | h
  · exact .inl (.inl (s _ _ (fun z => by rw [z, hx] at h; cases h) h))
  · exact .inl (.inr ⟨o, s _ _ (fun z => by rw [z, hx] at h; cases h) h⟩)
  · exact .inr h
theorem lst_sB {a : Addr} {xs : List V} (h : H a = some (.lst xs)) (hx : H x = some (.ins CS dx fs)) (s : SameB x H H') : H' a = some (.lst xs) := s _ _ (fun z => by rw [z, hx] at h; cases h) h
theorem WalT.sB {t : Addr} {w : Wal} (h : WalT K H t w) (hx : H x = some (.ins CS dx fs)) (s : SameB x H H') : WalT K H' t w := by
  obtain ⟨sp, h1, h2⟩ := h
  exact ⟨sp, s _ _ (fun z => by rw [z, hx] at h1; cases h1) h1, sqT_sB h2 hx s⟩
theorem WalsAt.sB {p : Addr} {ws : List Wal} (h : WalsAt K H p ws) (hx : H x = some (.ins CS dx fs)) (s : SameB x H H') : WalsAt K H' p ws := by
  obtain ⟨ts, h1, h2, h3⟩ := h
  exact ⟨ts, lst_sB h1 hx s, h2, fun i t w e1 e2 => (h3 i t w e1 e2).sB hx s⟩
theorem LnksAt.sB {p : Addr} {ls : List Lnk} (h : LnksAt K H p ls) (hx : H x = some (.ins CS dx fs)) (s : SameB x H H') : LnksAt K H' p ls := by
  obtain ⟨ts, h1, h2, h3⟩ := h
  exact ⟨ts, lst_sB h1 hx s, h2, fun i t w e1 e2 => sqT_sB (h3 i t w e1 e2) hx s⟩
theorem LnksIn.sB {p : Addr} {ls : List Lnk} (h : LnksIn K H p ls) (hx : H x = some (.ins CS dx fs)) (s : SameB x H H') : LnksIn K H' p ls := by
  obtain ⟨ts, h1, h2, h3⟩ := h
  exact ⟨ts, h1.imp (sqL_sB · hx s) (sqT_sB · hx s), h2, fun i t w e1 e2 => sqT_sB (h3 i t w e1 e2) hx s⟩
theorem RowsAt.sB {p : Addr} {rows : List Row} (h : RowsAt H p rows) (hx : H x = some (.ins CS dx fs)) (s : SameB x H H') : RowsAt H' p rows := by
  obtain ⟨ts, h1, h2, h3⟩ := h
  exact ⟨ts, lst_sB h1 hx s, h2, fun i t y L e1 e2 => by have z := h3 i t y L e1 e2; exact s _ _ (fun w => by rw [w, hx] at z; cases z) z⟩
theorem PlcAt.sB {p : Addr} {ss : List (Str × Int)} (h : PlcAt H p ss) (hx : H x = some (.ins CS dx fs)) (s : SameB x H H') : PlcAt H' p ss := by
  obtain ⟨kv, h1, h2⟩ := h
  exact ⟨kv, s _ _ (fun z => by rw [z, hx] at h1; cases h1) h1, h2⟩
end
theorem none_backB {H H' : Hp} {x p CS dx : Addr} {fs : List (Str × V)} (s : SameB x H H') (h : H' p = none) (hx : H' x = some (.ins CS dx fs)) : H p = none := by
  cases e : H p with
  | none => rfl
  | some o =>
    have z := s _ _ (fun z => by rw [z, hx] at h; cases h) e
    rw [h] at z
    cases z
theorem putF_len (f : Str) (v : V) : ∀ fs : List (Str × V), (putF f v fs).length ≤ fs.length + 1
  | [] => Nat.le_refl _
  | (g, u) :: r => by
    have ih := putF_len f v r
    unfold putF
    split
    · show r.length + 1 ≤ r.length + 1 + 1
      omega
    · show (putF f v r).length + 1 ≤ r.length + 1 + 1
      omega
theorem WalsAt.push {K : PySem.W.Frag} {H : Hp} {p q sp : Addr} {ws : List Wal} {w : Wal} (h : WalsAt K H p ws) (hq : H q = none) (hs : SqT K H sp (w.2.2.2.map V.int)) (hl : ws.length ≤ 900) :
    ∃ acc, (upd H q (.tup [.str w.1, .int w.2.1, .int w.2.2.1, .ref sp])) p = some (.lst acc) ∧ acc.length < sizeLine ∧ WalsAt K (upd (upd H q (.tup [.str w.1, .int w.2.1, .int w.2.2.1, .ref sp])) p (.lst (acc ++ [.ref q]))) p (ws ++ [w]) := by
  obtain ⟨ts, h1, h2, h3⟩ := h
  have npq : p ≠ q := ne_of_none h1 hq
  have s1 := same_new (o := .tup [.str w.1, .int w.2.1, .int w.2.2.1, .ref sp]) hq
  have tupP : ∀ {H2 : Hp} {ys : List V} {a : Addr} {xs : List V}, H2 p = some (.lst ys) → ∀ zs, SqT K H2 a xs → SqT K (upd H2 p (.lst zs)) a xs := fun {H2 ys a xs} e zs h => by
    rcases h with (h | ⟨o, h⟩) | h
    · exact .inl (.inl (by rw [upd_ne (fun z => by rw [z, e] at h; cases h)]; exact h))
    · exact .inl (.inr ⟨o, by rw [upd_ne (fun z => by rw [z, e] at h; cases h)]; exact h⟩)
    · exact .inr h
  refine ⟨_, s1 _ _ h1, small1000 (by rw [List.length_map]; omega), ts ++ [q], by rw [upd_same, List.map_append]; rfl, by simp [h2], fun i t w' e1 e2 => ?_⟩
  by_cases hi : i < ts.length
  · rw [List.getElem?_append_left hi] at e1
    rw [List.getElem?_append_left (by omega)] at e2
    obtain ⟨sp', z1, z2⟩ := (h3 i t w' e1 e2).same s1
    have e0 := s1 _ _ h1
    exact ⟨sp', by rw [upd_ne (fun z => by rw [z, e0] at z1; cases z1)]; exact z1, tupP e0 _ z2⟩
  · rw [List.getElem?_append_right (by omega)] at e1 e2
    have ei : i - ts.length = 0 := by
      have := (List.getElem?_eq_some_iff.mp e1).1
      simp at this
      omega
    have ej : i - ws.length = 0 := by omega
    rw [ei] at e1
    rw [ej] at e2
    cases e1
    cases e2
    exact ⟨sp, by rw [upd_ne (Ne.symm npq), upd_same], tupP (s1 _ _ h1) _ (sqT_same hs s1)⟩
theorem LnksAt.push {K : PySem.W.Frag} {H : Hp} {p q : Addr} {ls : List Lnk} {l : Lnk} (h : LnksAt K H p ls) (hs : LnkT K H q l) (hl : ls.length ≤ 900) :
    ∃ acc, H p = some (.lst acc) ∧ acc.length < sizeLine ∧ LnksAt K (upd H p (.lst (acc ++ [.ref q]))) p (ls ++ [l]) := by
  obtain ⟨ts, h1, h2, h3⟩ := h
  have tupP : ∀ {a : Addr} {xs : List V}, ∀ zs, SqT K H a xs → SqT K (upd H p (.lst zs)) a xs := fun {a xs} zs h => by
    rcases h with (h | ⟨o, h⟩) | h
    · exact .inl (.inl (by rw [upd_ne (fun z => by rw [z, h1] at h; cases h)]; exact h))
    · exact .inl (.inr ⟨o, by rw [upd_ne (fun z => by rw [z, h1] at h; cases h)]; exact h⟩)
    · exact .inr h
  refine ⟨_, h1, small1000 (by rw [List.length_map]; omega), ts ++ [q], by rw [upd_same, List.map_append]; rfl, by simp [h2], fun i t w' e1 e2 => ?_⟩
  by_cases hi : i < ts.length
  · rw [List.getElem?_append_left hi] at e1
    rw [List.getElem?_append_left (by omega)] at e2
    exact tupP _ (h3 i t w' e1 e2)
  · rw [List.getElem?_append_right (by omega)] at e1 e2
    have ei : i - ts.length = 0 := by
      have := (List.getElem?_eq_some_iff.mp e1).1
      simp at this
      omega
    have ej : i - ls.length = 0 := by omega
    rw [ei] at e1
    rw [ej] at e2
    cases e1
    cases e2
    exact tupP _ hs
/-! the names of walls are apart -/
theorem rows_names : ∀ (ws : List Wal) (acc : List Str), rowsDue acc ws = none → (∀ w ∈ ws, w.1 ∉ acc) ∧ (ws.map (·.1)).Nodup
  | [], _, _ => ⟨fun _ h => (by cases h), List.nodup_nil⟩
  | w :: ws, acc, h => by
    unfold rowsDue at h
    split at h
    · cases h
    · split at h
      · cases h
      · rename_i _ c
        cases e : numDue w.2.1 w.2.2.1 w.2.2.2 with
        | some x => rw [e] at h; cases h
        | none =>
          rw [e] at h
          obtain ⟨a, b⟩ := rows_names ws (acc ++ [w.1]) h
          refine ⟨fun v hv => ?_, List.nodup_cons.mpr ⟨fun z => ?_, b⟩⟩
          · rcases List.mem_cons.mp hv with rfl | hv
            · intro z
              exact c (List.contains_iff_mem.mpr z)
            · exact fun z => a v hv (List.mem_append_left _ z)
          · obtain ⟨v, hv, e⟩ := List.mem_map.mp z
            exact a v hv (by rw [e]; exact List.mem_append_right _ List.mem_cons_self)
theorem spots_mem {ws : List Wal} {s : Str × Int} : s ∈ spotsOf ws ↔ ∃ w ∈ ws, s.1 = w.1 ∧ 0 ≤ s.2 ∧ s.2 < w.many := by
  unfold spotsOf
  rw [List.mem_flatMap]
  constructor
  · rintro ⟨w, hw, h⟩
    unfold spotsW at h
    obtain ⟨i, hi, rfl⟩ := List.mem_map.mp h
    have := List.mem_range.mp hi
    exact ⟨w, hw, rfl, by show (0 : Int) ≤ (i : Int); omega, by show (i : Int) < _; omega⟩
  · rintro ⟨w, hw, h1, h2, h3⟩
    refine ⟨w, hw, ?_⟩
    unfold spotsW
    exact List.mem_map.mpr ⟨s.2.toNat, List.mem_range.mpr (by omega), Prod.ext h1.symm (by show ((s.2.toNat : Nat) : Int) = s.2; omega)⟩
theorem spots_nodup : ∀ ws : List Wal, (ws.map (·.1)).Nodup → (spotsOf ws).Nodup
  | [], _ => List.nodup_nil
  | w :: ws, h => by
    obtain ⟨h1, h2⟩ := List.nodup_cons.mp h
    have ih := spots_nodup ws h2
    show (spotsW w ++ spotsOf ws).Nodup
    refine List.nodup_append.mpr ⟨?_, ih, fun a ha b hb e => ?_⟩
    · unfold spotsW
      refine List.Pairwise.map _ (fun a b hab z => hab ?_) List.nodup_range
      have z2 : (a : Int) = (b : Int) := congrArg Prod.snd z
      omega
    · subst e
      unfold spotsW at ha
      obtain ⟨i, _, rfl⟩ := List.mem_map.mp ha
      obtain ⟨v, hv, e, _⟩ := spots_mem.mp hb
      exact h1 (List.mem_map.mpr ⟨v, hv, e.symm⟩)
theorem PlcAt.put {H : Hp} {D : Addr} {ss : List (Str × Int)} {s : Str × Int} {i : Nat} (h : PlcAt H D (ss.take i)) (hs : ss[i]? = some s) (hn : ss.Nodup) (hl : ss.length ≤ 900) :
    ∃ kv, H D = some (.dT kv) ∧ kv.length < sizeLine ∧ PlcAt (upd H D (.dT (putK kv (keyS s) (.int (i : Nat))))) D (ss.take (i + 1)) := by
  obtain ⟨kv, h1, h2, h3, h4⟩ := h
  have hi := (List.getElem?_eq_some_iff.mp hs).1
  rw [List.length_take] at h2
  have et : ss.take (i + 1) = ss.take i ++ [s] := by rw [List.take_succ, hs]; rfl
  have inj : ∀ a b : Str × Int, keyS a = keyS b → a = b := fun a b e => by
    unfold keyS at e
    injection e with e1 e2
    injection e2 with e2 _
    exact Prod.ext (Sum.inr.inj e1) (Sum.inl.inj e2)
  have nots : s ∉ ss.take i := fun z => by
    obtain ⟨j, hj, e⟩ := List.mem_iff_getElem.mp z
    rw [List.length_take] at hj
    rw [List.getElem_take] at e
    have hne := List.pairwise_iff_getElem.mp hn j i (by omega) hi (by omega)
    rw [List.getElem?_eq_getElem hi] at hs
    exact hne (e.trans (Option.some.inj hs).symm)
  refine ⟨kv, h1, small1000 (by omega), _, upd_same, ?_, fun m u hu => ?_, fun u hu => ?_⟩
  · have := putLen kv (keyS s) (.int (i : Nat))
    rw [et, List.length_append, List.length_take]
    show _ ≤ min i ss.length + 1
    omega
  · rw [valV_put]
    rw [et] at hu
    by_cases c : m < i
    · rw [List.getElem?_append_left (by rw [List.length_take]; omega)] at hu
      have : u ≠ s := fun z => nots (z ▸ List.mem_of_getElem? hu)
      rw [if_neg fun z => this (inj _ _ z)]
      exact h3 m u hu
    · rw [List.getElem?_append_right (by rw [List.length_take]; omega)] at hu
      have hm := (List.getElem?_eq_some_iff.mp hu).1
      rw [List.length_take] at hm hu
      simp at hm
      obtain rfl : m = i := by omega
      have e0 : m - min m ss.length = 0 := by omega
      rw [e0] at hu
      cases hu
      rw [if_pos rfl]
  · rw [valV_put]
    rw [et] at hu
    have n1 : u ∉ ss.take i := fun z => hu (List.mem_append_left _ z)
    have n2 : u ≠ s := fun z => hu (z ▸ List.mem_append_right _ List.mem_cons_self)
    rw [if_neg fun z => n2 (inj _ _ z)]
    exact h4 u n1
structure SiTxt (K : PySem.W.Frag) (mg : Str → Option Value) (CS fCr fSp fTo fCl fTd fFi fLs : Addr) : Prop where
  cl : Cls K CS
  na : ∀ m ∈ (["_rows", "_links", "_spots", "_places", "_tops", "size", "_told", "_limits"] : List Str), NoAttr K CS m
  most : ∃ t, mg "MOST_PLACES" = some (.int 24 t)
  tuple : mg "tuple" = none
  enumerate : mg "enumerate" = none
  len : mg "len" = none
  cro : mg "_check_rows" = some (.ref fCr)
  spots : mg "_spots_of" = some (.ref fSp)
  tops : mg "_tops_of" = some (.ref fTo)
  cli : mg "_check_links" = some (.ref fCl)
  told : mg "_told_limits" = some (.ref fTd)
  ring : mg "_find_ring" = some (.ref fFi)
  least : mg "_least_sums" = some (.ref fLs)
def spSini2 (K : PySem.W.Frag) (C : Errs) (CS : Addr) : Sp := fun vs H Q E => ∃ (x dx pw pk : Addr) (ws : List Wal) (ls : List Lnk), vs = [.ref x, .ref pw, .ref pk] ∧ H x = some (.ins CS dx []) ∧ WalsIn K H pw ws ∧ LnksIn K H pk ls ∧ ws.length ≤ 100 ∧ ls.length ≤ 60 ∧ places ws ≤ 800 ∧
  (∀ w ∈ ws, WFit w) ∧ (∀ l ∈ ls, LFit l) ∧ (∀ b, rowsDue [] ws = some b → DueX C E (SameB x H) b) ∧
  (rowsDue [] ws = none → (24 < places ws → DueX C E (SameB x H) (.many (places ws : Nat))) ∧ (places ws ≤ 24 → (∀ z, linksDue (places ws : Nat) ls = some z → DueX C E (SameB x H) (.place z)) ∧
    (linksDue (places ws : Nat) ls = none → ((∃ pi : Int → Int, ∀ e ∈ toldOf ws ls, pi e.2.1 - pi e.1 ≤ e.2.2) → ∀ H', SameB x H H' → (∀ Hs, NewIn x H H' Hs → SiteAt K CS ws ls Hs x) → Q .non H') ∧
      ((¬ ∃ pi : Int → Int, ∀ e ∈ toldOf ws ls, pi e.2.1 - pi e.1 ≤ e.2.2) → ∀ (H' : Hp) (c d : Addr), SameB x H H' → H' d = none → E (.ref C.S) (some d) (upd H' d (.xd [("ring", .ref c)]))))))
section
variable {P : Program} {w : World} {K : PySem.W.Frag} {mg : Str → Option Value} {base : Heap} {C : Errs} {CS fCr fSp fTo fCl fTd fFi fLs : Addr}
theorem scSini : FnScope ["self", "walls", "links", "name", "top", "slope", "spans", "link", "place", "spot", "ring"] ["self", "walls", "links"] (defScope sSini) := ⟨rfl, rfl, rfl, by decide +kernel, rfl, by decide +kernel, by decide +kernel⟩
set_option maxHeartbeats 0 in
theorem ok_sini2 {f aD : Addr} {fd fdCr fdSp fdTo fdCl fdTd fdFi fdLs : FuncData} (F : FunD K "__init__" "Site.__init__" (defArgs sSini) (defBody sSini) (defScope sSini) [.ref aD] [] f fd) (RM : ErrOk P w K mg base "TooMany" C.M "count" okInt) (RS : ErrOkL P w K mg base "NoSite" C.S "ring")
    (GCr : FnOk P w K mg base (L2.CX P w) 6 fCr fdCr ["rows"] (spCro K C)) (FCr : Fun K "_check_rows" "_check_rows" sCro fCr fdCr) (bCr : Binds K fdCr ["rows"] [])
    (GSp : FnOk P w K mg base CX0 1 fSp fdSp ["rows"] (spSpots K)) (FSp : Fun K "_spots_of" "_spots_of" sSpots fSp fdSp) (bSp : Binds K fdSp ["rows"] [])
    (GTo : FnOk P w K mg base CX0 1 fTo fdTo ["rows"] (spTops K)) (FTo : Fun K "_tops_of" "_tops_of" sTops fTo fdTo) (bTo : Binds K fdTo ["rows"] [])
    (GCl : FnOk P w K mg base (L2.CX P w) 4 fCl fdCl ["links", "size"] (spCli K C)) (FCl : Fun K "_check_links" "_check_links" sCli fCl fdCl) (bCl : Binds K fdCl ["links", "size"] [])
    (GTd : FnOk P w K mg base CX0 2 fTd fdTd ["rows", "tops", "links"] (spTold K)) (FTd : Fun K "_told_limits" "_told_limits" sTold fTd fdTd) (bTd : Binds K fdTd ["rows", "tops", "links"] [])
    (GFi : FnOk P w K mg base CX0 2 fFi fdFi ["size", "told"] spFnd2) (FFi : Fun K "_find_ring" "_find_ring" sFnd fFi fdFi) (bFi : Binds K fdFi ["size", "told"] [])
    (GLs : FnOk P w K mg base CX0 2 fLs fdLs ["size", "told"] spLst) (FLs : Fun K "_least_sums" "_least_sums" sLst fLs fdLs) (bLs : Binds K fdLs ["size", "told"] [])
    (T : SiTxt K mg CS fCr fSp fTo fCl fTd fFi fLs) : FnOk P w K mg base (L2.CX P w) 7 f fd ["self", "walls", "links"] (spSini2 K C CS) := by
  obtain ⟨t3, T3⟩ := T.most
  refine F.ok scSini (fun vs H Q E h => ?_) (fun cdv A outer s H vs Q E hr h => ?_)
  · obtain ⟨x, dx, pw, pk, ws, ls, rfl, _⟩ := h
    rfl
  · obtain ⟨x, dx, pw, pk, ws, ls, rfl, hx, hW, hL, l1, l2, l3, fW, fL, h1, h2⟩ := h
    have hr6 : Room 6 _ := hr
    have hr4 : Room 4 _ := hr.mono (by decide)
    have hr3 : Room 3 _ := hr.mono (by decide)
    have hr2 : Room 2 _ := hr.mono (by decide)
    have hr1 : Room 1 _ := hr.mono (by decide)
    refine ⟨_, (pss_cons (ps_fld (pv 0) (pe_lc (own := [("name", 3), ("top", 4), ("slope", 5), ("spans", 6)]) (g := (gTup K 4 (gCons (gName 3) (gCons (gName 4) (gCons (gName 5) (gCons (gName 6) gNil)))))) (tt := tYes) (by rfl) scSini.nd (ItSeq.pi_seq (pv 1)) (blkOk_by (own := [("name", 3), ("top", 4), ("slope", 5), ("spans", 6)]) (N := ["self", "walls", "links", "name", "top", "slope", "spans", "link", "place", "spot", "ring"]) (sc := defScope sSini) (by decide +kernel))
        (fun _ _ _ _ _ => by exact (pg_tup (n := 4) rfl (pgs_cons (pg_name (i := 3) scSini.nd rfl (Or.inl rfl)) (pgs_cons (pg_name (i := 4) scSini.nd rfl (Or.inl rfl)) (pgs_cons (pg_name (i := 5) scSini.nd rfl (Or.inl rfl)) (pgs_cons (pg_name (i := 6) scSini.nd rfl (Or.inl rfl)) pgs_nil)))))) (fun _ _ _ _ _ => pts_nil) (fun _ _ _ _ _ => (pe_tup (pa_cons (pv 3) (pa_cons (pv 4) (pa_cons (pv 5) (pa_cons (pe_tupleOfK K rfl (by rfl) T.tuple (pv 6)) pa_nil))))))) rfl)
      (pss_cons (ps_fld (pv 0) (pe_lc (own := [("link", 7)]) (g := gName 7) (tt := tYes) (by rfl) scSini.nd (ItSeq.pi_seq (pv 2)) (blkOk_by (own := [("link", 7)]) (N := ["self", "walls", "links", "name", "top", "slope", "spans", "link", "place", "spot", "ring"]) (sc := defScope sSini) (by decide +kernel))
        (fun _ _ _ _ _ => pg_name (i := 7) scSini.nd rfl (Or.inl rfl)) (fun _ _ _ _ _ => pts_nil) (fun _ _ _ _ _ => (pe_tupleOfK K rfl (by rfl) T.tuple (pv 7)))) rfl)
      (pss_cons (ps_expr (pe_call (E := E) GCr hr6 rfl T.cro FCr.kp bCr .nil (passes_call (takes_of rfl rfl rfl rfl) fun _ _ _ _ z => z) (pa_cons (pe_fld (pv 0) rfl) pa_nil)))
      (pss_cons (ps_fld (pv 0) (pe_call GSp hr1 rfl T.spots FSp.kp bSp .nil pass0 (pa_cons (pe_fld (pv 0) rfl) pa_nil)) rfl)
      (pss_cons (ps_fld (pv 0) (DcT.pe_dcT (own := [("place", 8), ("spot", 9)]) (g := (gTup K 2 (gCons (gName 8) (gCons (gName 9) gNil)))) (tt := tYes) (tk := tVar 9) (tv := tVar 8) (wi := iEnum K (tCons (tFld K (tVar 0) "_spots") tNil)) ⟨rfl, scSini.nd, (pi_enum (by rfl) T.enumerate (pa_cons (pe_fld (pv 0) rfl) pa_nil)), blkOk_by (own := [("place", 8), ("spot", 9)]) (N := ["self", "walls", "links", "name", "top", "slope", "spans", "link", "place", "spot", "ring"]) (sc := defScope sSini) (by decide +kernel),
        fun _ _ _ _ _ => by exact (pg_tup (n := 2) rfl (pgs_cons (pg_name (i := 8) scSini.nd rfl (Or.inl rfl)) (pgs_cons (pg_name (i := 9) scSini.nd rfl (Or.inl rfl)) pgs_nil))), fun _ _ _ _ _ => pts_nil, fun _ _ _ _ _ => (pv 9), fun _ _ _ _ _ => (pv 8), by intro _; rfl, Nat.lt_of_succ_lt (hu_of hr)⟩) rfl)
      (pss_cons (ps_fld (pv 0) (pe_call GTo hr1 rfl T.tops FTo.kp bTo .nil pass0 (pa_cons (pe_fld (pv 0) rfl) pa_nil)) rfl)
      (pss_cons (ps_fld (pv 0) (pe_callB call_len_seq (by rfl) T.len PySem.boot_len (pa_cons (pe_fld (pv 0) rfl) pa_nil)) rfl)
      (pss_cons (ps_if (pt_cmpR op_gt (pe_fld (pv 0) rfl) (pe_glob (v := .int 24) rfl T3 ⟨_, rfl⟩) (nomark _)) (pss_one (ps_err RM rfl (takes_of rfl rfl rfl rfl) hr3 (pa_cons (pe_fld (pv 0) rfl) pa_nil) rfl)) pss_nil)
      (pss_cons (ps_expr (pe_call (E := E) GCl hr4 rfl T.cli FCl.kp bCl .nil (passes_call (takes_of rfl rfl rfl rfl) fun _ _ _ _ z => z) (pa_cons (pe_fld (pv 0) rfl) (pa_cons (pe_fld (pv 0) rfl) pa_nil))))
      (pss_cons (ps_fld (pv 0) (pe_call GTd hr2 rfl T.told FTd.kp bTd .nil pass0 (pa_cons (pe_fld (pv 0) rfl) (pa_cons (pe_fld (pv 0) rfl) (pa_cons (pe_fld (pv 0) rfl) pa_nil)))) rfl)
      (pss_cons (ps_set (i := 10) scSini.nd rfl (Or.inl rfl) (pe_call GFi hr2 rfl T.ring FFi.kp bFi .nil pass0 (pa_cons (pe_fld (pv 0) rfl) (pa_cons (pe_fld (pv 0) rfl) pa_nil))))
      (pss_cons (ps_if (pt_truth (pv 10) (by intro _; rfl)) (pss_one (ps_errL RS rfl (takes_of rfl rfl rfl rfl) hr3 (pa_cons (pv 10) pa_nil) rfl)) pss_nil)
      (pss_one (ps_fld (pv 0) (pe_call GLs hr2 rfl T.least FLs.kp bLs .nil pass0 (pa_cons (pe_fld (pv 0) rfl) (pa_cons (pe_fld (pv 0) rfl) pa_nil))) rfl)))))))))))))), ?_⟩
    have SB : SameB x H H := fun _ _ _ e => e
    have hf0 : ([] : List (Str × V)).length ≤ 0 := Nat.le_refl _
    have ln0 : ∀ m : Str, m ∉ ([] : List Str) → ([] : List (Str × V)).lookup m = none := fun _ _ => rfl
    obtain ⟨ts, q1, q2, q3⟩ := hW
    refine ⟨_, rfl, pw, _, rfl, q1, fun J wJ pr hpr => ?_⟩
    refine lc_it wJ (fun i H' => WalsAt K H' pr (ws.take i) ∧ Same H H') ⟨⟨[], upd_same, rfl, fun i t e z => by cases z⟩, same_new hpr⟩ (fun _ _ _ h => h.2) ?_ ?_
    · rintro i y H1 H2 hi ⟨B, S1⟩ ⟨rfl, hy⟩
      rw [List.length_map] at hi
      rw [List.getElem?_map, List.getElem?_eq_getElem hi] at hy
      cases hy
      obtain ⟨wl, hw⟩ : ∃ w, ws[i]? = some w := ⟨_, List.getElem?_eq_getElem (by omega)⟩
      obtain ⟨sp, z1, z2⟩ := (q3 i _ wl (List.getElem?_eq_getElem hi) hw).same S1
      refine ⟨_, _, rfl, SqT.of z1, rfl, _, _, rfl, _, _, rfl, _, _, rfl, _, _, rfl, rfl, rfl, _, rfl, _, rfl, _, rfl, _, rfl, .inr ⟨sp, _, rfl, z2, by show 4 ≤ sizeLine; decide, fun q hq => ?_⟩⟩
      obtain ⟨acc, a1, a2, a3⟩ := B.push hq z2 (by rw [List.length_take]; omega)
      refine ⟨acc, a1, a2, ?_, fun b o e => ?_⟩
      · rw [List.take_succ, hw]
        exact a3
      · rw [upd_ne (ne_of_none e hpr), upd_ne (ne_of_none (S1 _ _ e) hq)]
        exact S1 _ _ e
    rintro H1 ⟨B1, S1⟩
    rw [List.length_map, q2, List.take_length] at B1
    have hx1 := S1 _ _ hx
    have SB : SameB x H H1 := SameB.of_same S1
    refine ⟨_, rfl, x, CS, dx, _, rfl, hx1, T.cl, T.na _ (by decide), Nat.lt_of_le_of_lt hf0 (by decide), ?_⟩
    have eG1 : SameB x H1 (upd H1 x (.ins CS dx (putF "_rows" (V.ref pr) []))) := fun b o n e => (upd_ne n).trans e
    have hG1 : upd H1 x (.ins CS dx (putF "_rows" (V.ref pr) [])) x = some (.ins CS dx (putF "_rows" (V.ref pr) [])) := upd_same
    have hf1 : (putF "_rows" (V.ref pr) []).length ≤ 1 := Nat.le_trans (putF_len _ _ _) (Nat.succ_le_succ hf0)
    have lk1_rows : (putF "_rows" (V.ref pr) []).lookup ("_rows" : Str) = some (V.ref pr) := by rw [lookup_putF, if_pos rfl]
    have ln1 : ∀ m : Str, m ∉ (["_rows"] : List Str) → (putF "_rows" (V.ref pr) []).lookup m = none := fun m hm => by rw [lookup_putF, if_neg (fun z => hm (by rw [z]; decide))]; exact ln0 m fun z => hm (show m ∈ (([] : List Str) ++ [("_rows" : Str)]) from List.mem_append_left _ z)
    have SG1 : SameB x H (upd H1 x (.ins CS dx (putF "_rows" (V.ref pr) []))) := SB.trans eG1
    generalize upd H1 x (.ins CS dx (putF "_rows" (V.ref pr) [])) = G1 at eG1 hG1 SG1
    generalize (putF "_rows" (V.ref pr) []) = fs1 at hG1 hf1 ln1 lk1_rows
    have fR := fun H' (s : SameB x G1 H') => B1.sB hx1 (eG1.trans s)
    have fL0 := fun H' (s : SameB x G1 H') => hL.sB hx (SG1.trans s)
    obtain ⟨us, r1, r2, r3⟩ := fL0 G1 (fun _ _ _ e => e)
    refine ⟨_, rfl, pk, _, rfl, r1, fun J wJ pl hpl => ?_⟩
    have hpl0 := none_backB SG1 hpl hG1
    refine lc_it wJ (fun i H' => LnksAt K H' pl (ls.take i) ∧ Same G1 H') ⟨⟨[], upd_same, rfl, fun i t e z => by cases z⟩, same_new hpl⟩ (fun _ _ _ h => h.2) ?_ ?_
    · rintro i y H1 H2 hi ⟨B, S1⟩ ⟨rfl, hy⟩
      rw [List.length_map] at hi
      rw [List.getElem?_map, List.getElem?_eq_getElem hi] at hy
      cases hy
      obtain ⟨l, hl⟩ : ∃ w, ls[i]? = some w := ⟨_, List.getElem?_eq_getElem (by omega)⟩
      have z : LnkT K H2 us[i] l := sqT_same (r3 i _ l (List.getElem?_eq_getElem hi) hl) S1
      obtain ⟨acc, a1, a2, a3⟩ := B.push z (by rw [List.length_take]; omega)
      refine ⟨rfl, _, rfl, .inr ⟨us[i], _, rfl, z, acc, a1, a2, ?_, fun b o e => ?_⟩⟩
      · rw [List.take_succ, hl]
        exact a3
      · rw [upd_ne (ne_of_none e hpl)]
        exact S1 _ _ e
    rintro H2 ⟨B2, S2⟩
    rw [List.length_map, r2, List.take_length] at B2
    have hx2 := S2 _ _ hG1
    have SB : SameB x H H2 := SG1.trans (SameB.of_same S2)
    refine ⟨_, rfl, x, CS, dx, _, rfl, hx2, T.cl, T.na _ (by decide), Nat.lt_of_le_of_lt hf1 (by decide), ?_⟩
    have eG2 : SameB x H2 (upd H2 x (.ins CS dx (putF "_links" (V.ref pl) fs1))) := fun b o n e => (upd_ne n).trans e
    have hG2 : upd H2 x (.ins CS dx (putF "_links" (V.ref pl) fs1)) x = some (.ins CS dx (putF "_links" (V.ref pl) fs1)) := upd_same
    have hf2 : (putF "_links" (V.ref pl) fs1).length ≤ 2 := Nat.le_trans (putF_len _ _ _) (Nat.succ_le_succ hf1)
    have lk2_rows : (putF "_links" (V.ref pl) fs1).lookup ("_rows" : Str) = some (V.ref pr) := by rw [lookup_putF, if_neg (by decide)]; exact lk1_rows
    have lk2_links : (putF "_links" (V.ref pl) fs1).lookup ("_links" : Str) = some (V.ref pl) := by rw [lookup_putF, if_pos rfl]
    have ln2 : ∀ m : Str, m ∉ (["_rows", "_links"] : List Str) → (putF "_links" (V.ref pl) fs1).lookup m = none := fun m hm => by rw [lookup_putF, if_neg (fun z => hm (by rw [z]; decide))]; exact ln1 m fun z => hm (show m ∈ ((["_rows"] : List Str) ++ [("_links" : Str)]) from List.mem_append_left _ z)
    have SG2 : SameB x H (upd H2 x (.ins CS dx (putF "_links" (V.ref pl) fs1))) := SB.trans eG2
    generalize upd H2 x (.ins CS dx (putF "_links" (V.ref pl) fs1)) = G2 at eG2 hG2 SG2
    generalize (putF "_links" (V.ref pl) fs1) = fs2 at hG2 hf2 ln2 lk2_rows lk2_links
    have st := (SameB.of_same S2).trans eG2
    have fR := fun H' (s : SameB x G2 H') => fR H' (st.trans s)
    have fLn := fun H' (s : SameB x G2 H') => B2.sB hx2 (eG2.trans s)
    refine ⟨_, rfl, x, CS, dx, _, _, rfl, hG2, T.cl, T.na _ (by decide), lk2_rows, pr, ws, rfl, fR G2 (fun _ _ _ e => e), by omega, fW, fun b hb => (h1 b hb).mono fun H' s => SG2.trans (SameB.of_same s), fun hn H3 S3 => ?_⟩
    obtain ⟨h3, h4⟩ := h2 hn
    have nd := spots_nodup ws (rows_names ws [] hn).2
    have hx3 := S3 _ _ hG2
    have SB : SameB x H H3 := SG2.trans (SameB.of_same S3)
    have st := SameB.of_same (b := x) S3
    have fR := fun H' (s : SameB x H3 H') => fR H' (st.trans s)
    have fLn := fun H' (s : SameB x H3 H') => fLn H' (st.trans s)
    have sl := spots_places ws
    refine ⟨_, rfl, x, CS, dx, _, _, rfl, hx3, T.cl, T.na _ (by decide), lk2_rows, pr, ws, rfl, fR H3 (fun _ _ _ e => e), by omega, fun ps H4 nps S4 R4 => ?_⟩
    have hps0 := none_backB SB nps hx3
    have hx4 := S4 _ _ hx3
    have SB : SameB x H H4 := SB.trans (SameB.of_same S4)
    refine ⟨_, rfl, x, CS, dx, _, rfl, hx4, T.cl, T.na _ (by decide), Nat.lt_of_le_of_lt hf2 (by decide), ?_⟩
    have eG3 : SameB x H4 (upd H4 x (.ins CS dx (putF "_spots" (V.ref ps) fs2))) := fun b o n e => (upd_ne n).trans e
    have hG3 : upd H4 x (.ins CS dx (putF "_spots" (V.ref ps) fs2)) x = some (.ins CS dx (putF "_spots" (V.ref ps) fs2)) := upd_same
    have hf3 : (putF "_spots" (V.ref ps) fs2).length ≤ 3 := Nat.le_trans (putF_len _ _ _) (Nat.succ_le_succ hf2)
    have lk3_rows : (putF "_spots" (V.ref ps) fs2).lookup ("_rows" : Str) = some (V.ref pr) := by rw [lookup_putF, if_neg (by decide)]; exact lk2_rows
    have lk3_links : (putF "_spots" (V.ref ps) fs2).lookup ("_links" : Str) = some (V.ref pl) := by rw [lookup_putF, if_neg (by decide)]; exact lk2_links
    have lk3_spots : (putF "_spots" (V.ref ps) fs2).lookup ("_spots" : Str) = some (V.ref ps) := by rw [lookup_putF, if_pos rfl]
    have ln3 : ∀ m : Str, m ∉ (["_rows", "_links", "_spots"] : List Str) → (putF "_spots" (V.ref ps) fs2).lookup m = none := fun m hm => by rw [lookup_putF, if_neg (fun z => hm (by rw [z]; decide))]; exact ln2 m fun z => hm (show m ∈ ((["_rows", "_links"] : List Str) ++ [("_spots" : Str)]) from List.mem_append_left _ z)
    have SG3 : SameB x H (upd H4 x (.ins CS dx (putF "_spots" (V.ref ps) fs2))) := SB.trans eG3
    generalize upd H4 x (.ins CS dx (putF "_spots" (V.ref ps) fs2)) = G3 at eG3 hG3 SG3
    generalize (putF "_spots" (V.ref ps) fs2) = fs3 at hG3 hf3 ln3 lk3_rows lk3_links lk3_spots
    have st := (SameB.of_same S4).trans eG3
    have fR := fun H' (s : SameB x G3 H') => fR H' (st.trans s)
    have fLn := fun H' (s : SameB x G3 H') => fLn H' (st.trans s)
    have fSp := fun H' (s : SameB x G3 H') => R4.sB hx4 (eG3.trans s)
    obtain ⟨vs, y1, y2, y3⟩ := fSp G3 (fun _ _ _ e => e)
    refine ⟨_, rfl, x, CS, dx, _, _, rfl, hG3, T.cl, T.na _ (by decide), lk3_spots, ps, _, rfl, SqL.of y1, fun pd hpd => ?_⟩
    have hpd0 := none_backB SG3 hpd hG3
    refine DcT.dcT_it (walk_enum (xs := vs.map V.ref)) (fun i H' => PlcAt H' pd ((spotsOf ws).take i) ∧ Same G3 H') ⟨⟨[], upd_same, Nat.le_refl _, fun m s z => (by cases z), fun _ _ => rfl⟩, same_new hpd⟩ (fun _ _ _ h => SqL.of (h.2 _ _ y1)) ?_ ?_
    · rintro i y H5 H6 hi ⟨B, S5⟩ ⟨T0, u0, v0, rfl, hT, rfl, hu, hv⟩
      rw [List.length_map] at hi
      cases hu
      have hv : (vs.map V.ref)[i]? = some v0 := hv
      rw [List.getElem?_map, List.getElem?_eq_getElem hi] at hv
      cases hv
      obtain ⟨⟨sn, sj⟩, hs⟩ : ∃ s, (spotsOf ws)[i]? = some s := ⟨_, List.getElem?_eq_getElem (by omega)⟩
      have z := S5 _ _ (y3 i _ sn sj (List.getElem?_eq_getElem hi) hs)
      have sT := same_new (o := .tup [V.int (i : Nat), V.ref vs[i]]) hT
      obtain ⟨kv, k1, k2, k3⟩ := (show PlcAt (upd H5 T0 (.tup [V.int (i : Nat), V.ref vs[i]])) pd ((spotsOf ws).take i) from by obtain ⟨kv, a, b⟩ := B; exact ⟨kv, sT _ _ a, b⟩).put hs nd (by omega)
      refine ⟨T0, _, rfl, SqT.of upd_same, rfl, _, _, rfl, _, _, rfl, rfl, rfl, _, rfl, _, rfl, kv, keyS (sn, sj), vs[i], rfl, k1, sT _ _ z, k2, k3, fun b o e => ?_⟩
      rw [upd_ne (ne_of_none e hpd)]
      exact sT _ _ (S5 _ _ e)
    rintro H5 ⟨B5, S5⟩
    rw [List.length_map, y2, List.take_length] at B5
    have hx5 := S5 _ _ hG3
    have SB : SameB x H H5 := SG3.trans (SameB.of_same S5)
    refine ⟨_, rfl, x, CS, dx, _, rfl, hx5, T.cl, T.na _ (by decide), Nat.lt_of_le_of_lt hf3 (by decide), ?_⟩
    have eG4 : SameB x H5 (upd H5 x (.ins CS dx (putF "_places" (V.ref pd) fs3))) := fun b o n e => (upd_ne n).trans e
    have hG4 : upd H5 x (.ins CS dx (putF "_places" (V.ref pd) fs3)) x = some (.ins CS dx (putF "_places" (V.ref pd) fs3)) := upd_same
    have hf4 : (putF "_places" (V.ref pd) fs3).length ≤ 4 := Nat.le_trans (putF_len _ _ _) (Nat.succ_le_succ hf3)
    have lk4_rows : (putF "_places" (V.ref pd) fs3).lookup ("_rows" : Str) = some (V.ref pr) := by rw [lookup_putF, if_neg (by decide)]; exact lk3_rows
    have lk4_links : (putF "_places" (V.ref pd) fs3).lookup ("_links" : Str) = some (V.ref pl) := by rw [lookup_putF, if_neg (by decide)]; exact lk3_links
    have lk4_spots : (putF "_places" (V.ref pd) fs3).lookup ("_spots" : Str) = some (V.ref ps) := by rw [lookup_putF, if_neg (by decide)]; exact lk3_spots
    have lk4_places : (putF "_places" (V.ref pd) fs3).lookup ("_places" : Str) = some (V.ref pd) := by rw [lookup_putF, if_pos rfl]
    have ln4 : ∀ m : Str, m ∉ (["_rows", "_links", "_spots", "_places"] : List Str) → (putF "_places" (V.ref pd) fs3).lookup m = none := fun m hm => by rw [lookup_putF, if_neg (fun z => hm (by rw [z]; decide))]; exact ln3 m fun z => hm (show m ∈ ((["_rows", "_links", "_spots"] : List Str) ++ [("_places" : Str)]) from List.mem_append_left _ z)
    have SG4 : SameB x H (upd H5 x (.ins CS dx (putF "_places" (V.ref pd) fs3))) := SB.trans eG4
    generalize upd H5 x (.ins CS dx (putF "_places" (V.ref pd) fs3)) = G4 at eG4 hG4 SG4
    generalize (putF "_places" (V.ref pd) fs3) = fs4 at hG4 hf4 ln4 lk4_rows lk4_links lk4_spots lk4_places
    have st := (SameB.of_same S5).trans eG4
    have fR := fun H' (s : SameB x G4 H') => fR H' (st.trans s)
    have fLn := fun H' (s : SameB x G4 H') => fLn H' (st.trans s)
    have fSp := fun H' (s : SameB x G4 H') => fSp H' (st.trans s)
    have fPl := fun H' (s : SameB x G4 H') => B5.sB hx5 (eG4.trans s)
    refine ⟨_, rfl, x, CS, dx, _, _, rfl, hG4, T.cl, T.na _ (by decide), lk4_rows, pr, ws, rfl, fR G4 (fun _ _ _ e => e), by omega, fun pt H6 npt S6 R6 => ?_⟩
    have hpt0 := none_backB SG4 npt hG4
    have hx6 := S6 _ _ hG4
    have SB : SameB x H H6 := SG4.trans (SameB.of_same S6)
    refine ⟨_, rfl, x, CS, dx, _, rfl, hx6, T.cl, T.na _ (by decide), Nat.lt_of_le_of_lt hf4 (by decide), ?_⟩
    have eG5 : SameB x H6 (upd H6 x (.ins CS dx (putF "_tops" (V.ref pt) fs4))) := fun b o n e => (upd_ne n).trans e
    have hG5 : upd H6 x (.ins CS dx (putF "_tops" (V.ref pt) fs4)) x = some (.ins CS dx (putF "_tops" (V.ref pt) fs4)) := upd_same
    have hf5 : (putF "_tops" (V.ref pt) fs4).length ≤ 5 := Nat.le_trans (putF_len _ _ _) (Nat.succ_le_succ hf4)
    have lk5_rows : (putF "_tops" (V.ref pt) fs4).lookup ("_rows" : Str) = some (V.ref pr) := by rw [lookup_putF, if_neg (by decide)]; exact lk4_rows
    have lk5_links : (putF "_tops" (V.ref pt) fs4).lookup ("_links" : Str) = some (V.ref pl) := by rw [lookup_putF, if_neg (by decide)]; exact lk4_links
    have lk5_spots : (putF "_tops" (V.ref pt) fs4).lookup ("_spots" : Str) = some (V.ref ps) := by rw [lookup_putF, if_neg (by decide)]; exact lk4_spots
    have lk5_places : (putF "_tops" (V.ref pt) fs4).lookup ("_places" : Str) = some (V.ref pd) := by rw [lookup_putF, if_neg (by decide)]; exact lk4_places
    have lk5_tops : (putF "_tops" (V.ref pt) fs4).lookup ("_tops" : Str) = some (V.ref pt) := by rw [lookup_putF, if_pos rfl]
    have ln5 : ∀ m : Str, m ∉ (["_rows", "_links", "_spots", "_places", "_tops"] : List Str) → (putF "_tops" (V.ref pt) fs4).lookup m = none := fun m hm => by rw [lookup_putF, if_neg (fun z => hm (by rw [z]; decide))]; exact ln4 m fun z => hm (show m ∈ ((["_rows", "_links", "_spots", "_places"] : List Str) ++ [("_tops" : Str)]) from List.mem_append_left _ z)
    have SG5 : SameB x H (upd H6 x (.ins CS dx (putF "_tops" (V.ref pt) fs4))) := SB.trans eG5
    generalize upd H6 x (.ins CS dx (putF "_tops" (V.ref pt) fs4)) = G5 at eG5 hG5 SG5
    generalize (putF "_tops" (V.ref pt) fs4) = fs5 at hG5 hf5 ln5 lk5_rows lk5_links lk5_spots lk5_places lk5_tops
    have st := (SameB.of_same S6).trans eG5
    have fR := fun H' (s : SameB x G5 H') => fR H' (st.trans s)
    have fLn := fun H' (s : SameB x G5 H') => fLn H' (st.trans s)
    have fSp := fun H' (s : SameB x G5 H') => fSp H' (st.trans s)
    have fPl := fun H' (s : SameB x G5 H') => fPl H' (st.trans s)
    have fTo := fun H' (s : SameB x G5 H') => lst_sB R6 hx6 (eG5.trans s)
    obtain ⟨vs2, y1, y2, y3⟩ := fSp G5 (fun _ _ _ e => e)
    refine ⟨_, rfl, x, CS, dx, _, _, rfl, hG5, T.cl, T.na _ (by decide), lk5_spots, ps, _, rfl, .inl (SqL.of y1), ?_⟩
    have ep : (vs2.map V.ref).length = places ws := by rw [List.length_map, y2]; exact sl
    rw [ep]
    have SB : SameB x H G5 := SG5
    refine ⟨_, rfl, x, CS, dx, _, rfl, hG5, T.cl, T.na _ (by decide), Nat.lt_of_le_of_lt hf5 (by decide), ?_⟩
    have eG6 : SameB x G5 (upd G5 x (.ins CS dx (putF "size" (V.int (places ws : Nat)) fs5))) := fun b o n e => (upd_ne n).trans e
    have hG6 : upd G5 x (.ins CS dx (putF "size" (V.int (places ws : Nat)) fs5)) x = some (.ins CS dx (putF "size" (V.int (places ws : Nat)) fs5)) := upd_same
    have hf6 : (putF "size" (V.int (places ws : Nat)) fs5).length ≤ 6 := Nat.le_trans (putF_len _ _ _) (Nat.succ_le_succ hf5)
    have lk6_rows : (putF "size" (V.int (places ws : Nat)) fs5).lookup ("_rows" : Str) = some (V.ref pr) := by rw [lookup_putF, if_neg (by decide)]; exact lk5_rows
    have lk6_links : (putF "size" (V.int (places ws : Nat)) fs5).lookup ("_links" : Str) = some (V.ref pl) := by rw [lookup_putF, if_neg (by decide)]; exact lk5_links
    have lk6_spots : (putF "size" (V.int (places ws : Nat)) fs5).lookup ("_spots" : Str) = some (V.ref ps) := by rw [lookup_putF, if_neg (by decide)]; exact lk5_spots
    have lk6_places : (putF "size" (V.int (places ws : Nat)) fs5).lookup ("_places" : Str) = some (V.ref pd) := by rw [lookup_putF, if_neg (by decide)]; exact lk5_places
    have lk6_tops : (putF "size" (V.int (places ws : Nat)) fs5).lookup ("_tops" : Str) = some (V.ref pt) := by rw [lookup_putF, if_neg (by decide)]; exact lk5_tops
    have lk6size : (putF "size" (V.int (places ws : Nat)) fs5).lookup ("size" : Str) = some (V.int (places ws : Nat)) := by rw [lookup_putF, if_pos rfl]
    have ln6 : ∀ m : Str, m ∉ (["_rows", "_links", "_spots", "_places", "_tops", "size"] : List Str) → (putF "size" (V.int (places ws : Nat)) fs5).lookup m = none := fun m hm => by rw [lookup_putF, if_neg (fun z => hm (by rw [z]; decide))]; exact ln5 m fun z => hm (show m ∈ ((["_rows", "_links", "_spots", "_places", "_tops"] : List Str) ++ [("size" : Str)]) from List.mem_append_left _ z)
    have SG6 : SameB x H (upd G5 x (.ins CS dx (putF "size" (V.int (places ws : Nat)) fs5))) := SB.trans eG6
    generalize upd G5 x (.ins CS dx (putF "size" (V.int (places ws : Nat)) fs5)) = G6 at eG6 hG6 SG6
    generalize (putF "size" (V.int (places ws : Nat)) fs5) = fs6 at hG6 hf6 ln6 lk6_rows lk6_links lk6_spots lk6_places lk6_tops lk6size
    have fR := fun H' (s : SameB x G6 H') => fR H' (eG6.trans s)
    have fLn := fun H' (s : SameB x G6 H') => fLn H' (eG6.trans s)
    have fSp := fun H' (s : SameB x G6 H') => fSp H' (eG6.trans s)
    have fPl := fun H' (s : SameB x G6 H') => fPl H' (eG6.trans s)
    have fTo := fun H' (s : SameB x G6 H') => fTo H' (eG6.trans s)
    refine ⟨_, rfl, x, CS, dx, _, _, rfl, hG6, T.cl, T.na _ (by decide), lk6size, _, _, rfl, rfl, _, rfl, ?_⟩
    by_cases c24 : (24 : Int) < (places ws : Nat)
    · refine if_t (decide_eq_true c24) ⟨_, rfl, x, CS, dx, _, _, rfl, hG6, T.cl, T.na _ (by decide), lk6size, ?_⟩
      exact err_way (Sz.ok (Nat.lt_of_le_of_lt (show ((places ws : Nat) : Int).natAbs ≤ 1000 by omega) (by decide +kernel))) fun d hd => h3 (by omega) G6 d SG6 hd
    refine if_f (decide_eq_false c24) ?_
    obtain ⟨h5, h6⟩ := h4 (by omega)
    refine ⟨_, rfl, x, CS, dx, _, _, rfl, hG6, T.cl, T.na _ (by decide), lk6_links, _, rfl, x, CS, dx, _, _, rfl, hG6, T.cl, T.na _ (by decide), lk6size, pl, ls, _, rfl, fLn G6 (fun _ _ _ e => e), fL, fun z hz => (h5 z hz).mono fun H' s => SG6.trans (SameB.of_same s), fun hl => ?_⟩
    have h7 := h6 hl
    refine ⟨_, rfl, x, CS, dx, _, _, rfl, hG6, T.cl, T.na _ (by decide), lk6_rows, _, rfl, x, CS, dx, _, _, rfl, hG6, T.cl, T.na _ (by decide), lk6_tops, _, rfl, x, CS, dx, _, _, rfl, hG6, T.cl, T.na _ (by decide), lk6_links, pr, pt, pl, ws, ls, rfl, fR G6 (fun _ _ _ e => e), fTo G6 (fun _ _ _ e => e), fLn G6 (fun _ _ _ e => e), by omega, by omega, fun w hw => (fW w hw).2.2, fun ptd H7 nptd S7 R7 => ?_⟩
    have hx7 := S7 _ _ hG6
    have SB : SameB x H H7 := SG6.trans (SameB.of_same S7)
    refine ⟨_, rfl, x, CS, dx, _, rfl, hx7, T.cl, T.na _ (by decide), Nat.lt_of_le_of_lt hf6 (by decide), ?_⟩
    have eG7 : SameB x H7 (upd H7 x (.ins CS dx (putF "_told" (V.ref ptd) fs6))) := fun b o n e => (upd_ne n).trans e
    have hG7 : upd H7 x (.ins CS dx (putF "_told" (V.ref ptd) fs6)) x = some (.ins CS dx (putF "_told" (V.ref ptd) fs6)) := upd_same
    have hf7 : (putF "_told" (V.ref ptd) fs6).length ≤ 7 := Nat.le_trans (putF_len _ _ _) (Nat.succ_le_succ hf6)
    have lk7_rows : (putF "_told" (V.ref ptd) fs6).lookup ("_rows" : Str) = some (V.ref pr) := by rw [lookup_putF, if_neg (by decide)]; exact lk6_rows
    have lk7_links : (putF "_told" (V.ref ptd) fs6).lookup ("_links" : Str) = some (V.ref pl) := by rw [lookup_putF, if_neg (by decide)]; exact lk6_links
    have lk7_spots : (putF "_told" (V.ref ptd) fs6).lookup ("_spots" : Str) = some (V.ref ps) := by rw [lookup_putF, if_neg (by decide)]; exact lk6_spots
    have lk7_places : (putF "_told" (V.ref ptd) fs6).lookup ("_places" : Str) = some (V.ref pd) := by rw [lookup_putF, if_neg (by decide)]; exact lk6_places
    have lk7_tops : (putF "_told" (V.ref ptd) fs6).lookup ("_tops" : Str) = some (V.ref pt) := by rw [lookup_putF, if_neg (by decide)]; exact lk6_tops
    have lk7size : (putF "_told" (V.ref ptd) fs6).lookup ("size" : Str) = some (V.int (places ws : Nat)) := by rw [lookup_putF, if_neg (by decide)]; exact lk6size
    have lk7_told : (putF "_told" (V.ref ptd) fs6).lookup ("_told" : Str) = some (V.ref ptd) := by rw [lookup_putF, if_pos rfl]
    have ln7 : ∀ m : Str, m ∉ (["_rows", "_links", "_spots", "_places", "_tops", "size", "_told"] : List Str) → (putF "_told" (V.ref ptd) fs6).lookup m = none := fun m hm => by rw [lookup_putF, if_neg (fun z => hm (by rw [z]; decide))]; exact ln6 m fun z => hm (show m ∈ ((["_rows", "_links", "_spots", "_places", "_tops", "size"] : List Str) ++ [("_told" : Str)]) from List.mem_append_left _ z)
    have SG7 : SameB x H (upd H7 x (.ins CS dx (putF "_told" (V.ref ptd) fs6))) := SB.trans eG7
    generalize upd H7 x (.ins CS dx (putF "_told" (V.ref ptd) fs6)) = G7 at eG7 hG7 SG7
    generalize (putF "_told" (V.ref ptd) fs6) = fs7 at hG7 hf7 ln7 lk7_rows lk7_links lk7_spots lk7_places lk7_tops lk7size lk7_told
    have st := (SameB.of_same S7).trans eG7
    have fR := fun H' (s : SameB x G7 H') => fR H' (st.trans s)
    have fLn := fun H' (s : SameB x G7 H') => fLn H' (st.trans s)
    have fSp := fun H' (s : SameB x G7 H') => fSp H' (st.trans s)
    have fPl := fun H' (s : SameB x G7 H') => fPl H' (st.trans s)
    have fTo := fun H' (s : SameB x G7 H') => fTo H' (st.trans s)
    have R7G : G7 ptd = some (.dT (kvT (toldOf ws ls))) := eG7 _ _ (fun z => by rw [z, hx7] at R7; cases R7) R7
    have tl : (toldOf ws ls).length ≤ 900 := by
      have a := fold_len (limsOf ws ls) []
      have b := lims_len ws ls
      have a : (toldOf ws ls).length ≤ 0 + (limsOf ws ls).length := a
      omega
    refine ⟨_, rfl, x, CS, dx, _, _, rfl, hG7, T.cl, T.na _ (by decide), lk7size, _, rfl, x, CS, dx, _, _, rfl, hG7, T.cl, T.na _ (by decide), lk7_told, places ws, ptd, _, rfl, R7G, by omega, tl, told_nodes hl, fun hsh rg H8 nrg S8 R8 => ?_, fun hsh rg H8 nrg S8 R8 => ?_⟩
    rotate_left
    · obtain ⟨ring, g1, g2, g3, g4⟩ := R8
      have hgt : (ring.map V.int).isEmpty = false := by
        cases ring with
        | nil => exact absurd rfl g2
        | cons x r => rfl
      refine ⟨_, rfl, true, .inl ⟨_, SqL.of g1, by rw [hgt]; rfl⟩, if_t rfl ⟨_, rfl, ?_⟩⟩
      refine err_wayL g1 (by rw [List.length_map]; omega) (fun v hv => ?_) fun c d hc hd => ?_
      · obtain ⟨z, hz, rfl⟩ := List.mem_map.mp hv
        have := g4 z hz
        exact .inl ⟨z, rfl, log_of (by decide) (Nat.lt_of_le_of_lt (show z.natAbs ≤ 1000 by omega) (by decide +kernel))⟩
      · exact h7.2 (fun ⟨pi, hpi⟩ => hsh ⟨pi, hpi⟩) _ c d (SG7.trans (SameB.of_same (same_tr S8 (same_new hc)))) hd
    have hx8 := S8 _ _ hG7
    have SB : SameB x H H8 := SG7.trans (SameB.of_same S8)
    have st := SameB.of_same (b := x) S8
    refine ⟨_, rfl, false, .inl ⟨[], SqL.of R8, rfl⟩, if_f (by decide) ?_⟩
    have fR := fun H' (s : SameB x H8 H') => fR H' (st.trans s)
    have fLn := fun H' (s : SameB x H8 H') => fLn H' (st.trans s)
    have fSp := fun H' (s : SameB x H8 H') => fSp H' (st.trans s)
    have fPl := fun H' (s : SameB x H8 H') => fPl H' (st.trans s)
    have fTo := fun H' (s : SameB x H8 H') => fTo H' (st.trans s)
    refine ⟨_, rfl, x, CS, dx, _, _, rfl, hx8, T.cl, T.na _ (by decide), lk7size, _, rfl, x, CS, dx, _, _, rfl, hx8, T.cl, T.na _ (by decide), lk7_told, places ws, ptd, _, rfl, S8 _ _ R7G, by omega, told_full ws ls, fun plm H9 nplm S9 R9 => ?_⟩
    have hx9 := S9 _ _ hx8
    have SB : SameB x H H9 := SB.trans (SameB.of_same S9)
    refine ⟨_, rfl, x, CS, dx, _, rfl, hx9, T.cl, T.na _ (by decide), Nat.lt_of_le_of_lt hf7 (by decide), ?_⟩
    have eG8 : SameB x H9 (upd H9 x (.ins CS dx (putF "_limits" (V.ref plm) fs7))) := fun b o n e => (upd_ne n).trans e
    have hG8 : upd H9 x (.ins CS dx (putF "_limits" (V.ref plm) fs7)) x = some (.ins CS dx (putF "_limits" (V.ref plm) fs7)) := upd_same
    have hf8 : (putF "_limits" (V.ref plm) fs7).length ≤ 8 := Nat.le_trans (putF_len _ _ _) (Nat.succ_le_succ hf7)
    have lk8_rows : (putF "_limits" (V.ref plm) fs7).lookup ("_rows" : Str) = some (V.ref pr) := by rw [lookup_putF, if_neg (by decide)]; exact lk7_rows
    have lk8_links : (putF "_limits" (V.ref plm) fs7).lookup ("_links" : Str) = some (V.ref pl) := by rw [lookup_putF, if_neg (by decide)]; exact lk7_links
    have lk8_spots : (putF "_limits" (V.ref plm) fs7).lookup ("_spots" : Str) = some (V.ref ps) := by rw [lookup_putF, if_neg (by decide)]; exact lk7_spots
    have lk8_places : (putF "_limits" (V.ref plm) fs7).lookup ("_places" : Str) = some (V.ref pd) := by rw [lookup_putF, if_neg (by decide)]; exact lk7_places
    have lk8_tops : (putF "_limits" (V.ref plm) fs7).lookup ("_tops" : Str) = some (V.ref pt) := by rw [lookup_putF, if_neg (by decide)]; exact lk7_tops
    have lk8size : (putF "_limits" (V.ref plm) fs7).lookup ("size" : Str) = some (V.int (places ws : Nat)) := by rw [lookup_putF, if_neg (by decide)]; exact lk7size
    have lk8_told : (putF "_limits" (V.ref plm) fs7).lookup ("_told" : Str) = some (V.ref ptd) := by rw [lookup_putF, if_neg (by decide)]; exact lk7_told
    have lk8_limits : (putF "_limits" (V.ref plm) fs7).lookup ("_limits" : Str) = some (V.ref plm) := by rw [lookup_putF, if_pos rfl]
    have ln8 : ∀ m : Str, m ∉ (["_rows", "_links", "_spots", "_places", "_tops", "size", "_told", "_limits"] : List Str) → (putF "_limits" (V.ref plm) fs7).lookup m = none := fun m hm => by rw [lookup_putF, if_neg (fun z => hm (by rw [z]; decide))]; exact ln7 m fun z => hm (show m ∈ ((["_rows", "_links", "_spots", "_places", "_tops", "size", "_told"] : List Str) ++ [("_limits" : Str)]) from List.mem_append_left _ z)
    have SG8 : SameB x H (upd H9 x (.ins CS dx (putF "_limits" (V.ref plm) fs7))) := SB.trans eG8
    generalize upd H9 x (.ins CS dx (putF "_limits" (V.ref plm) fs7)) = G8 at eG8 hG8 SG8
    generalize (putF "_limits" (V.ref plm) fs7) = fs8 at hG8 hf8 ln8 lk8_rows lk8_links lk8_spots lk8_places lk8_tops lk8size lk8_told lk8_limits
    have st := (SameB.of_same S9).trans eG8
    have td8 : G8 ptd = some (.dT (kvT (toldOf ws ls))) := by
      have e := S9 _ _ (S8 _ _ R7G)
      exact eG8 _ _ (fun z => by rw [z, hx9] at e; cases e) e
    obtain ⟨ts8, a8, b8, c8⟩ : TabAt G8 plm (leastSums (places ws) (toldOf ws ls)) := by
      obtain ⟨ts, a, b, c⟩ := R9
      exact ⟨ts, eG8 _ _ (fun z => by rw [z, hx9] at a; cases a) a, b, fun i t r e1 e2 => by
        have e := c i t r e1 e2
        exact eG8 _ _ (fun z => by rw [z, hx9] at e; cases e) e⟩
    have z0 := fun H' (s : SameB x G8 H') => st.trans s
    refine h7.1 hsh G8 SG8 fun Hs n => ⟨dx, fs8, pr, pl, ps, pd, pt, n.new x _ (.inr rfl) hG8, ⟨lk8_rows, (fR G8 st).newIn n hpr⟩, ⟨lk8_links, (fLn G8 st).newIn n hpl0⟩, ⟨lk8_spots, (fSp G8 st).newIn n hps0⟩, ⟨lk8_places, (fPl G8 st).newIn n hpd0⟩, ⟨lk8_tops, n.new _ _ (.inl hpt0) (fTo G8 st)⟩, lk8size, ln8, ptd, plm, lk8_told, n.all _ _ td8, lk8_limits, ts8, n.all _ _ a8, b8, fun i t r e1 e2 => n.all _ _ (c8 i t r e1 e2)⟩
end
end Law

/-! The law's heights. -/
namespace Law
open PySem PySem.Spec PyProof.Rows L2 Sup
abbrev sTru : Stmt := top 59
abbrev sSpn : Stmt := top 60
theorem Box.neL3 {H : Hp} {b l p : Addr} {ts : List Addr} (B : Box H b l) (h : H p = some (.lst (ts.map V.ref))) : p ≠ b := fun z => by
  obtain ⟨_, _, _, _, q, _⟩ := B
  rw [z, q] at h
  have e := HO.lst.inj (Option.some.inj h)
  match ts, e with
  | [], e => cases e
  | [_], e => cases e
  | _ :: _ :: _, e =>
    rw [List.map_cons, List.map_cons] at e
    injection e with _ e
    injection e with e _
    cases e
theorem sqT_sameB {K : PySem.W.Frag} {H H' : Hp} {b l a : Addr} {xs : List V} (h : SqT K H a xs) (B : Box H b l) (s : SameB b H H') : SqT K H' a xs := by
  obtain ⟨_, _, _, _, q, _⟩ := B
  rcases h with (h | ⟨o, h⟩) | h
  · exact .inl (.inl (s _ _ (fun z => by rw [z, q] at h; cases h) h))
  · exact .inl (.inr ⟨o, s _ _ (fun z => by rw [z, q] at h; cases h) h⟩)
  · exact .inr h
theorem WalT.sameB {K : PySem.W.Frag} {H H' : Hp} {b l t : Addr} {w : Wal} (h : WalT K H t w) (B : Box H b l) (s : SameB b H H') : WalT K H' t w := by
  obtain ⟨sp, h1, h2⟩ := h
  exact ⟨sp, s _ _ (B.neT h1) h1, sqT_sameB h2 B s⟩
theorem WalsAt.sameB {K : PySem.W.Frag} {H H' : Hp} {b l p : Addr} {ws : List Wal} (h : WalsAt K H p ws) (B : Box H b l) (s : SameB b H H') : WalsAt K H' p ws := by
  obtain ⟨ts, h1, h2, h3⟩ := h
  exact ⟨ts, s _ _ (B.neL3 h1) h1, h2, fun i t w e1 e2 => (h3 i t w e1 e2).sameB B s⟩
/-- heights that one wall allows -/
structure Fit1 (tp sl : Int) (spans hs : List Int) : Prop where
  len : hs.length = spans.length + 1
  top : ∀ h ∈ hs, 0 ≤ h ∧ h ≤ tp
  slope : ∀ (i : Nat) (a c x : Int), hs[i]? = some a → hs[i + 1]? = some c → spans[i]? = some x → c - a ≤ sl * x ∧ a - c ≤ sl * x
def spTru (K : PySem.W.Frag) : Sp := fun vs H Q _ => ∃ (b l sp : Addr) (tp sl : Int) (spans : List Int), vs = [.ref b, .int tp, .int sl, .ref sp] ∧ Box H b l ∧ SqT K H sp (spans.map V.int) ∧ 0 ≤ tp ∧ tp ≤ 10 ^ 16 ∧ 0 ≤ sl ∧ sl ≤ 10 ^ 16 ∧
  (∀ x ∈ spans, 1 ≤ x ∧ x ≤ 10 ^ 16) ∧ spans.length ≤ 100 ∧ ∀ (q : Addr) (hs : List Int) (H' : Hp), H q = none → Fit1 tp sl spans hs → H' q = some (.lst (hs.map V.int)) → Box H' b l → SameB b H H' → Q (.ref q) H'
def spSpn : Sp := fun vs H Q _ => ∃ (b l : Addr) (tall : Int), vs = [.ref b, .int tall] ∧ Box H b l ∧ ∀ (x : Int) (H' : Hp), 1 ≤ x → x ≤ 10 ^ 12 → Box H' b l → (∀ c, c ≠ b → H' c = H c) → Q (.int x) H'
structure TruTxt (mg : Str → Option Value) (fT : Addr) : Prop where
  take : mg "_law_take" = some (.ref fT)
  b_max : mg "max" = none
  b_min : mg "min" = none
  b_int : mg "int" = none
theorem Fit1.snoc {tp sl x r : Int} {spans hs : List Int} {a : Int} (h : Fit1 tp sl spans (hs ++ [a])) (h0 : 0 ≤ r) (h1 : r ≤ tp) (h2 : r - a ≤ sl * x) (h3 : a - r ≤ sl * x) : Fit1 tp sl (spans ++ [x]) (hs ++ [a] ++ [r]) := by
  have hl := h.len
  refine ⟨by rw [List.length_append, hl, List.length_append]; rfl, fun y hy => ?_, fun i u v y e1 e2 e3 => ?_⟩
  · rcases List.mem_append.mp hy with hy | hy
    · exact h.top y hy
    · rw [List.mem_singleton] at hy
      omega
  · by_cases c : i < spans.length
    · rw [List.getElem?_append_left (by omega)] at e1 e2
      rw [List.getElem?_append_left c] at e3
      exact h.slope i u v y e1 e2 e3
    · by_cases c2 : i = spans.length
      · subst c2
        rw [List.getElem?_append_right (Nat.le_refl _), Nat.sub_self] at e3
        cases e3
        rw [← hl, List.getElem?_append_right (Nat.le_refl _), Nat.sub_self] at e2
        cases e2
        have hl2 : hs.length = spans.length := by
          rw [List.length_append] at hl
          exact Nat.succ.inj hl
        rw [List.getElem?_append_left (by omega), ← hl2, List.getElem?_append_right (Nat.le_refl _), Nat.sub_self] at e1
        cases e1
        exact ⟨h2, h3⟩
      · rw [List.getElem?_eq_none (by rw [List.length_append]; show spans.length + 1 ≤ i; omega)] at e3
        cases e3
section
variable {P : Program} {w : World} {K : PySem.W.Frag} {mg : Str → Option Value} {base : Heap}
theorem scTru : FnScope ["_law_box_here", "_law_top", "_law_slope", "_law_spans", "_law_heights", "_law_span_here", "_law_low", "_law_high"] ["_law_box_here", "_law_top", "_law_slope", "_law_spans"] (defScope sTru) := ⟨rfl, rfl, rfl, by decide +kernel, rfl, by decide +kernel, by decide +kernel⟩
theorem scSpn : FnScope ["_law_box_here", "_law_tall"] ["_law_box_here", "_law_tall"] (defScope sSpn) := ⟨rfl, rfl, rfl, by decide +kernel, rfl, by decide +kernel, by decide +kernel⟩
set_option maxHeartbeats 0 in
theorem ok_spn {f fT : Addr} {fd fdT : FuncData} (F : Fun K "_law_span" "_law_span" sSpn f fd) (GT : FnOk P w K mg base CX0 1 fT fdT ["_law_box_here", "_law_size"] spTake) (FT : Fun K "_law_take" "_law_take" sTake fT fdT) (bT : Binds K fdT ["_law_box_here", "_law_size"] []) (T : TruTxt mg fT) :
    FnOk P w K mg base CX0 2 f fd ["_law_box_here", "_law_tall"] spSpn := by
  refine F.ok scSpn (fun vs H Q E h => ?_) (fun cdv A outer s H vs Q E hr h => ?_)
  · obtain ⟨b, l, tall, rfl, _⟩ := h
    rfl
  · obtain ⟨b, l, tall, rfl, B, k⟩ := h
    have hr1 : Room 1 _ := hr
    refine ⟨_, (pss_cons (ps_if (PW.pt (pw_and (pt_cmpR op_gt (pv 1) pe_int (nomark _)) (pw_and1 (pt_cmpR op_eq (pe_call GT hr1 rfl T.take FT.kp bT .nil pass0 (pa_cons (pv 0) (pa_cons pe_int pa_nil))) pe_int (nomark _))))) (pss_one (ps_ret (pe_op op_add pe_int (pe_call GT hr1 rfl T.take FT.kp bT .nil pass0 (pa_cons (pv 0) (pa_cons (pe_op op_pow pe_int pe_int) pa_nil)))))) pss_nil)
      (pss_one (ps_ret (pe_op op_add pe_int (pe_call GT hr1 rfl T.take FT.kp bT .nil pass0 (pa_cons (pv 0) (pa_cons pe_int pa_nil))))))), ?_⟩
    refine ⟨_, rfl, _, _, rfl, rfl, _, rfl, ite2 (fun _ => ?_) (fun _ => ?_)⟩
    · refine ⟨_, rfl, b, l, _, rfl, B, by decide, by decide, fun c H1 c0 c1 B1 k1 => ⟨rfl, _, rfl, ite2 (fun _ => ?_) (fun _ => ?_)⟩⟩
      · refine ⟨_, rfl, _, _, rfl, rfl, pow_ok (by decide), b, l, _, rfl, B1, by decide, by decide +kernel, fun r H2 r0 r1 B2 k2 => ⟨_, _, rfl, rfl, ?_⟩⟩
        have r1 : r < 10 ^ 12 := r1
        exact k _ _ (by omega) (by omega) B2 fun c n => (k2 c n).trans (k1 c n)
      · refine ⟨_, rfl, b, l, _, rfl, B1, by decide, by decide, fun r H2 r0 r1 B2 k2 => ⟨_, _, rfl, rfl, ?_⟩⟩
        exact k _ _ (by omega) (by omega) B2 fun c n => (k2 c n).trans (k1 c n)
    · refine ⟨_, rfl, b, l, _, rfl, B, by decide, by decide, fun r H2 r0 r1 B2 k2 => ⟨_, _, rfl, rfl, ?_⟩⟩
      exact k _ _ (by omega) (by omega) B2 k2
set_option maxHeartbeats 0 in
theorem ok_tru {f fT : Addr} {fd fdT : FuncData} (F : Fun K "_law_truth" "_law_truth" sTru f fd) (GT : FnOk P w K mg base CX0 1 fT fdT ["_law_box_here", "_law_size"] spTake) (FT : Fun K "_law_take" "_law_take" sTake fT fdT) (bT : Binds K fdT ["_law_box_here", "_law_size"] []) (T : TruTxt mg fT) :
    FnOk P w K mg base CX0 2 f fd ["_law_box_here", "_law_top", "_law_slope", "_law_spans"] (spTru K) := by
  refine F.ok scTru (fun vs H Q E h => ?_) (fun cdv A outer s H vs Q E hr h => ?_)
  · obtain ⟨b, l, sp, tp, sl, spans, rfl, _⟩ := h
    rfl
  · obtain ⟨b, l, sp, tp, sl, spans, rfl, B, hsp, t0, t1, s0, s1, hx, hl, k⟩ := h
    have hr1 : Room 1 _ := hr
    refine ⟨_, (pss_cons (ps_set (i := 4) scTru.nd rfl (Or.inl rfl) (pe_lst (pa_cons (pe_call GT hr1 rfl T.take FT.kp bT .nil pass0 (pa_cons (pv 0) (pa_cons (pe_op op_add (pv 1) pe_int) pa_nil))) pa_nil)))
      (pss_cons (ps_for PassesOwn.never rfl (pi_tup (pv 3)) (pg_name (i := 5) scTru.nd rfl (Or.inl rfl)) (pss_cons (ps_set (i := 6) scTru.nd rfl (Or.inl rfl) (pe_callB (call_max2 rfl) (by rfl) T.b_max (by decide +kernel) (pa_cons pe_int (pa_cons (pe_op op_sub (pe_ix ix_list (pv 4) (pe_un un_neg pe_int) (fun _ _ => rfl)) (pe_op op_mulW (pv 2) (pv 5))) pa_nil))))
      (pss_cons (ps_set (i := 7) scTru.nd rfl (Or.inl rfl) (pe_callB (call_min2 rfl) (by rfl) T.b_min (by decide +kernel) (pa_cons (pe_callTy call_int1 (by rfl) T.b_int (by decide +kernel) (pa_cons (pv 1) pa_nil)) (pa_cons (pe_callTy call_int1 (by rfl) T.b_int (by decide +kernel) (pa_cons (pe_op op_add (pe_ix ix_list (pv 4) (pe_un un_neg pe_int) (fun _ _ => rfl)) (pe_op op_mulW (pv 2) (pv 5))) pa_nil)) pa_nil))))
      (pss_one (ps_expr (pe_bm PySem.F.plainAttrs_list PySem.F.slot_list_append PySem.F.type_list_append mt_append (pv 4) (pa_cons (pe_op op_add (pv 6) (pe_call GT hr1 rfl T.take FT.kp bT .nil pass0 (pa_cons (pv 0) (pa_cons (pe_op op_add (pe_op op_sub (pv 7) (pv 6)) pe_int) pa_nil)))) pa_nil)))))))
      (pss_one (ps_ret (pv 4))))), ?_⟩
    have szf : ∀ {z : Int}, 0 ≤ z → z ≤ 10 ^ 17 → z.natAbs < 2 ^ 8000 := fun {z} a b => Nat.lt_of_le_of_lt (show z.natAbs ≤ 10 ^ 17 by omega) (by decide +kernel)
    have szs : ∀ {z : Int}, 0 ≤ z → z ≤ 10 ^ 16 → Sz z := fun {z} a b => Nat.lt_of_le_of_lt (show z.natAbs ≤ 10 ^ 16 by omega) (by decide +kernel)
    refine ⟨_, rfl, _, rfl, _, _, rfl, rfl, b, l, _, rfl, B, by omega, szf (by omega) (by omega), fun h0 H1 h00 h01 B1 k1 => ⟨by show 1 ≤ sizeLine; decide, fun q hq => ?_⟩⟩
    have nqb := Ne.symm (B1.free hq).1
    have nq0 : H q = none := by rw [← k1 q nqb]; exact hq
    have e1 : upd H1 q (.lst [V.int h0]) q = some (.lst (([] ++ [h0]).map V.int)) := upd_same
    have B2 : Box (upd H1 q (.lst [V.int h0])) b l := B1.at (B1.free hq)
    have s2 : SameB b H (upd H1 q (.lst [V.int h0])) := (SameB.of k1).trans (SameB.of_same (same_new hq))
    generalize upd H1 q (.lst [V.int h0]) = H2 at e1 B2 s2
    clear hq k1 B1
    refine ⟨_, rfl, sp, rfl, ⟨_, sqT_sameB hsp B s2⟩, ?_⟩
    refine for_it (walk_tup (xs := spans.map V.int)) (fun i σ' H' => ∃ (v5 v6 v7 : Option V) (hs : List Int) (a : Int), σ' = [some (.ref b), some (.int tp), some (.int sl), some (.ref sp), some (.ref q), v5, v6, v7] ∧ Fit1 tp sl (spans.take i) (hs ++ [a]) ∧ H' q = some (.lst ((hs ++ [a]).map V.int)) ∧ Box H' b l ∧ SameB b H H')
      ⟨none, none, none, [], h0, rfl, ⟨rfl, fun y hy => by (have := List.mem_singleton.mp hy); omega, fun i a c x z1 z2 z3 => by rw [List.take_zero] at z3; cases z3⟩, e1, B2, s2⟩ (fun i σ' H' _ h => by obtain ⟨_, _, _, _, _, _, _, _, B, s⟩ := h; exact sqT_sameB hsp ‹Box H b l› s) ?_ ?_
    · rintro i x σ' H3 H4 hi ⟨v5, v6, v7, hs, a, rfl, F1, e3, B3, s3⟩ ⟨rfl, hxi⟩
      rw [List.length_map] at hi
      rw [List.getElem?_map, List.getElem?_eq_getElem hi] at hxi
      cases hxi
      obtain ⟨x0, x1⟩ := hx _ (List.getElem_mem hi)
      obtain ⟨a0, a1⟩ := F1.top a (List.mem_append_right _ (List.mem_singleton.mpr rfl))
      have hm : 0 ≤ sl * spans[i] := Int.mul_nonneg s0 (by omega)
      have cm : CMulW sl spans[i] := Sz.mul (szs s0 s1).w (szs (by omega) x1).w
      have el : H4 q = some (.lst (hs.map V.int ++ [V.int a])) := by rw [e3, List.map_append]; rfl
      refine ⟨_, rfl, _, rfl, q, _, _, _, rfl, rfl, SqL.of el, atI_last _ _, _, rfl, _, rfl, _, _, rfl, rfl, cm, _, _, rfl, rfl, _, _, rfl, ?_⟩
      obtain ⟨low, hlow, l0, l1, l2⟩ : ∃ low : Int, (if a - sl * spans[i] > 0 then a - sl * spans[i] else 0) = low ∧ 0 ≤ low ∧ low ≤ a ∧ a - sl * spans[i] ≤ low := ⟨_, rfl, by split <;> omega, by split <;> omega, by split <;> omega⟩
      obtain ⟨hig, hhig, g0, g1, g2⟩ : ∃ hig : Int, (if a + sl * spans[i] < tp then a + sl * spans[i] else tp) = hig ∧ a ≤ hig ∧ hig ≤ tp ∧ hig ≤ a + sl * spans[i] := ⟨_, rfl, by split <;> omega, by split <;> omega, by split <;> omega⟩
      rw [hlow]
      refine ⟨_, rfl, .inl ⟨_, rfl, _, rfl, _, rfl, q, _, _, _, rfl, rfl, SqL.of el, atI_last _ _, _, rfl, _, rfl, _, _, rfl, rfl, cm, _, _, rfl, rfl, .inl ⟨_, rfl, _, _, rfl, ?_⟩⟩⟩
      rw [hhig]
      refine ⟨_, rfl, .inl ⟨rfl, _, SqL.of el⟩, _, rfl, _, rfl, _, rfl, _, rfl, _, _, rfl, rfl, _, _, rfl, rfl, b, l, _, rfl, B3, by omega, szf (by omega) (by omega), fun r H5 r0 r1 B5 k5 => ?_⟩
      have el5 := (k5 q nqb).trans el
      have fl := F1.len
      rw [List.length_append, List.length_take] at fl
      have fl2 : hs.length + 1 = min i spans.length + 1 := fl
      have s5 := s3.trans (SameB.of k5)
      refine ⟨_, _, rfl, rfl, q, _, _, rfl, rfl, el5, small1000 (by rw [List.length_append, List.length_map]; show hs.length + 1 ≤ 1000; omega), _, _, _, hs ++ [a], low + r, rfl, ?_, ?_, B5.at (B.free nq0), ?_⟩
      · rw [List.take_succ, List.getElem?_eq_getElem hi]
        exact F1.snoc (by omega) (by omega) (by omega) (by omega)
      · rw [upd_same, List.map_append, List.map_append]
        rfl
      · intro c o nc e
        rw [upd_ne (fun z => by rw [z, nq0] at e; cases e)]
        exact s5 c o nc e
    rintro σ' H3 ⟨v5, v6, v7, hs, a, rfl, F1, e3, B3, s3⟩
    rw [List.length_map, List.take_length] at F1
    exact ⟨_, rfl, k q _ _ nq0 F1 e3 B3 s3⟩
end
end Law

/-! The law's sites. -/
namespace Law
open PySem PySem.Spec PyProof.Rows L2 Sup
abbrev sSpc : Stmt := top 61
/-- the height of a node; the ground's is 0 -/
def pot (hs : List Int) (a : Int) : Int := if a < 0 then 0 else hs.getD a.toNat 0
theorem pot_nat (hs : List Int) (i : Nat) : pot hs (i : Int) = hs.getD i 0 := by
  unfold pot
  rw [if_neg (by omega)]
  rfl
theorem pot_app {hs hs' : List Int} {a : Int} (h : a < hs.length) : pot (hs ++ hs') a = pot hs a := by
  unfold pot
  split
  · rfl
  · rw [List.getD_eq_getElem?_getD, List.getD_eq_getElem?_getD, List.getElem?_append_left (by omega)]
/-- heights that all walls allow -/
structure Fits (ws : List Wal) (hs : List Int) : Prop where
  len : hs.length = places ws
  top : ∀ (i : Nat) (t h : Int), (topsOf ws)[i]? = some t → hs[i]? = some h → 0 ≤ h ∧ h ≤ t
  slope : ∀ e ∈ slopeN 0 ws, pot hs e.2.1 - pot hs e.1 ≤ e.2.2
theorem Fits.snoc {ws : List Wal} {hs hs' : List Int} {w : Wal} (h : Fits ws hs) (f : Fit1 w.2.1 w.2.2.1 w.2.2.2 hs') : Fits (ws ++ [w]) (hs ++ hs') := by
  have hl := h.len
  have fl := f.len
  have wm : w.many = w.2.2.2.length + 1 := rfl
  have tl : (topsOf ws).length = places ws := (tops_len ws).trans (spots_places ws)
  refine ⟨by rw [List.length_append, places_snoc, hl, fl, wm], fun i t x e1 e2 => ?_, fun e he => ?_⟩
  · have et : topsOf (ws ++ [w]) = topsOf ws ++ topsW w := by
      unfold topsOf
      rw [List.flatMap_append, List.flatMap_singleton]
    rw [et] at e1
    by_cases c : i < hs.length
    · rw [List.getElem?_append_left (by omega)] at e1
      rw [List.getElem?_append_left c] at e2
      exact h.top i t x e1 e2
    · rw [List.getElem?_append_right (by omega)] at e1
      rw [List.getElem?_append_right (by omega)] at e2
      have := List.eq_of_mem_replicate (List.mem_of_getElem? e1)
      subst this
      exact f.top x (List.mem_of_getElem? e2)
  · rw [slopeN_snoc, Int.zero_add] at he
    rcases List.mem_append.mp he with he | he
    · obtain ⟨a, v, x, _, _, p1, p2, q⟩ := slope_mem ws 0 he
      rw [Int.zero_add] at p2
      have s := h.slope e he
      rw [pot_app (by rcases q with rfl | rfl <;> (simp only []; omega)), pot_app (by rcases q with rfl | rfl <;> (simp only []; omega))]
      exact s
    · obtain ⟨i, x, e1, q⟩ := span_mem _ _ _ he
      have il := (List.getElem?_eq_some_iff.mp e1).1
      obtain ⟨u, hu⟩ : ∃ u, hs'[i]? = some u := ⟨_, List.getElem?_eq_getElem (by omega)⟩
      obtain ⟨v, hv⟩ : ∃ v, hs'[i + 1]? = some v := ⟨_, List.getElem?_eq_getElem (by omega)⟩
      obtain ⟨g1, g2⟩ := f.slope i u v x hu hv e1
      have p1 : pot (hs ++ hs') ((places ws : Nat) + (i : Nat) : Int) = u := by
        rw [show (((places ws : Nat) : Int) + (i : Nat)) = ((hs.length + i : Nat) : Int) by omega, pot_nat, List.getD_eq_getElem?_getD, List.getElem?_append_right (by omega), show hs.length + i - hs.length = i by omega, hu]
        rfl
      have p2 : pot (hs ++ hs') ((places ws : Nat) + (i : Nat) + 1 : Int) = v := by
        rw [show (((places ws : Nat) : Int) + (i : Nat) + 1) = ((hs.length + (i + 1) : Nat) : Int) by omega, pot_nat, List.getD_eq_getElem?_getD, List.getElem?_append_right (by omega), show hs.length + (i + 1) - hs.length = i + 1 by omega, hv]
        rfl
      rcases q with rfl | rfl
      · simp only []
        rw [p1, p2]
        exact g1
      · simp only []
        rw [p1, p2]
        exact g2
def names3 : List Str := ["east", "north", "west"]
structure Spec (tall many : Int) (ws : List Wal) (hs : List Int) : Prop where
  names : ws.map (·.1) = names3.take ws.length
  one : 1 ≤ places ws
  most : ((places ws : Nat) : Int) ≤ many
  num : ∀ w ∈ ws, (0 ≤ w.2.1 ∧ w.2.1 ≤ tall) ∧ (0 ≤ w.2.2.1 ∧ w.2.2.1 ≤ 10 ^ 16) ∧ ∀ x ∈ w.2.2.2, 1 ≤ x ∧ x ≤ 10 ^ 12
  fits : Fits ws hs
def spSpc (K : PySem.W.Frag) : Sp := fun vs H Q _ => ∃ (b l : Addr) (many tall : Int), vs = [.ref b, .int many, .int tall] ∧ Box H b l ∧ 1 ≤ many ∧ many ≤ 20 ∧ 0 ≤ tall ∧ tall ≤ 10 ^ 15 ∧
  ∀ (u p t : Addr) (ws : List Wal) (hs : List Int) (H' : Hp), H' u = some (.tup [.ref p, .ref t]) → H p = none → H t = none → p ≠ t → WalsAt K H' p ws → H' t = some (.lst (hs.map V.int)) → Box H' b l → SameB b H H' → Spec tall many ws hs → Q (.ref u) H'
/-- the world while walls are drawn -/
structure SW (K : PySem.W.Frag) (H0 H : Hp) (b l p lq t : Addr) (ws : List Wal) (hs : List Int) : Prop where
  B : Box H b l
  W : WalsAt K H p ws
  T : H t = some (.lst (hs.map V.int))
  L : H lq = some (.lst (names3.map V.str))
  S : SameB b H0 H
  np : H0 p = none
  nt : H0 t = none
  fp : b ≠ p ∧ l ≠ p
  npt : t ≠ p
section
variable {K : PySem.W.Frag} {H0 H H' : Hp} {b l p lq t : Addr} {ws : List Wal} {hs : List Int}
theorem SW.same (h : SW K H0 H b l p lq t ws hs) (s : Same H H') : SW K H0 H' b l p lq t ws hs := ⟨h.B.same s, h.W.same s, s _ _ h.T, s _ _ h.L, h.S.trans (SameB.of_same s), h.np, h.nt, h.fp, h.npt⟩
theorem SW.nl (h : SW K H0 H b l p lq t ws hs) : lq ≠ b := fun z => by
  obtain ⟨_, _, _, _, q, _⟩ := h.B
  have e := h.L
  rw [z, q] at e
  have e := HO.lst.inj (Option.some.inj e)
  injection e with e _
  cases e
theorem Box.neZ {H : Hp} {b l p : Addr} {ns : List Int} (B : Box H b l) (h : H p = some (.lst (ns.map V.int))) : p ≠ b := fun z => by
  obtain ⟨_, _, _, _, q, _⟩ := B
  rw [z, q] at h
  have e := HO.lst.inj (Option.some.inj h)
  match ns, e with
  | [], e => cases e
  | _ :: _, e =>
    rw [List.map_cons] at e
    injection e with e _
    cases e
theorem SW.draw (h : SW K H0 H b l p lq t ws hs) (B : Box H' b l) (s : SameB b H H') : SW K H0 H' b l p lq t ws hs := ⟨B, h.W.sameB h.B s, s _ _ (h.B.neZ h.T) h.T, s _ _ h.nl h.L, h.S.trans s, h.np, h.nt, h.fp, h.npt⟩
theorem SW.put (h : SW K H0 H b l p lq t ws hs) {q sp : Addr} {w : Wal} (hq : H q = none) (hs' : SqT K H sp (w.2.2.2.map V.int)) (hl : ws.length ≤ 900) :
    ∃ acc, upd H q (.tup [.str w.1, .int w.2.1, .int w.2.2.1, .ref sp]) p = some (.lst acc) ∧ acc.length < sizeLine ∧ SW K H0 (upd (upd H q (.tup [.str w.1, .int w.2.1, .int w.2.2.1, .ref sp])) p (.lst (acc ++ [.ref q]))) b l p lq t (ws ++ [w]) hs := by
  have s := same_new (o := .tup [.str w.1, .int w.2.1, .int w.2.2.1, .ref sp]) hq
  obtain ⟨acc, a1, a2, a3⟩ := h.W.push hq hs' hl
  have g := h.same s
  have nlp : lq ≠ p := fun z => by
    obtain ⟨ts, e1, _⟩ := g.W
    have e := g.L
    rw [z, e1] at e
    have e := HO.lst.inj (Option.some.inj e)
    cases ts with
    | nil => cases e
    | cons a r => injection e with e _; cases e
  exact ⟨acc, a1, a2, ⟨g.B.at h.fp, a3, by rw [upd_ne h.npt]; exact g.T, by rw [upd_ne nlp]; exact g.L, fun c o nc e => by
    rw [upd_ne (fun z => by rw [z, h.np] at e; cases e)]
    exact g.S c o nc e, h.np, h.nt, h.fp, h.npt⟩⟩
end
theorem back_none {b d : Addr} {H H' : Hp} (S : SameB b H H') (h : H' d = none) (n : d ≠ b) : H d = none := by
  cases e : H d with
  | none => rfl
  | some o => rw [S _ _ n e] at h; cases h
theorem SW.new {K : PySem.W.Frag} {H0 H : Hp} {b l p lq t t2 : Addr} {ws : List Wal} {hs hs2 : List Int} (h : SW K H0 H b l p lq t ws hs) (h2 : H t2 = none) : SW K H0 (upd H t2 (.lst (hs2.map V.int))) b l p lq t2 ws hs2 := by
  have s := same_new (o := .lst (hs2.map V.int)) h2
  have g := h.same s
  exact ⟨g.B, g.W, upd_same, g.L, g.S, g.np, back_none h.S h2 (Ne.symm (h.B.free h2).1), g.fp, fun z => by
    obtain ⟨_, q, _⟩ := h.W
    rw [z, q] at h2
    cases h2⟩
structure SpcTxt (mg : Str → Option Value) (fT fTr fSn : Addr) : Prop where
  take : mg "_law_take" = some (.ref fT)
  truth : mg "_law_truth" = some (.ref fTr)
  span : mg "_law_span" = some (.ref fSn)
  b_range : mg "range" = none
  b_tuple : mg "tuple" = none
section
variable {P : Program} {w : World} {K : PySem.W.Frag} {mg : Str → Option Value} {base : Heap}
theorem scSpc : FnScope ["_law_box_here", "_law_many", "_law_tall", "_law_shuts", "_law_truth_here", "_law_left", "_law_name", "_law_size", "_law_top", "_law_slope", "_law_spans", "_law_k"] ["_law_box_here", "_law_many", "_law_tall"] (defScope sSpc) := ⟨rfl, rfl, rfl, by decide +kernel, rfl, by decide +kernel, by decide +kernel⟩
set_option maxHeartbeats 0 in
theorem ok_spc {f fT fTr fSn : Addr} {fd fdT fdTr fdSn : FuncData} (F : Fun K "_law_spec" "_law_spec" sSpc f fd) (GT : FnOk P w K mg base CX0 1 fT fdT ["_law_box_here", "_law_size"] spTake) (FT : Fun K "_law_take" "_law_take" sTake fT fdT) (bT : Binds K fdT ["_law_box_here", "_law_size"] [])
    (GTr : FnOk P w K mg base CX0 2 fTr fdTr ["_law_box_here", "_law_top", "_law_slope", "_law_spans"] (spTru K)) (FTr : Fun K "_law_truth" "_law_truth" sTru fTr fdTr) (bTr : Binds K fdTr ["_law_box_here", "_law_top", "_law_slope", "_law_spans"] [])
    (GSn : FnOk P w K mg base CX0 2 fSn fdSn ["_law_box_here", "_law_tall"] spSpn) (FSn : Fun K "_law_span" "_law_span" sSpn fSn fdSn) (bSn : Binds K fdSn ["_law_box_here", "_law_tall"] []) (T : SpcTxt mg fT fTr fSn) :
    FnOk P w K mg base CX0 3 f fd ["_law_box_here", "_law_many", "_law_tall"] (spSpc K) := by
  refine F.ok scSpc (fun vs H Q E h => ?_) (fun cdv A outer s H vs Q E hr h => ?_)
  · obtain ⟨b, l, many, tall, rfl, _⟩ := h
    rfl
  · obtain ⟨b, l, many, tall, rfl, B, m1, m2, t0, t1, k⟩ := h
    have hr2 : Room 2 _ := hr
    have hr1 : Room 1 _ := hr.mono (by decide)
    refine ⟨_, (pss_cons (ps_set (i := 3) scSpc.nd rfl (Or.inl rfl) (pe_lst pa_nil))
      (pss_cons (ps_set (i := 4) scSpc.nd rfl (Or.inl rfl) (pe_lst pa_nil))
      (pss_cons (ps_set (i := 5) scSpc.nd rfl (Or.inl rfl) (pe_op op_add pe_int (pe_call GT hr1 rfl T.take FT.kp bT .nil pass0 (pa_cons (pv 0) (pa_cons (pv 1) pa_nil)))))
      (pss_cons (ps_for PassesOwn.never rfl (pi_list (pe_lst (pa_cons pe_str (pa_cons pe_str (pa_cons pe_str pa_nil))))) (pg_name (i := 6) scSpc.nd rfl (Or.inl rfl)) (pss_cons (ps_if (pt_cmpR op_lt (pv 5) pe_int (nomark _)) (pss_one ps_break) pss_nil)
      (pss_cons (ps_set (i := 7) scSpc.nd rfl (Or.inl rfl) (pe_op op_add pe_int (pe_call GT hr1 rfl T.take FT.kp bT .nil pass0 (pa_cons (pv 0) (pa_cons (pv 5) pa_nil)))))
      (C8.pss_cut (ps_if (pt_cmpR op_eq (pv 6) pe_str (nomark _)) (pss_one (ps_set (i := 7) scSpc.nd rfl (Or.inl rfl) (pv 5))) pss_nil)
      (pss_cons (ps_set (i := 8) scSpc.nd rfl (Or.inl rfl) (pe_call GT hr1 rfl T.take FT.kp bT .nil pass0 (pa_cons (pv 0) (pa_cons (pe_op op_add (pv 2) pe_int) pa_nil))))
      (pss_cons (ps_set (i := 9) scSpc.nd rfl (Or.inl rfl) (pe_call GT hr1 rfl T.take FT.kp bT .nil pass0 (pa_cons (pv 0) (pa_cons pe_int pa_nil))))
      (C8.pss_cut (ps_if (pt_cmpR op_eq (pe_call GT hr1 rfl T.take FT.kp bT .nil pass0 (pa_cons (pv 0) (pa_cons pe_int pa_nil))) pe_int (nomark _)) (pss_one (ps_set (i := 9) scSpc.nd rfl (Or.inl rfl) (pe_call GT hr1 rfl T.take FT.kp bT .nil pass0 (pa_cons (pv 0) (pa_cons (pe_op op_add (pv 2) pe_int) pa_nil))))) pss_nil)
      (pss_cons (ps_set (i := 10) scSpc.nd rfl (Or.inl rfl) (pe_tupleOf (by rfl) T.b_tuple (pe_lc (own := [("_law_k", 11)]) (g := gName 11) (tt := tYes) (by rfl) scSpc.nd (pi_range1 (by rfl) T.b_range (pa_cons (pe_op op_sub (pv 7) pe_int) pa_nil)) (blkOk_by (own := [("_law_k", 11)]) (N := ["_law_box_here", "_law_many", "_law_tall", "_law_shuts", "_law_truth_here", "_law_left", "_law_name", "_law_size", "_law_top", "_law_slope", "_law_spans", "_law_k"]) (sc := defScope sSpc) (by decide +kernel)) (fun _ _ _ _ _ => pg_name (i := 11) scSpc.nd rfl (Or.inl rfl)) (fun _ _ _ _ _ => pts_nil) (fun _ _ _ _ _ => (pe_call GSn hr2 rfl T.span FSn.kp bSn .nil pass0 (pa_cons (pv 0) (pa_cons (pv 2) pa_nil)))))))
      (pss_cons (ps_expr (pe_bm PySem.F.plainAttrs_list PySem.F.slot_list_append PySem.F.type_list_append mt_append (pv 3) (pa_cons (pe_tup (pa_cons (pv 6) (pa_cons (pv 8) (pa_cons (pv 9) (pa_cons (pv 10) pa_nil))))) pa_nil)))
      (pss_cons (ps_set (i := 4) scSpc.nd rfl (Or.inl rfl) (pe_op op_cat (pv 4) (pe_call GTr hr2 rfl T.truth FTr.kp bTr .nil pass0 (pa_cons (pv 0) (pa_cons (pv 8) (pa_cons (pv 9) (pa_cons (pv 10) pa_nil)))))))
      (pss_one (ps_set (i := 5) scSpc.nd rfl (Or.inl rfl) (pe_op op_sub (pv 5) (pv 7))))))))))))))
      (pss_one (ps_ret (pe_tup (pa_cons (pv 3) (pa_cons (pv 4) pa_nil))))))))), ?_⟩
    have szf : ∀ {z : Int}, 0 ≤ z → z ≤ 10 ^ 17 → z.natAbs < 2 ^ 8000 := fun {z} a b => Nat.lt_of_le_of_lt (show z.natAbs ≤ 10 ^ 17 by omega) (by decide +kernel)
    refine ⟨by show 0 ≤ sizeLine; decide, fun p hp => ⟨by show 0 ≤ sizeLine; decide, fun t ht => ?_⟩⟩
    have s1 := same_new (o := .lst []) hp
    have s2 := same_new (o := .lst []) ht
    have ep := s2 _ _ (upd_same (H := H) (a := p) (o := .lst []))
    have et : upd (upd H p (.lst [])) t (.lst []) t = some (.lst []) := upd_same
    have ntp : t ≠ p := Ne.symm (ne_of_none (upd_same (H := H) (a := p) (o := .lst [])) ht)
    have nt0 : H t = none := by
      cases e : H t with
      | none => rfl
      | some o => rw [s1 _ _ e] at ht; cases ht
    have S12 := same_tr s1 s2
    have B1 := B.same S12
    generalize upd (upd H p (.lst [])) t (.lst []) = H1 at ep et S12 B1
    refine ⟨_, rfl, _, rfl, b, l, _, rfl, B1, by omega, szf (by omega) (by omega), fun n H2 n0 n1 B2 k2 => ⟨_, _, rfl, rfl, ?_⟩⟩
    refine ⟨by show 3 ≤ sizeLine; decide, fun lq hlq => ?_⟩
    have fp := B.free hp
    have W0 : SW K H (upd H2 lq (.lst [V.str "east", V.str "north", V.str "west"])) b l p lq t [] [] := by
      have sq := same_new (o := .lst [V.str "east", V.str "north", V.str "west"]) hlq
      exact ⟨B2.same sq, ⟨[], sq _ _ ((k2 p (Ne.symm fp.1)).trans ep), rfl, fun i t e z => by cases z⟩, sq _ _ ((k2 t (Ne.symm (B.free nt0).1)).trans et), upd_same, ((SameB.of_same S12).trans (SameB.of k2)).trans (SameB.of_same sq), hp, nt0, fp, ntp⟩
    have fin : ∀ {H' : Hp} {t' : Addr} {ws : List Wal} {hs : List Int}, SW K H H' b l p lq t' ws hs → Spec tall many ws hs → ∀ u, H' u = none → Q (.ref u) (upd H' u (.tup [.ref p, .ref t'])) := fun W S u hu =>
      have s := same_new hu
      k u p _ _ _ _ upd_same W.np W.nt (Ne.symm W.npt) (W.W.same s) (s _ _ W.T) (W.B.same s) (W.S.trans (SameB.of_same s)) S
    generalize upd H2 lq (.lst [V.str "east", V.str "north", V.str "west"]) = H3 at W0
    clear hlq k2 B2 S12 B1 et ep s1 s2
    refine ⟨lq, rfl, ⟨_, SqL.of W0.L⟩, ?_⟩
    refine for_it (walk_list (xs := names3.map V.str)) (fun i σ' H' => ∃ (v6 v7 v8 v9 v10 : Option V) (t' : Addr) (left : Int) (ws : List Wal) (hs : List Int), σ' = [some (.ref b), some (.int many), some (.int tall), some (.ref p), some (.ref t'), some (.int left), v6, v7, v8, v9, v10, none] ∧ SW K H H' b l p lq t' ws hs ∧ ws.length = i ∧ 0 ≤ left ∧ left + (places ws : Nat) = 1 + n ∧ (i = 0 ∨ 1 ≤ places ws) ∧
        ws.map (·.1) = names3.take ws.length ∧ (∀ w ∈ ws, (0 ≤ w.2.1 ∧ w.2.1 ≤ tall) ∧ (0 ≤ w.2.2.1 ∧ w.2.2.1 ≤ 10 ^ 16) ∧ ∀ x ∈ w.2.2.2, 1 ≤ x ∧ x ≤ 10 ^ 12) ∧ Fits ws hs)
      ⟨none, none, none, none, none, t, 1 + n, [], [], rfl, W0, rfl, by omega, by show 1 + n + 0 = 1 + n; omega, .inl rfl, rfl, (fun _ h => by cases h), ⟨rfl, (fun i t h e _ => by cases e), (fun e he => by cases he)⟩⟩
      (fun i σ' H' _ h => by obtain ⟨_, _, _, _, _, _, _, _, _, _, W, _⟩ := h; exact SqL.of W.L) ?_ ?_
    · rintro i x σ' H4 H5 hi ⟨v6, v7, v8, v9, v10, t', left, ws, hs, rfl, W, wl, l0, lp, ip, nm, nu, F⟩ ⟨rfl, hx⟩
      obtain ⟨y, hy⟩ : ∃ y, names3[i]? = some y := ⟨_, List.getElem?_eq_getElem (by rw [List.length_map] at hi; exact hi)⟩
      rw [List.getElem?_map, hy] at hx
      cases hx
      refine ⟨_, rfl, _, _, rfl, rfl, _, rfl, ite2 (fun c => ?_) (fun c => ?_)⟩
      · have c : left < 1 := of_decide_eq_true c
        refine ⟨_, rfl, _, rfl, by show 2 ≤ sizeLine; decide, fin W ⟨nm, ?_, by omega, nu, F⟩⟩
        rcases ip with rfl | z
        · have : ws = [] := List.length_eq_zero_iff.mp wl
          subst this
          have : ((places [] : Nat) : Int) = 0 := rfl
          omega
        · exact z
      have c : 1 ≤ left := by
        have : ¬ left < 1 := fun z => c (decide_eq_true z)
        omega
      have n3 : ws.length < 3 := by rw [wl]; exact hi
      refine ⟨_, rfl, _, rfl, b, l, _, rfl, W.B, by omega, szf (by omega) (by omega), fun r H6 r0 r1 B6 k6 => ⟨_, _, rfl, rfl, ?_⟩⟩
      have W6 := W.draw B6 (SameB.of k6)
      refine ⟨fun σ2 H' => ∃ size : Int, σ2 = [some (.ref b), some (.int many), some (.int tall), some (.ref p), some (.ref t'), some (.int left), some (.str y), some (.int size), v8, v9, v10, none] ∧ 1 ≤ size ∧ size ≤ left ∧ SW K H H' b l p lq t' ws hs, ?_, ?_⟩
      · exact ⟨_, rfl, rfl, _, rfl, ite2 (fun _ => ⟨_, rfl, left, rfl, by omega, by omega, W6⟩) (fun _ => ⟨1 + r, rfl, by omega, by omega, W6⟩)⟩
      clear W W6 k6 B6
      rintro σ2 H6 ⟨size, rfl, z1, z2, W⟩
      refine ⟨_, rfl, _, rfl, _, _, rfl, rfl, b, l, _, rfl, W.B, by omega, szf (by omega) (by omega), fun tp H7 p0 p1 B7 k7 => ?_⟩
      have W7 := W.draw B7 (SameB.of k7)
      refine ⟨_, rfl, b, l, _, rfl, W7.B, by decide, by decide, fun sl0 H8 q0 q1 B8 k8 => ?_⟩
      have W8 := W7.draw B8 (SameB.of k8)
      refine ⟨fun σ2 H' => ∃ sl : Int, σ2 = [some (.ref b), some (.int many), some (.int tall), some (.ref p), some (.ref t'), some (.int left), some (.str y), some (.int size), some (.int tp), some (.int sl), v10, none] ∧ 0 ≤ sl ∧ sl ≤ 10 ^ 16 ∧ SW K H H' b l p lq t' ws hs, ?_, ?_⟩
      · refine ⟨_, rfl, b, l, _, rfl, W8.B, by decide, by decide, fun c H9 c0 c1 B9 k9 => ?_⟩
        have W9 := W8.draw B9 (SameB.of k9)
        refine ⟨rfl, _, rfl, ite2 (fun _ => ⟨_, rfl, _, rfl, _, _, rfl, rfl, b, l, _, rfl, W9.B, by omega, szf (by omega) (by omega), fun sl H10 s0 s1 B10 k10 => ?_⟩) (fun _ => ⟨sl0, rfl, q0, by omega, W9⟩)⟩
        exact ⟨sl, rfl, s0, by omega, W9.draw B10 (SameB.of k10)⟩
      clear W W7 W8 k7 B7 k8 B8
      rintro σ2 H8 ⟨sl, rfl, s0, s1, W⟩
      refine ⟨_, rfl, _, _, rfl, rfl, _, rfl, by omega, by omega, fun D3 hD3 => ?_⟩
      have nDb3 : D3 ≠ b := Ne.symm (W.B.free hD3).1
      refine lc_range (lo := 0) (n := (size - 1).toNat) (fun j H' => ∃ xs : List Int, H' D3 = some (.lst (xs.map V.int)) ∧ xs.length = j ∧ (∀ x ∈ xs, 1 ≤ x ∧ x ≤ 10 ^ 12) ∧ Box H' b l ∧ SameB b H8 H')
        ⟨[], upd_same, rfl, (fun _ h => nomatch h), W.B.at (W.B.free hD3), fun c o nc e => same_new hD3 _ _ e⟩ ?_ ?_
      · rintro j H11 hj ⟨xs, y1, y2, y3, B11, s11⟩
        refine ⟨rfl, _, rfl, _, rfl, b, l, _, rfl, B11, fun r H12 r0 r1 B12 k12 => ?_⟩
        refine ⟨_, (k12 D3 nDb3).trans y1, small1000 (by rw [List.length_map]; omega), xs ++ [r], ?_, by rw [List.length_append, y2]; rfl, fun y hy => ?_, ?_, ?_⟩
        · rw [upd_same, List.map_append]
          rfl
        · rcases List.mem_append.mp hy with hy | hy
          · exact y3 y hy
          · rw [List.mem_singleton] at hy
            omega
        · refine B12.keep fun d hd => upd_ne ?_
          rcases hd with rfl | rfl
          · exact Ne.symm nDb3
          · exact (W.B.free hD3).2
        · intro d o nd e
          rw [upd_ne (ne_of_none e hD3), k12 d nd]
          exact s11 d o nd e
      rintro H11 ⟨xs, y1, y2, y3, B11, s11⟩
      have W11 := W.draw B11 s11
      refine .inl ⟨D3, _, rfl, SqL.of y1, fun sp hsp => ?_⟩
      have s12 := same_new (o := .tup (xs.map V.int)) hsp
      have e12 : upd H11 sp (.tup (xs.map V.int)) sp = some (.tup (xs.map V.int)) := upd_same
      have W12 := W11.same s12
      generalize upd H11 sp (.tup (xs.map V.int)) = H12 at e12 W12
      clear W11 s11 B11 y1 hD3 s12 hsp W
      obtain ⟨zs, z3⟩ : ∃ zs, H12 p = some (.lst zs) := by
        obtain ⟨ts, a, _⟩ := W12.W
        exact ⟨_, a⟩
      refine ⟨_, rfl, .inl ⟨rfl, _, SqL.of z3⟩, _, rfl, _, rfl, _, rfl, _, rfl, by show 4 ≤ sizeLine; decide, fun t2 ht2 => ?_⟩
      obtain ⟨acc, a1, a2, W13⟩ := W12.put (w := (y, tp, sl, xs)) ht2 (SqT.of e12) (by omega)
      refine ⟨p, acc, _, rfl, rfl, a1, a2, ?_⟩
      have e13 : (upd (upd H12 t2 (.tup [.str y, .int tp, .int sl, .ref sp])) p (.lst (acc ++ [.ref t2]))) sp = some (.tup (xs.map V.int)) := by
        rw [upd_ne (fun z => by rw [z, z3] at e12; cases e12), upd_ne (ne_of_none e12 ht2)]
        exact e12
      have W13 : SW K H (upd (upd H12 t2 (.tup [.str y, .int tp, .int sl, .ref sp])) p (.lst (acc ++ [.ref t2]))) b l p lq t' (ws ++ [(y, tp, sl, xs)]) hs := W13
      generalize upd (upd H12 t2 (.tup [.str y, .int tp, .int sl, .ref sp])) p (.lst (acc ++ [.ref t2])) = H13 at e13 W13
      clear a1 a2 z3 e12 ht2 W12
      refine ⟨_, rfl, _, rfl, _, rfl, _, rfl, _, rfl, b, l, sp, _, _, _, rfl, W13.B, SqT.of e13, p0, by omega, s0, s1, fun x hx => ⟨(y3 x hx).1, by have := (y3 x hx).2; omega⟩, by omega, fun q hs2 H14 nq F1 e14 B14 S14 => ?_⟩
      have W14 := W13.draw B14 S14
      have hl := F.len
      have fl := F1.len
      have pm : (places (ws ++ [(y, tp, sl, xs)]) : Nat) = places ws + (xs.length + 1) := by rw [places_snoc]; rfl
      refine ⟨t', q, _, _, rfl, rfl, W14.T, e14, Nat.le_of_lt (small1000 (by rw [List.length_map, List.length_map]; omega)), fun t2 ht2 => ?_⟩
      have W15 := W14.new (hs2 := hs ++ hs2) ht2
      rw [List.map_append] at W15
      refine ⟨_, rfl, _, rfl, _, _, rfl, rfl, _, _, _, _, _, t2, left - size, ws ++ [(y, tp, sl, xs)], hs ++ hs2, rfl, W15, by rw [List.length_append, wl]; rfl, by omega, by rw [pm]; omega, .inr (by rw [pm]; omega), ?_, fun v hv => ?_, F.snoc F1⟩
      · rw [List.map_append, nm, List.length_append, wl]
        show _ = names3.take (i + 1)
        rw [List.take_succ, hy]
        rfl
      · rcases List.mem_append.mp hv with hv | hv
        · exact nu v hv
        · rw [List.mem_singleton] at hv
          subst hv
          exact ⟨⟨p0, by (show tp ≤ tall); omega⟩, ⟨s0, s1⟩, y3⟩
    rintro σ' H4 ⟨v6, v7, v8, v9, v10, t', left, ws, hs, rfl, W, wl, l0, lp, ip, nm, nu, F⟩
    exact ⟨_, rfl, _, rfl, by show 2 ≤ sizeLine; decide, fin W ⟨nm, ip.resolve_left (by decide), by omega, nu, F⟩⟩
end
end Law

/-! The law's links and steps. -/
namespace Law
open PySem PySem.Spec PyProof.Rows L2 Sup
abbrev sLkL : Stmt := top 62
abbrev sStp : Stmt := top 67
theorem sqT_lst {K : PySem.W.Frag} {H : Hp} {p a : Addr} {ys zs xs : List V} (hp : H p = some (.lst ys)) (h : SqT K H a xs) : SqT K (upd H p (.lst zs)) a xs := by
  rcases h with (h | ⟨o, h⟩) | h
  · exact .inl (.inl (by rw [upd_ne (fun z => by rw [z, hp] at h; cases h)]; exact h))
  · exact .inl (.inr ⟨o, by rw [upd_ne (fun z => by rw [z, hp] at h; cases h)]; exact h⟩)
  · exact .inr h
theorem LnksAt.sameB {K : PySem.W.Frag} {H H' : Hp} {b l p : Addr} {ls : List Lnk} (h : LnksAt K H p ls) (B : Box H b l) (s : SameB b H H') : LnksAt K H' p ls := by
  obtain ⟨ts, h1, h2, h3⟩ := h
  exact ⟨ts, s _ _ (B.neL3 h1) h1, h2, fun i t w e1 e2 => sqT_sameB (h3 i t w e1 e2) B s⟩
/-- a link that the heights keep -/
structure LinkOk (hs : List Int) (x : Lnk) : Prop where
  f : 0 ≤ x.1 ∧ x.1 < hs.length
  s : 0 ≤ x.2.1 ∧ x.2.1 < hs.length
  ne : x.2.1 ≠ x.1
  lo : x.2.2.1 ≤ pot hs x.2.1 - pot hs x.1
  hi : pot hs x.2.1 - pot hs x.1 ≤ x.2.2.2
def spLkL (K : PySem.W.Frag) : Sp := fun vs H Q _ => ∃ (b l t : Addr) (hs : List Int) (room : Int), vs = [.ref b, .ref t, .int room] ∧ Box H b l ∧ H t = some (.lst (hs.map V.int)) ∧ 1 ≤ hs.length ∧ hs.length ≤ 100 ∧ 1 ≤ room ∧ room ≤ 10 ^ 15 ∧
  ∀ (q : Addr) (ls : List Lnk) (H' : Hp), H q = none → LnksAt K H' q ls → ls.length ≤ 2 → (∀ x ∈ ls, LinkOk hs x) → Box H' b l → SameB b H H' → Q (.ref q) H'
def stepsW : Int → List Wal → List Edge
  | _, [] => []
  | p, w :: ws => (groundN p (topsW w) ++ spanN w.2.2.1 p w.2.2.2) ++ stepsW (p + w.many) ws
def stepsOf (ws : List Wal) (ls : List Lnk) : List Edge := stepsW 0 ws ++ ls.flatMap linkE
theorem stepsW_snoc : ∀ (p : Int) (l : List Wal) (w : Wal), stepsW p (l ++ [w]) = stepsW p l ++ (groundN (p + places l) (topsW w) ++ spanN w.2.2.1 (p + places l) w.2.2.2)
  | p, [], w => by
    show (groundN p (topsW w) ++ spanN w.2.2.1 p w.2.2.2) ++ [] = [] ++ (groundN (p + (0 : Nat)) (topsW w) ++ spanN w.2.2.1 (p + (0 : Nat)) w.2.2.2)
    rw [List.append_nil, List.nil_append, show p + ((0 : Nat) : Int) = p by omega]
  | p, v :: l, w => by
    have ih := stepsW_snoc (p + v.many) l w
    show (groundN p (topsW v) ++ spanN v.2.2.1 p v.2.2.2) ++ stepsW (p + v.many) (l ++ [w]) = _
    rw [ih, show p + (v.many : Nat) + (places l : Nat) = p + ((places (v :: l) : Nat) : Int) by show _ = p + ((v.many + places l : Nat) : Int); omega, ← List.append_assoc]
    rfl
theorem stepsW_len : ∀ (p : Int) (l : List Wal), (stepsW p l).length ≤ 4 * places l
  | _, [] => Nat.zero_le _
  | p, v :: l => by
    have ih := stepsW_len (p + v.many) l
    show ((groundN p (topsW v) ++ spanN v.2.2.1 p v.2.2.2) ++ stepsW (p + v.many) l).length ≤ 4 * (v.many + places l)
    rw [List.length_append, List.length_append, groundN_len, spanN_len]
    have : (topsW v).length = v.many := List.length_replicate
    have : v.many = v.2.2.2.length + 1 := rfl
    omega
theorem groundN_app : ∀ (p : Int) (xs ys : List Int), groundN p (xs ++ ys) = groundN p xs ++ groundN (p + xs.length) ys
  | p, [], ys => by
    show groundN p ys = [] ++ groundN (p + (0 : Nat)) ys
    rw [List.nil_append, show p + ((0 : Nat) : Int) = p by omega]
  | p, x :: xs, ys => by
    have ih := groundN_app (p + 1) xs ys
    show groundE p x ++ groundN (p + 1) (xs ++ ys) = groundE p x ++ groundN (p + 1) xs ++ _
    rw [ih, ← List.append_assoc, show p + 1 + (xs.length : Int) = p + ((x :: xs).length : Int) by rw [List.length_cons]; omega]
theorem steps_mem : ∀ (p : Int) (ws : List Wal) {e : Edge}, e ∈ stepsW p ws ↔ e ∈ groundN p (topsOf ws) ∨ e ∈ slopeN p ws
  | p, [], e => by
    constructor
    · intro h
      cases h
    · intro h
      rcases h with h | h <;> cases h
  | p, w :: ws, e => by
    have ih := steps_mem (p + w.many) ws (e := e)
    have et : groundN p (topsOf (w :: ws)) = groundN p (topsW w) ++ groundN (p + w.many) (topsOf ws) := by
      show groundN p (topsW w ++ topsOf ws) = _
      rw [groundN_app]
      have : (topsW w).length = w.many := List.length_replicate
      rw [this]
    rw [et]
    show e ∈ (groundN p (topsW w) ++ spanN w.2.2.1 p w.2.2.2) ++ stepsW (p + w.many) ws ↔ _ ∨ e ∈ spanN w.2.2.1 p w.2.2.2 ++ slopeN (p + w.many) ws
    simp only [List.mem_append, ih]
    constructor
    · rintro ((h | h) | (h | h))
      · exact .inl (.inl h)
      · exact .inr (.inl h)
      · exact .inl (.inr h)
      · exact .inr (.inr h)
    · rintro ((h | h) | (h | h))
      · exact .inl (.inl h)
      · exact .inr (.inl h)
      · exact .inl (.inr h)
      · exact .inr (.inr h)
/-- the law's steps are the limits told -/
theorem steps_lims {ws : List Wal} {ls : List Lnk} {e : Edge} : e ∈ stepsOf ws ls ↔ e ∈ limsOf ws ls := by
  unfold stepsOf limsOf
  simp only [List.mem_append, steps_mem]
def spStp (K : PySem.W.Frag) : Sp := fun vs H Q _ => ∃ (p q : Addr) (ws : List Wal) (ls : List Lnk), vs = [.ref p, .ref q] ∧ WalsAt K H p ws ∧ LnksAt K H q ls ∧ places ws ≤ 100 ∧ ls.length ≤ 50 ∧ (∀ w ∈ ws, Sz w.2.2.1 ∧ ∀ x ∈ w.2.2.2, Sz x) ∧
  ∀ (u : Addr) (H' : Hp), H u = none → Same H H' → LimsAt H' u (stepsOf ws ls) → Q (.ref u) H'
/-- the world while links are drawn -/
structure LW (K : PySem.W.Frag) (H0 H : Hp) (b l q t : Addr) (ls : List Lnk) (hs : List Int) : Prop where
  B : Box H b l
  L : LnksAt K H q ls
  T : H t = some (.lst (hs.map V.int))
  S : SameB b H0 H
  nq : H0 q = none
  fq : b ≠ q ∧ l ≠ q
  ntq : t ≠ q
section
variable {K : PySem.W.Frag} {H0 H H' : Hp} {b l q t : Addr} {ls : List Lnk} {hs : List Int}
theorem LW.same (h : LW K H0 H b l q t ls hs) (s : Same H H') : LW K H0 H' b l q t ls hs := ⟨h.B.same s, h.L.same s, s _ _ h.T, h.S.trans (SameB.of_same s), h.nq, h.fq, h.ntq⟩
theorem LW.draw (h : LW K H0 H b l q t ls hs) (B : Box H' b l) (s : SameB b H H') : LW K H0 H' b l q t ls hs := ⟨B, h.L.sameB h.B s, s _ _ (h.B.neZ h.T) h.T, h.S.trans s, h.nq, h.fq, h.ntq⟩
end
structure LkTxt (mg : Str → Option Value) (fT : Addr) : Prop where
  take : mg "_law_take" = some (.ref fT)
  b_range : mg "range" = none
  b_len : mg "len" = none
section
variable {P : Program} {w : World} {K : PySem.W.Frag} {mg : Str → Option Value} {base : Heap}
theorem scLkL : FnScope ["_law_box_here", "_law_truth_here", "_law_room", "_law_links_here", "_law_k", "_law_first", "_law_second", "_law_less", "_law_more", "_law_gap"] ["_law_box_here", "_law_truth_here", "_law_room"] (defScope sLkL) := ⟨rfl, rfl, rfl, by decide +kernel, rfl, by decide +kernel, by decide +kernel⟩
theorem scStp : FnScope ["_law_shuts", "_law_links_here", "_law_steps_here", "_law_at", "_law_name", "_law_top", "_law_slope", "_law_spans", "_law_k", "_law_first", "_law_second", "_law_least", "_law_greatest"] ["_law_shuts", "_law_links_here"] (defScope sStp) := ⟨rfl, rfl, rfl, by decide +kernel, rfl, by decide +kernel, by decide +kernel⟩
set_option maxHeartbeats 0 in
theorem ok_lkL {f fT : Addr} {fd fdT : FuncData} (F : Fun K "_law_links" "_law_links" sLkL f fd) (GT : FnOk P w K mg base CX0 1 fT fdT ["_law_box_here", "_law_size"] spTake) (FT : Fun K "_law_take" "_law_take" sTake fT fdT) (bT : Binds K fdT ["_law_box_here", "_law_size"] []) (T : LkTxt mg fT) :
    FnOk P w K mg base CX0 2 f fd ["_law_box_here", "_law_truth_here", "_law_room"] (spLkL K) := by
  refine F.ok scLkL (fun vs H Q E h => ?_) (fun cdv A outer s H vs Q E hr h => ?_)
  · obtain ⟨b, l, t, hs, room, rfl, _⟩ := h
    rfl
  · obtain ⟨b, l, t, hs, room, rfl, B, ht, n1, n2, m1, m2, k⟩ := h
    have hr1 : Room 1 _ := hr
    refine ⟨_, (pss_cons (ps_set (i := 3) scLkL.nd rfl (Or.inl rfl) (pe_lst pa_nil))
      (pss_cons (ps_for PassesOwn.never rfl (pi_range1 (by rfl) T.b_range (pa_cons (pe_call GT hr1 rfl T.take FT.kp bT .nil pass0 (pa_cons (pv 0) (pa_cons pe_int pa_nil))) pa_nil)) (pg_name (i := 4) scLkL.nd rfl (Or.inl rfl)) (pss_cons (ps_set (i := 5) scLkL.nd rfl (Or.inl rfl) (pe_call GT hr1 rfl T.take FT.kp bT .nil pass0 (pa_cons (pv 0) (pa_cons (pe_callB call_len_seq (by rfl) T.b_len PySem.boot_len (pa_cons (pv 1) pa_nil)) pa_nil))))
      (pss_cons (ps_set (i := 6) scLkL.nd rfl (Or.inl rfl) (pe_call GT hr1 rfl T.take FT.kp bT .nil pass0 (pa_cons (pv 0) (pa_cons (pe_callB call_len_seq (by rfl) T.b_len PySem.boot_len (pa_cons (pv 1) pa_nil)) pa_nil))))
      (pss_cons (ps_set (i := 7) scLkL.nd rfl (Or.inl rfl) (pe_call GT hr1 rfl T.take FT.kp bT .nil pass0 (pa_cons (pv 0) (pa_cons (pv 2) pa_nil))))
      (pss_cons (ps_set (i := 8) scLkL.nd rfl (Or.inl rfl) (pe_call GT hr1 rfl T.take FT.kp bT .nil pass0 (pa_cons (pv 0) (pa_cons (pv 2) pa_nil))))
      (pss_one (ps_if (pt_cmpR op_ne (pv 5) (pv 6) (nomark _)) (pss_cons (ps_set (i := 9) scLkL.nd rfl (Or.inl rfl) (pe_op op_sub (pe_ix ix_list (pv 1) (pv 6) (fun _ _ => rfl)) (pe_ix ix_list (pv 1) (pv 5) (fun _ _ => rfl))))
      (pss_one (ps_expr (pe_bm PySem.F.plainAttrs_list PySem.F.slot_list_append PySem.F.type_list_append mt_append (pv 3) (pa_cons (pe_tup (pa_cons (pv 5) (pa_cons (pv 6) (pa_cons (pe_op op_sub (pv 9) (pv 7)) (pa_cons (pe_op op_add (pv 9) (pv 8)) pa_nil))))) pa_nil))))) pss_nil)))))))
      (pss_one (ps_ret (pv 3))))), ?_⟩
    have szf : ∀ {z : Int}, 0 ≤ z → z ≤ 10 ^ 17 → z.natAbs < 2 ^ 8000 := fun {z} a b => Nat.lt_of_le_of_lt (show z.natAbs ≤ 10 ^ 17 by omega) (by decide +kernel)
    refine ⟨by show 0 ≤ sizeLine; decide, fun q hq => ?_⟩
    have s1 := same_new (o := .lst []) hq
    have W0 : LW K H (upd H q (.lst [])) b l q t [] hs := ⟨B.same s1, ⟨[], upd_same, rfl, fun i t e z => by cases z⟩, s1 _ _ ht, SameB.of_same s1, hq, B.free hq, ne_of_none ht hq⟩
    generalize upd H q (.lst []) = H1 at W0
    clear s1
    refine ⟨_, rfl, b, l, _, rfl, W0.B, by decide, by decide, fun n H2 n0 n1' B2 k2 => ⟨_, rfl, by omega, by omega, ?_⟩⟩
    refine for_it (walk_range (lo := 0) (n := n.toNat)) (fun i σ' H' => ∃ (v4 v5 v6 v7 v8 v9 : Option V) (ls : List Lnk), σ' = [some (.ref b), some (.ref t), some (.int room), some (.ref q), v4, v5, v6, v7, v8, v9] ∧ LW K H H' b l q t ls hs ∧ ls.length ≤ i ∧ ∀ x ∈ ls, LinkOk hs x)
      ⟨_, _, _, _, _, _, [], rfl, W0.draw B2 (SameB.of k2), Nat.le_refl _, fun _ h => by cases h⟩ (fun _ _ _ _ _ => trivial) ?_ ?_
    · rintro i x σ' H3 H4 hi ⟨v4, v5, v6, v7, v8, v9, ls, rfl, W, ll, lk⟩ ⟨rfl, rfl⟩
      have hL : ∀ {H' : Hp}, LW K H H' b l q t ls hs → SqL K H' t (hs.map V.int) := fun W => SqL.of W.T
      refine ⟨_, rfl, _, rfl, t, _, rfl, .inl (hL W), b, l, _, rfl, W.B, by rw [List.length_map]; omega, szf (by omega) (by rw [List.length_map]; omega), fun f H5 f0 f1 B5 k5 => ?_⟩
      rw [List.length_map] at f1
      have W5 := W.draw B5 (SameB.of k5)
      refine ⟨_, rfl, _, rfl, t, _, rfl, .inl (hL W5), b, l, _, rfl, W5.B, by rw [List.length_map]; omega, szf (by omega) (by rw [List.length_map]; omega), fun g H6 g0 g1 B6 k6 => ?_⟩
      rw [List.length_map] at g1
      have W6 := W5.draw B6 (SameB.of k6)
      refine ⟨_, rfl, _, rfl, b, l, _, rfl, W6.B, by omega, szf (by omega) (by omega), fun le H7 le0 le1 B7 k7 => ?_⟩
      have W7 := W6.draw B7 (SameB.of k7)
      refine ⟨_, rfl, _, rfl, b, l, _, rfl, W7.B, by omega, szf (by omega) (by omega), fun mo H8 mo0 mo1 B8 k8 => ?_⟩
      have W8 := W7.draw B8 (SameB.of k8)
      clear W W5 W6 W7 k5 k6 k7 k8 B5 B6 B7 B8
      refine ⟨_, rfl, _, rfl, rfl, _, rfl, ite2 (fun c => ?_) (fun c => ⟨_, _, _, _, _, _, ls, rfl, W8, by omega, lk⟩)⟩
      obtain ⟨fn, rfl⟩ : ∃ z : Nat, f = (z : Int) := ⟨f.toNat, by omega⟩
      obtain ⟨gn, rfl⟩ : ∃ z : Nat, g = (z : Int) := ⟨g.toNat, by omega⟩
      have hf : (hs.map V.int)[fn]? = some (.int (pot hs fn)) := by
        rw [pot_nat, List.getElem?_map, List.getD_eq_getElem?_getD, List.getElem?_eq_getElem (by omega)]
        rfl
      have hg : (hs.map V.int)[gn]? = some (.int (pot hs gn)) := by
        rw [pot_nat, List.getElem?_map, List.getD_eq_getElem?_getD, List.getElem?_eq_getElem (by omega)]
        rfl
      refine ⟨_, rfl, _, rfl, t, _, _, _, rfl, rfl, hL W8, atI_nat hg, _, rfl, _, rfl, t, _, _, _, rfl, rfl, hL W8, atI_nat hf, _, _, rfl, rfl, ?_⟩
      obtain ⟨zs, z1⟩ : ∃ zs, H8 q = some (.lst zs) := by
        obtain ⟨ts, a, _⟩ := W8.L
        exact ⟨_, a⟩
      refine ⟨_, rfl, .inl ⟨rfl, _, SqL.of z1⟩, _, rfl, _, rfl, _, rfl, _, rfl, _, _, rfl, rfl, _, rfl, _, rfl, _, _, rfl, rfl, by show 4 ≤ sizeLine; decide, fun u hu => ?_⟩
      have s9 := same_new (o := .tup [.int (fn : Nat), .int (gn : Nat), .int (pot hs gn - pot hs fn - le), .int (pot hs gn - pot hs fn + mo)]) hu
      have W9 := W8.same s9
      have e9 : LnkT K (upd H8 u (.tup [.int (fn : Nat), .int (gn : Nat), .int (pot hs gn - pot hs fn - le), .int (pot hs gn - pot hs fn + mo)])) u ((fn : Nat), (gn : Nat), pot hs gn - pot hs fn - le, pot hs gn - pot hs fn + mo) := SqT.of upd_same
      obtain ⟨acc, a1, a2, a3⟩ := W9.L.push e9 (by omega)
      refine ⟨q, acc, _, rfl, rfl, a1, a2, _, _, _, _, _, _, ls ++ [((((fn : Nat) : Int), ((gn : Nat) : Int), pot hs gn - pot hs fn - le, pot hs gn - pot hs fn + mo) : Lnk)], rfl, ⟨W9.B.at W9.fq, a3, by rw [upd_ne W9.ntq]; exact W9.T, fun c o nc e => ?_, W9.nq, W9.fq, W9.ntq⟩, by rw [List.length_append]; show ls.length + 1 ≤ i + 1; omega, fun x hx => ?_⟩
      · rw [upd_ne (fun z => by rw [z, W9.nq] at e; cases e)]
        exact W9.S c o nc e
      · rcases List.mem_append.mp hx with hx | hx
        · exact lk x hx
        · rw [List.mem_singleton] at hx
          subst hx
          have nfg : ((fn : Nat) : Int) ≠ (gn : Nat) := fun z => by
            rw [z] at c
            simp at c
          exact ⟨⟨by show (0 : Int) ≤ (fn : Nat); omega, by show ((fn : Nat) : Int) < _; omega⟩, ⟨by show (0 : Int) ≤ (gn : Nat); omega, by show ((gn : Nat) : Int) < _; omega⟩, fun z => nfg z.symm, by show pot hs gn - pot hs fn - le ≤ pot hs gn - pot hs fn; omega, by show pot hs gn - pot hs fn ≤ pot hs gn - pot hs fn + mo; omega⟩
    rintro σ' H3 ⟨v4, v5, v6, v7, v8, v9, ls, rfl, W, ll, lk⟩
    exact ⟨_, rfl, k q ls _ hq W.L (by omega) lk W.B W.S⟩
set_option maxHeartbeats 0 in
theorem ok_stp {f fT : Addr} {fd : FuncData} (F : Fun K "_law_steps" "_law_steps" sStp f fd) (T : LkTxt mg fT) : FnOk P w K mg base CX0 1 f fd ["_law_shuts", "_law_links_here"] (spStp K) := by
  refine F.ok scStp (fun vs H Q E h => ?_) (fun cdv A outer s H vs Q E hr h => ?_)
  · obtain ⟨p, q, ws, ls, rfl, _⟩ := h
    rfl
  · obtain ⟨p, q, ws, ls, rfl, hW, hL, p1, p2, hz, k⟩ := h
    refine ⟨_, (pss_cons (ps_set (i := 2) scStp.nd rfl (Or.inl rfl) (pe_lst pa_nil))
      (pss_cons (ps_set (i := 3) scStp.nd rfl (Or.inl rfl) pe_int)
      (pss_cons (ps_for PassesOwn.never rfl (pi_list (pv 0)) (pg_tup (by rfl) (pgs_cons (pg_name (i := 4) scStp.nd rfl (Or.inl rfl)) (pgs_cons (pg_name (i := 5) scStp.nd rfl (Or.inl rfl)) (pgs_cons (pg_name (i := 6) scStp.nd rfl (Or.inl rfl)) (pgs_cons (pg_name (i := 7) scStp.nd rfl (Or.inl rfl)) pgs_nil))))) (pss_cons (ps_for PassesOwn.never rfl (pi_range1 (by rfl) T.b_range (pa_cons (pe_op op_add (pe_callB call_len_seq (by rfl) T.b_len PySem.boot_len (pa_cons (pv 7) pa_nil)) pe_int) pa_nil)) (pg_name (i := 8) scStp.nd rfl (Or.inl rfl)) (pss_cons (ps_expr (pe_bm PySem.F.plainAttrs_list PySem.F.slot_list_append PySem.F.type_list_append mt_append (pv 2) (pa_cons (pe_tup (pa_cons (pe_un un_neg pe_int) (pa_cons (pe_op op_add (pv 3) (pv 8)) (pa_cons (pv 5) pa_nil)))) pa_nil)))
      (pss_one (ps_expr (pe_bm PySem.F.plainAttrs_list PySem.F.slot_list_append PySem.F.type_list_append mt_append (pv 2) (pa_cons (pe_tup (pa_cons (pe_op op_add (pv 3) (pv 8)) (pa_cons (pe_un un_neg pe_int) (pa_cons pe_int pa_nil)))) pa_nil))))))
      (pss_cons (ps_for PassesOwn.never rfl (pi_range1 (by rfl) T.b_range (pa_cons (pe_callB call_len_seq (by rfl) T.b_len PySem.boot_len (pa_cons (pv 7) pa_nil)) pa_nil)) (pg_name (i := 8) scStp.nd rfl (Or.inl rfl)) (pss_cons (ps_expr (pe_bm PySem.F.plainAttrs_list PySem.F.slot_list_append PySem.F.type_list_append mt_append (pv 2) (pa_cons (pe_tup (pa_cons (pe_op op_add (pv 3) (pv 8)) (pa_cons (pe_op op_add (pe_op op_add (pv 3) (pv 8)) pe_int) (pa_cons (pe_op op_mulW (pv 6) (pe_ix ix_tup (pv 7) (pv 8) (fun _ _ => rfl))) pa_nil)))) pa_nil)))
      (pss_one (ps_expr (pe_bm PySem.F.plainAttrs_list PySem.F.slot_list_append PySem.F.type_list_append mt_append (pv 2) (pa_cons (pe_tup (pa_cons (pe_op op_add (pe_op op_add (pv 3) (pv 8)) pe_int) (pa_cons (pe_op op_add (pv 3) (pv 8)) (pa_cons (pe_op op_mulW (pv 6) (pe_ix ix_tup (pv 7) (pv 8) (fun _ _ => rfl))) pa_nil)))) pa_nil))))))
      (pss_one (ps_set (i := 3) scStp.nd rfl (Or.inl rfl) (pe_op op_add (pe_op op_add (pv 3) (pe_callB call_len_seq (by rfl) T.b_len PySem.boot_len (pa_cons (pv 7) pa_nil))) pe_int))))))
      (pss_cons (ps_for PassesOwn.never rfl (pi_list (pv 1)) (pg_tup (by rfl) (pgs_cons (pg_name (i := 9) scStp.nd rfl (Or.inl rfl)) (pgs_cons (pg_name (i := 10) scStp.nd rfl (Or.inl rfl)) (pgs_cons (pg_name (i := 11) scStp.nd rfl (Or.inl rfl)) (pgs_cons (pg_name (i := 12) scStp.nd rfl (Or.inl rfl)) pgs_nil))))) (pss_cons (ps_expr (pe_bm PySem.F.plainAttrs_list PySem.F.slot_list_append PySem.F.type_list_append mt_append (pv 2) (pa_cons (pe_tup (pa_cons (pv 9) (pa_cons (pv 10) (pa_cons (pv 12) pa_nil)))) pa_nil)))
      (pss_one (ps_expr (pe_bm PySem.F.plainAttrs_list PySem.F.slot_list_append PySem.F.type_list_append mt_append (pv 2) (pa_cons (pe_tup (pa_cons (pv 10) (pa_cons (pv 9) (pa_cons (pe_un un_neg (pv 11)) pa_nil)))) pa_nil))))))
      (pss_one (ps_ret (pv 2))))))), ?_⟩
    refine ⟨by show 0 ≤ sizeLine; decide, fun D hD => ?_⟩
    have S1 := same_new (o := .lst []) hD
    obtain ⟨ts, t1, t2, t3⟩ := id hW
    refine ⟨_, rfl, p, rfl, ⟨_, SqL.of (S1 _ _ t1)⟩, ?_⟩
    refine for_it (walk_list (xs := ts.map V.ref)) (fun i σ' H' => ∃ v4 v5 v6 v7 v8 : Option V, σ' = [some (.ref p), some (.ref q), some (.ref D), some (.int (places (ws.take i) : Nat)), v4, v5, v6, v7, v8, none, none, none, none] ∧ LimsAt H' D (stepsW 0 (ws.take i)) ∧ Same H H')
      ⟨_, _, _, _, _, rfl, ⟨[], upd_same, rfl, fun i t e z => by cases z⟩, S1⟩ (fun i σ' H' _ h => by obtain ⟨_, _, _, _, _, _, _, z⟩ := h; exact SqL.of (z _ _ t1)) ?_ ?_
    · rintro i x σ' H1 H2 hi ⟨v4, v5, v6, v7, v8, rfl, L, S⟩ ⟨rfl, hx⟩
      rw [List.length_map] at hi
      rw [List.getElem?_map, List.getElem?_eq_getElem hi] at hx
      cases hx
      obtain ⟨⟨nm, tp, sl, spans⟩, hw⟩ : ∃ l, ws[i]? = some l := ⟨_, List.getElem?_eq_getElem (by omega)⟩
      obtain ⟨sp, z1H, z2H⟩ := t3 i _ _ (List.getElem?_eq_getElem hi) hw
      have z1 := S _ _ z1H
      have z2H : SqT K H sp (spans.map V.int) := z2H
      have z2 := sqT_same z2H S
      obtain ⟨hs1, hs2⟩ := hz _ (List.mem_of_getElem? hw)
      have hs1 : Sz sl := hs1
      have hs2 : ∀ x ∈ spans, Sz x := hs2
      have pt := places_take hw
      have pm : Wal.many (nm, tp, sl, spans) = spans.length + 1 := rfl
      rw [pm] at pt
      have pl := stepsW_len 0 (ws.take i)
      refine ⟨_, _, rfl, SqT.of z1, rfl, _, _, rfl, _, _, rfl, _, _, rfl, _, _, rfl, rfl, ?_⟩
      have et : stepsW 0 (ws.take (i + 1)) = stepsW 0 (ws.take i) ++ (groundN (places (ws.take i) : Nat) (topsW (nm, tp, sl, spans)) ++ spanN sl (places (ws.take i) : Nat) spans) := by
        rw [List.take_succ, hw, Option.toList_some, stepsW_snoc, Int.zero_add]
      have P : ∃ P : Nat, places (ws.take i) = P := ⟨_, rfl⟩
      obtain ⟨P, eP⟩ := P
      rw [eP] at et pt pl ⊢
      have rl : ∀ m : Nat, (groundN (P : Int) (List.replicate m tp)).length = 2 * m := fun m => by rw [groundN_len, List.length_replicate]
      refine ⟨_, rfl, sp, _, rfl, .inr z2, _, _, rfl, rfl, _, rfl, by omega, by rw [List.length_map]; omega, ?_⟩
      refine for_it (walk_range (lo := 0) (n := (((spans.map V.int).length : Int) + 1).toNat)) (fun m σ' H' => ∃ v8 : Option V, σ' = [some (.ref p), some (.ref q), some (.ref D), some (.int (P : Int)), some (.str nm), some (.int tp), some (.int sl), some (.ref sp), v8, none, none, none, none] ∧ LimsAt H' D (stepsW 0 (ws.take i) ++ groundN (P : Int) (List.replicate m tp)) ∧ Same H H')
        ⟨v8, rfl, by show LimsAt _ _ (stepsW 0 (ws.take i) ++ []); rw [List.append_nil]; exact L, S⟩ (fun _ _ _ _ _ => trivial) ?_ ?_
      · rintro m x σ' H3 H4 hm ⟨v8, rfl, L3, S3⟩ ⟨rfl, rfl⟩
        rw [List.length_map] at hm
        obtain ⟨zs, q1, q2⟩ := L3.len
        have em : groundN (P : Int) (List.replicate (m + 1) tp) = groundN (P : Int) (List.replicate m tp) ++ ([(-1, (P : Int) + (0 + (m : Nat)), tp), ((P : Int) + (0 + (m : Nat)), -1, 0)] : List Edge) := by
          rw [List.replicate_succ', groundN_snoc, List.length_replicate, Int.zero_add]
          rfl
        have pp := push2 (H0 := H) (Q := fun H' => LimsAt H' D (stepsW 0 (ws.take i) ++ groundN (P : Int) (List.replicate (m + 1) tp)) ∧ Same H H')
          (-1, (P : Int) + (0 + (m : Nat)), tp) ((P : Int) + (0 + (m : Nat)), -1, 0) L3 S3 hD
          (by have := rl m; rw [List.length_append]; omega) (fun H' l s => ⟨by rw [em, ← List.append_assoc]; exact l, s⟩)
        refine ⟨_, rfl, .inl ⟨rfl, _, SqL.of q1⟩, _, rfl, _, rfl, _, rfl, _, _, rfl, rfl, _, rfl, by show 3 ≤ sizeLine; decide, fun t ht => ?_⟩
        obtain ⟨xs, x1, x2, x3⟩ := pp t ht
        refine ⟨D, xs, _, rfl, rfl, x1, x2, ?_⟩
        obtain ⟨⟨ys, y1⟩, y2⟩ := x3 _ rfl
        refine ⟨_, rfl, .inl ⟨rfl, _, SqL.of y1⟩, _, rfl, _, rfl, _, _, rfl, rfl, _, rfl, by show 3 ≤ sizeLine; decide, fun u hu => ?_⟩
        obtain ⟨ys', w1, w2, w3, w4⟩ := y2 u hu
        exact ⟨D, ys', _, rfl, rfl, w1, w2, _, rfl, w3, w4⟩
      rintro σ' H3 ⟨v8, rfl, L3, S3⟩
      rw [List.length_map] at L3
      have ntl : ((spans.length : Int) + 1).toNat = spans.length + 1 := by omega
      rw [ntl] at L3
      have gl := rl (spans.length + 1)
      have z3 := sqT_same z2H S3
      refine ⟨_, rfl, sp, _, rfl, .inr z3, _, rfl, by omega, by rw [List.length_map]; omega, ?_⟩
      refine for_it (walk_range (lo := 0) (n := ((spans.map V.int).length : Int).toNat)) (fun m σ' H' => ∃ v8 : Option V, σ' = [some (.ref p), some (.ref q), some (.ref D), some (.int (P : Int)), some (.str nm), some (.int tp), some (.int sl), some (.ref sp), v8, none, none, none, none] ∧ LimsAt H' D ((stepsW 0 (ws.take i) ++ groundN (P : Int) (List.replicate (spans.length + 1) tp)) ++ spanN sl (P : Int) (spans.take m)) ∧ Same H H')
        ⟨v8, rfl, by rw [List.take_zero]; show LimsAt _ _ (_ ++ []); rw [List.append_nil]; exact L3, S3⟩ (fun _ _ _ _ _ => trivial) ?_ ?_
      · rintro m x σ' H5 H4 hm ⟨v8, rfl, L5, S5⟩ ⟨rfl, rfl⟩
        rw [List.length_map] at hm
        have hm : m < spans.length := by omega
        obtain ⟨zs, q1, q2⟩ := L5.len
        have z5 := sqT_same z2H S5
        have em : spanN sl (P : Int) (spans.take (m + 1)) = spanN sl (P : Int) (spans.take m) ++ ([((P : Int) + (0 + (m : Nat)), (P : Int) + (0 + (m : Nat)) + 1, sl * spans[m]), ((P : Int) + (0 + (m : Nat)) + 1, (P : Int) + (0 + (m : Nat)), sl * spans[m])] : List Edge) := by
          rw [List.take_succ, List.getElem?_eq_getElem hm, Option.toList_some, spanN_snoc, List.length_take, show min m spans.length = m by omega, Int.zero_add]
          rfl
        have cm : CMulW sl spans[m] := Sz.mul hs1.w (hs2 _ (List.getElem_mem hm)).w
        have ai : atI (spans.map V.int) (0 + (m : Nat)) = some (.int spans[m]) := by
          rw [Int.zero_add]
          exact atI_nat (by rw [List.getElem?_map, List.getElem?_eq_getElem hm]; rfl)
        have pp := push2 (H0 := H) (Q := fun H' => LimsAt H' D ((stepsW 0 (ws.take i) ++ groundN (P : Int) (List.replicate (spans.length + 1) tp)) ++ spanN sl (P : Int) (spans.take (m + 1))) ∧ Same H H')
          ((P : Int) + (0 + (m : Nat)), (P : Int) + (0 + (m : Nat)) + 1, sl * spans[m]) ((P : Int) + (0 + (m : Nat)) + 1, (P : Int) + (0 + (m : Nat)), sl * spans[m]) L5 S5 hD
          (by rw [List.length_append, List.length_append, spanN_len, List.length_take]; omega) (fun H' l s => ⟨by rw [em, ← List.append_assoc]; exact l, s⟩)
        refine ⟨_, rfl, .inl ⟨rfl, _, SqL.of q1⟩, _, rfl, _, rfl, _, _, rfl, rfl, _, rfl, _, rfl, _, _, rfl, rfl, _, _, rfl, rfl, _, rfl, _, rfl, _, rfl, sp, _, _, _, rfl, rfl, z5, ai, _, _, rfl, rfl, cm, by show 3 ≤ sizeLine; decide, fun t ht => ?_⟩
        obtain ⟨xs, x1, x2, x3⟩ := pp t ht
        refine ⟨D, xs, _, rfl, rfl, x1, x2, ?_⟩
        obtain ⟨⟨ys, y1⟩, y2⟩ := x3 _ rfl
        have z6 : SqT K (upd (upd H4 t (.tup [.int ((P : Int) + (0 + (m : Nat))), .int ((P : Int) + (0 + (m : Nat)) + 1), .int (sl * spans[m])])) D (.lst (xs ++ [.ref t]))) sp (spans.map V.int) := sqT_lst x1 (sqT_same z5 (same_new ht))
        refine ⟨_, rfl, .inl ⟨rfl, _, SqL.of y1⟩, _, rfl, _, rfl, _, _, rfl, rfl, _, _, rfl, rfl, _, rfl, _, rfl, _, _, rfl, rfl, _, rfl, _, rfl, _, rfl, sp, _, _, _, rfl, rfl, z6, ai, _, _, rfl, rfl, cm, by show 3 ≤ sizeLine; decide, fun u hu => ?_⟩
        obtain ⟨ys', w1, w2, w3, w4⟩ := y2 u hu
        exact ⟨D, ys', _, rfl, rfl, w1, w2, _, rfl, w3, w4⟩
      rintro σ' H5 ⟨v8, rfl, L5, S5⟩
      rw [List.length_map, Int.toNat_natCast, List.take_length, List.append_assoc] at L5
      have z5 := sqT_same z2H S5
      refine ⟨_, rfl, _, rfl, sp, _, rfl, .inr z5, _, _, rfl, rfl, _, _, rfl, rfl, some (.str nm), some (.int tp), some (.int sl), some (.ref sp), v8, ?_, by rw [et]; exact L5, S5⟩
      have e1 : (P : Int) + ((spans.map V.int).length : Nat) + 1 = ((places (ws.take (i + 1)) : Nat) : Int) := by
        rw [List.take_succ, hw, Option.toList_some, places_snoc, pm, eP, List.length_map]
        omega
      rw [← e1]
      rfl
    rintro σ' H1 ⟨v4, v5, v6, v7, v8, rfl, L, S⟩
    rw [List.length_map, t2, List.take_length] at L
    have aL := stepsW_len 0 ws
    obtain ⟨us, u1, u2, u3⟩ := id hL
    refine ⟨_, rfl, q, rfl, ⟨_, SqL.of (S _ _ u1)⟩, ?_⟩
    refine for_it (walk_list (xs := us.map V.ref)) (fun i σ' H' => ∃ v3 v9 v10 v11 v12 : Option V, σ' = [some (.ref p), some (.ref q), some (.ref D), v3, v4, v5, v6, v7, v8, v9, v10, v11, v12] ∧ LimsAt H' D (stepsW 0 ws ++ (ls.take i).flatMap linkE) ∧ Same H H')
      ⟨_, _, _, _, _, rfl, by rw [List.take_zero]; show LimsAt _ _ (_ ++ []); rw [List.append_nil]; exact L, S⟩ (fun i σ' H' _ h => by obtain ⟨_, _, _, _, _, _, _, z⟩ := h; exact SqL.of (z _ _ u1)) ?_ ?_
    · rintro i x σ' H3 H2 hi ⟨v3, v9, v10, v11, v12, rfl, L, S⟩ ⟨rfl, hx⟩
      rw [List.length_map] at hi
      rw [List.getElem?_map, List.getElem?_eq_getElem hi] at hx
      cases hx
      obtain ⟨⟨a, b, least, most⟩, hl⟩ : ∃ l, ls[i]? = some l := ⟨_, List.getElem?_eq_getElem (by omega)⟩
      have z := sqT_same (u3 i _ _ (List.getElem?_eq_getElem hi) hl) S
      refine ⟨_, _, rfl, z, rfl, _, _, rfl, _, _, rfl, _, _, rfl, _, _, rfl, rfl, ?_⟩
      obtain ⟨zs, z1, z2⟩ := L.len
      have et : stepsW 0 ws ++ (ls.take (i + 1)).flatMap linkE = (stepsW 0 ws ++ (ls.take i).flatMap linkE) ++ ([(a, b, most), (b, a, -least)] : List Edge) := by
        rw [List.take_succ, hl, List.flatMap_append, List.append_assoc]
        simp [linkE]
      have pp := push2 (H0 := H) (Q := fun H' => LimsAt H' D (stepsW 0 ws ++ (ls.take (i + 1)).flatMap linkE) ∧ Same H H')
        (a, b, most) (b, a, -least) L S hD (by rw [List.length_append, linkE_len, List.length_take]; omega) (fun H' l s => ⟨by rw [et]; exact l, s⟩)
      refine ⟨_, rfl, .inl ⟨rfl, _, SqL.of z1⟩, _, rfl, _, rfl, _, rfl, by show 3 ≤ sizeLine; decide, fun t ht => ?_⟩
      obtain ⟨xs, x1, x2, x3⟩ := pp t ht
      refine ⟨D, xs, _, rfl, rfl, x1, x2, ?_⟩
      obtain ⟨⟨ys, y1⟩, y2⟩ := x3 _ rfl
      refine ⟨_, rfl, .inl ⟨rfl, _, SqL.of y1⟩, _, rfl, _, rfl, _, rfl, least, rfl, by show 3 ≤ sizeLine; decide, fun u hu => ?_⟩
      obtain ⟨ys', w1, w2, w3, w4⟩ := y2 u hu
      exact ⟨D, ys', _, rfl, rfl, w1, w2, _, _, _, _, _, rfl, w3, w4⟩
    rintro σ' H3 ⟨v3, v9, v10, v11, v12, rfl, L, S⟩
    rw [List.length_map, u2, List.take_length] at L
    exact ⟨_, rfl, k D H3 hD S L⟩
end
end Law

/-! What a site tells of its nodes. -/
namespace Law
open PySem PySem.Spec PyProof.Rows L2 Sup
abbrev sLim : Stmt := inClass (top 19) 9
abbrev sChn : Stmt := inClass (top 19) 12
/-- a node of the site -/
def nodeB (ws : List Wal) (a : Int) : Bool := decide (-1 ≤ a ∧ a < (places ws : Nat))
/-- the node told of, if one is none -/
def nodesDue (ws : List Wal) (a b : Int) : Option Int := if nodeB ws a = false then some a else if nodeB ws b = false then some b else none
def limOf (ws : List Wal) (ls : List Lnk) (a b : Int) : Int := ((atI (leastSums (places ws) (toldOf ws ls)) a).bind fun row => atI row b).getD 0
def tolV (ws : List Wal) (ls : List Lnk) (a b : Int) : V := match (toldOf ws ls).find? (likeE (a, b, 0)) with
  | none => .non
  | some e => .int e.2.2
def tightB (ws : List Wal) (ls : List Lnk) (a n o : Int) : Bool := match (toldOf ws ls).find? (likeE (n, o, 0)) with
  | none => false
  | some e => decide (limOf ws ls a n + e.2.2 = limOf ws ls a o)
structure MeTxt (K : PySem.W.Frag) (mg : Str → Option Value) (CS : Addr) : Prop where
  cl : Cls K CS
  na : ∀ m ∈ (["_rows", "_links", "_spots", "_places", "_tops", "size", "_told", "_limits"] : List Str), NoAttr K CS m
  ground : ∃ t, mg "GROUND" = some (.int (-1) t)
  b_range : mg "range" = none
def spChn (K : PySem.W.Frag) (C : Errs) (CS : Addr) : Sp := fun vs H Q E => ∃ (r : Addr) (ws : List Wal) (ls : List Lnk) (a b : Int), vs = [.ref r, .int a, .int b] ∧ SiteAt K CS ws ls H r ∧ Sz a ∧ Sz b ∧ (∀ z, nodesDue ws a b = some z → DueX C E (Same H) (.place z)) ∧ (nodesDue ws a b = none → ∀ H', Same H H' → Q .non H')
def spChnN (K : PySem.W.Frag) (C : Errs) (CS : Addr) : Sp := fun vs H Q E => ∃ (r : Addr) (ws : List Wal) (ls : List Lnk) (ns : List Int), vs = .ref r :: ns.map V.int ∧ SiteAt K CS ws ls H r ∧ (∀ z ∈ ns, Sz z) ∧ ns.length ≤ 100 ∧ (∀ z, ns.find? (fun z => !nodeB ws z) = some z → DueX C E (Same H) (.place z)) ∧ (ns.find? (fun z => !nodeB ws z) = none → ∀ H', Same H H' → Q .non H')
def spChnT (K : PySem.W.Frag) (C : Errs) (CS : Addr) : Sp := fun vs H Q E => ∃ (r t : Addr) (ws : List Wal) (ls : List Lnk) (ns : List Int), vs = [.ref r, .ref t] ∧ H t = some (.tup (ns.map V.int)) ∧ SiteAt K CS ws ls H r ∧ (∀ z ∈ ns, Sz z) ∧ (∀ z, ns.find? (fun z => !nodeB ws z) = some z → DueX C E (Same H) (.place z)) ∧ (ns.find? (fun z => !nodeB ws z) = none → Q .non H)
def spTol (K : PySem.W.Frag) (C : Errs) (CS : Addr) : Sp := fun vs H Q E => ∃ (r : Addr) (ws : List Wal) (ls : List Lnk) (a b : Int), vs = [.ref r, .int a, .int b] ∧ SiteAt K CS ws ls H r ∧ Sz a ∧ Sz b ∧ (∀ z, nodesDue ws a b = some z → DueX C E (Same H) (.place z)) ∧ (nodesDue ws a b = none → ∀ H', Same H H' → Q (tolV ws ls a b) H')
def spLim (K : PySem.W.Frag) (C : Errs) (CS : Addr) : Sp := fun vs H Q E => ∃ (r : Addr) (ws : List Wal) (ls : List Lnk) (a b : Int), vs = [.ref r, .int a, .int b] ∧ SiteAt K CS ws ls H r ∧ Sz a ∧ Sz b ∧ (∀ z, nodesDue ws a b = some z → DueX C E (Same H) (.place z)) ∧ (nodesDue ws a b = none → ∀ H', Same H H' → Q (.int (limOf ws ls a b)) H')
def spTgt (K : PySem.W.Frag) (CS : Addr) : Sp := fun vs H Q _ => ∃ (r : Addr) (ws : List Wal) (ls : List Lnk) (a n o : Int), vs = [.ref r, .int a, .int n, .int o] ∧ SiteAt K CS ws ls H r ∧ nodeB ws a = true ∧ nodeB ws n = true ∧ nodeB ws o = true ∧ ∀ H', Same H H' → Q (.bl (tightB ws ls a n o)) H'
theorem SiteAt.same {K : PySem.W.Frag} {CS r : Addr} {ws : List Wal} {ls : List Lnk} {H H' : Hp} (h : SiteAt K CS ws ls H r) (s : Same H H') : SiteAt K CS ws ls H' r := by
  obtain ⟨dx, fs, pr, pl, ps, pd, pt, h0, ⟨a1, a2⟩, ⟨b1, b2⟩, ⟨c1, c2⟩, ⟨d1, d2⟩, ⟨e1, e2⟩, f1, g1, ptd, plm, t1, t2, m1, m2⟩ := h
  exact ⟨dx, fs, pr, pl, ps, pd, pt, s _ _ h0, ⟨a1, a2.same s⟩, ⟨b1, b2.same s⟩, ⟨c1, c2.same s⟩, ⟨d1, by obtain ⟨kv, k1, k2⟩ := d2; exact ⟨kv, s _ _ k1, k2⟩⟩, ⟨e1, s _ _ e2⟩, f1, g1, ptd, plm, t1, s _ _ t2, m1, m2.same s⟩
/-- a row of the limits, and a limit -/
theorem lim_at {ws : List Wal} {ls : List Lnk} {a b : Int} (ha : nodeB ws a = true) (hb : nodeB ws b = true) : ∃ row : List Int, atI (leastSums (places ws) (toldOf ws ls)) a = some row ∧ atI row b = some (limOf ws ls a b) := by
  have ha := of_decide_eq_true ha
  have hb := of_decide_eq_true hb
  have sq : Sqr (places ws + 1) (leastSums (places ws) (toldOf ws ls)) := fold_sqr _ (firstTab_sqr _ _) fun k hk => nodesI_mem hk
  obtain ⟨row, r1, r2, _⟩ := atI_some sq.1 ha.1 ha.2
  obtain ⟨x, x1, _⟩ := atI_some (sq.2 row r2) hb.1 hb.2
  refine ⟨row, r1, ?_⟩
  unfold limOf
  rw [r1, Option.bind_some, x1]
  rfl
theorem TabAt.row {H : Hp} {p : Addr} {M : List (List Int)} (h : TabAt H p M) {a : Int} {row : List Int} (e : atI M a = some row) : ∃ (xs : List V) (t : Addr), H p = some (.lst xs) ∧ atI xs a = some (.ref t) ∧ H t = some (.lst (row.map V.int)) := by
  obtain ⟨ts, h1, h2, h3⟩ := h
  unfold atI at e
  rw [← h2] at e
  cases e1 : ixN ts.length a with
  | none => rw [e1] at e; cases e
  | some j =>
    rw [e1] at e
    have e : M[j]? = some row := e
    have hj : j < M.length := (List.getElem?_eq_some_iff.mp e).1
    have et : ts[j]? = some ts[j] := List.getElem?_eq_getElem (by omega)
    refine ⟨_, ts[j], h1, ?_, h3 j _ _ et e⟩
    unfold atI
    rw [List.length_map, e1]
    show (ts.map V.ref)[j]? = _
    rw [List.getElem?_map, et]
    rfl
section
variable {P : Program} {w : World} {K : PySem.W.Frag} {mg : Str → Option Value} {base : Heap} {C : Errs} {CS : Addr}
theorem scChn : FnScope ["self", "nodes", "node"] ((["self"] : List Str) ++ (["nodes"] : List Str)) (defScope sChn) := ⟨rfl, rfl, rfl, by decide +kernel, rfl, by decide +kernel, by decide +kernel⟩
theorem scLim : FnScope ["self", "first", "second"] ["self", "first", "second"] (defScope sLim) := ⟨rfl, rfl, rfl, by decide +kernel, rfl, by decide +kernel, by decide +kernel⟩
set_option maxHeartbeats 0 in
theorem two_mem {p : Int → Prop} {a b : Int} (ha : p a) (hb : p b) : ∀ z ∈ ([a, b] : List Int), p z := fun z hz => by
  rcases List.mem_cons.mp hz with rfl | hz
  · exact ha
  · rcases List.mem_cons.mp hz with rfl | hz
    · exact hb
    · cases hz
theorem ok_chnN {f : Addr} {fd : FuncData} (F : Fun K "check_nodes" "Site.check_nodes" sChn f fd) (RP : ErrOk P w K mg base "NoPlace" C.P "place" okInt) (T : MeTxt K mg CS)
    (hb : ∀ us rest : List Value, us.length = 1 → bindArgs fd ⟨us ++ rest, []⟩ = (newTuple rest >>= fun t => pure ((["self"] : List Str).zip us ++ [(("nodes" : Str), t)]))) : FnR P w K mg base (L2.CX P w) 4 f (spChnN K C CS) := by
  obtain ⟨tg, hgr⟩ := T.ground
  obtain ⟨oc, od, kVx, doc, pm, an, cdv, ct, osl, rfl, lk, hcd⟩ := F.ex
  refine (StX.fn_star (ps := ["self"]) (pv := "nodes") (sp := spChnT K C CS) (k := 3) lk hcd scChn StX.cxUp hb fun A outer s H vs Q E hr h => ?_).imp ?_
  · obtain ⟨r, t, ws, ls, ns, rfl, ht, hS, zs, h1, h2⟩ := h
    have hr3 : Room 3 _ := hr.mono (by decide)
    obtain ⟨dx, fs, pr, pl, ps, pd, pt, h0, _, _, _, _, _, f1, _⟩ := id hS
    refine ⟨_, (pss_one (ps_for (passes_of rfl) rfl (pi_tup (pv 1)) (pg_name (i := 2) scChn.nd rfl (Or.inl rfl)) (pss_one (ps_if (pt_not (pt_chain op_le op_lt (pe_glob (v := .int (-1)) rfl hgr ⟨_, rfl⟩) (pv 2) (pe_fld (pv 0) rfl))) (pss_one (ps_err RP rfl (takes_of rfl rfl rfl rfl) hr3 (pa_cons (pv 2) pa_nil) rfl)) pss_nil)))), ?_⟩
    refine ⟨_, rfl, t, rfl, ⟨_, SqT.of ht⟩, ?_⟩
    refine for_it (walk_tup (xs := ns.map V.int)) (fun i σ' H' => ∃ v3 : Option V, σ' = [some (.ref r), some (.ref t), v3] ∧ H' = H ∧ (ns.take i).find? (fun z => !nodeB ws z) = none)
      ⟨_, rfl, rfl, rfl⟩ (fun i σ' H' _ h => by obtain ⟨_, _, rfl, _⟩ := h; exact SqT.of ht) ?_ ?_
    · rintro i x σ' H3 H4 hi ⟨v3, rfl, rfl, g1⟩ ⟨rfl, hx⟩
      rw [List.length_map] at hi
      obtain ⟨z, hz⟩ : ∃ z, ns[i]? = some z := ⟨_, List.getElem?_eq_getElem hi⟩
      rw [List.getElem?_map, hz] at hx
      cases hx
      have zz := zs z (List.mem_of_getElem? hz)
      have fnd : nodeB ws z = false → ns.find? (fun z => !nodeB ws z) = some z := fun h => by
        have e : ns = ns.take i ++ z :: ns.drop (i + 1) := by
          obtain ⟨hi, hx⟩ := List.getElem?_eq_some_iff.mp hz
          rw [← hx, List.getElem_cons_drop, List.take_append_drop]
        rw [e, List.find?_append, g1]
        simp [h]
      have bad : nodeB ws z = false → DueX C E (Same H4) (.place z) := fun h => h1 z (fnd h)
      have ok2 : nodeB ws z = true → (ns.take (i + 1)).find? (fun z => !nodeB ws z) = none := fun h => by
        rw [List.take_succ, hz, Option.toList_some, List.find?_append, g1]
        simp [h]
      refine ⟨_, rfl, _, _, rfl, rfl, _, rfl, ?_⟩
      by_cases c0 : -1 ≤ z
      · refine if_t (decide_eq_true c0) ⟨_, rfl, r, CS, dx, fs, _, rfl, h0, T.cl, T.na _ (by decide), f1, _, _, rfl, rfl, _, rfl, ?_⟩
        by_cases c1 : z < (places ws : Nat)
        · exact if_f (by rw [decide_eq_true c1]; rfl) ⟨_, rfl, rfl, ok2 (decide_eq_true ⟨c0, c1⟩)⟩
        · refine if_t (by rw [decide_eq_false c1]; rfl) ⟨_, rfl, ?_⟩
          exact err_way zz.ok fun d hd => bad (decide_eq_false fun y => c1 y.2) _ d same_rfl hd
      · refine if_f (decide_eq_false c0) ⟨_, rfl, ?_⟩
        refine if_t rfl ⟨_, rfl, ?_⟩
        exact err_way zz.ok fun d hd => bad (decide_eq_false fun y => c0 y.1) _ d same_rfl hd
    rintro σ' H3 ⟨v3, rfl, rfl, g1⟩
    rw [List.length_map, List.take_length] at g1
    exact h2 g1
  · rintro vs H Q E ⟨r, ws, ls, ns, rfl, hS, zs, hl, h1, h2⟩
    refine ⟨[.ref r], ns.map V.int, rfl, rfl, by rw [List.length_map, sizeLine_eq]; omega, fun p hp => ?_⟩
    have s1 := same_new (o := .tup (ns.map V.int)) hp
    exact ⟨r, p, ws, ls, ns, rfl, upd_same, hS.same s1, zs, fun z hz => (h1 z hz).mono fun _ s => same_tr s1 s, fun hn => h2 hn _ s1⟩
theorem ok_chn {f : Addr} {fd : FuncData} (F : Fun K "check_nodes" "Site.check_nodes" sChn f fd) (RP : ErrOk P w K mg base "NoPlace" C.P "place" okInt) (T : MeTxt K mg CS)
    (hb : ∀ us rest : List Value, us.length = 1 → bindArgs fd ⟨us ++ rest, []⟩ = (newTuple rest >>= fun t => pure ((["self"] : List Str).zip us ++ [(("nodes" : Str), t)]))) : FnR P w K mg base (L2.CX P w) 4 f (spChn K C CS) := by
  refine (ok_chnN F RP T hb).imp fun vs H Q E h => ?_
  obtain ⟨r, ws, ls, a, b, rfl, hS, za, zb, h1, h2⟩ := h
  have e : ([a, b] : List Int).find? (fun z => !nodeB ws z) = nodesDue ws a b := by
    unfold nodesDue
    cases ea : nodeB ws a <;> cases eb : nodeB ws b <;> simp [ea, eb]
  exact ⟨r, ws, ls, [a, b], rfl, hS, two_mem za zb, (by show 2 ≤ 100; decide), fun z hz => h1 z (e ▸ hz), fun hn => h2 (e ▸ hn)⟩
set_option maxHeartbeats 0 in
theorem ok_lim {f fCh : Addr} {fd : FuncData} (F : Fun K "limit" "Site.limit" sLim f fd) (GCh : FnR P w K mg base (L2.CX P w) 4 fCh (spChn K C CS)) (MCh : Meth K CS "check_nodes" fCh) (T : MeTxt K mg CS) : FnOk P w K mg base (L2.CX P w) 5 f fd ["self", "first", "second"] (spLim K C CS) := by
  refine F.okX scLim (fun vs H Q E h => ?_) (fun cdv A outer s H vs Q E hr h => ?_)
  · obtain ⟨r, ws, ls, a, b, rfl, _⟩ := h
    rfl
  · obtain ⟨r, ws, ls, a, b, rfl, hS, za, zb, h1, h2⟩ := h
    have hr4 : Room 4 _ := hr
    obtain ⟨dx, fs, pr, pl, ps, pd, pt, h0, _, _, _, _, _, f1, g1, ptd, plm, t1, t2, m1, m2⟩ := id hS
    refine ⟨_, (pss_cons (ps_expr (Own.pe_methW (E := fun _ => E) (pv 0) T.cl MCh GCh hr4 (passS (passes_call (takes_of rfl rfl rfl rfl) fun _ _ _ _ z => z)) (pa_cons (pv 1) (pa_cons (pv 2) pa_nil)))) (pss_one (ps_ret (pe_ix ix_list (pe_ix ix_list (pe_fld (pv 0) rfl) (pv 1) (fun _ _ => rfl)) (pv 2) (fun _ _ => rfl))))), ?_⟩
    refine ⟨_, rfl, r, dx, fs, rfl, h0, g1 _ (by decide), _, rfl, _, rfl, r, ws, ls, a, b, rfl, hS, za, zb, h1, fun hn H1 s1 => ?_⟩
    have hn2 : nodeB ws a = true ∧ nodeB ws b = true := by
      unfold nodesDue at hn
      cases ea : nodeB ws a with
      | false => rw [if_pos ea] at hn; cases hn
      | true =>
        cases eb : nodeB ws b with
        | false => rw [if_neg (by rw [ea]; decide), if_pos eb] at hn; cases hn
        | true => exact ⟨rfl, rfl⟩
    obtain ⟨row, r1, r2⟩ := lim_at (ls := ls) hn2.1 hn2.2
    obtain ⟨xs, t, q1, q2, q3⟩ := m2.row r1
    refine ⟨_, rfl, r, CS, dx, fs, _, rfl, s1 _ _ h0, T.cl, T.na _ (by decide), m1, _, rfl, plm, xs, a, _, rfl, rfl, SqL.of (s1 _ _ q1), q2, _, rfl, t, _, b, _, rfl, rfl, SqL.of (s1 _ _ q3), by rw [atI_map, r2]; rfl, ?_⟩
    exact h2 hn _ s1
end
end Law

/-! Least sums are least. -/
namespace Law
open PySem PySem.Spec PyProof.Rows L2
inductive Wk (es : List Edge) (N : List Int) : Int → Int → Int → Prop
  | nil (a : Int) : Wk es N a a 0
  | one (e : Edge) : e ∈ es → Wk es N e.1 e.2.1 e.2.2
  | snoc {a n x : Int} (e : Edge) : Wk es N a n x → n ∈ N → e ∈ es → e.1 = n → Wk es N a e.2.1 (x + e.2.2)
theorem Wk.pot {es : List Edge} {N : List Int} {pi : Int → Int} (hp : ∀ e ∈ es, pi e.2.1 - pi e.1 ≤ e.2.2) {a b x : Int} (h : Wk es N a b x) : pi b - pi a ≤ x := by
  induction h with
  | nil a => omega
  | one e he => exact hp e he
  | snoc e _ _ he en ih =>
    have := hp e he
    rw [en] at this
    omega
theorem Wk.split {es : List Edge} {N : List Int} {k : Int} {pi : Int → Int} (hp : ∀ e ∈ es, pi e.2.1 - pi e.1 ≤ e.2.2) {a b x : Int} (h : Wk es (N ++ [k]) a b x) :
    (∃ x', x' ≤ x ∧ Wk es N a b x') ∨ ∃ x1 x2, x1 + x2 ≤ x ∧ Wk es N a k x1 ∧ Wk es N k b x2 := by
  induction h with
  | nil a => exact .inl ⟨0, Int.le_refl _, .nil a⟩
  | one e he => exact .inl ⟨_, Int.le_refl _, .one e he⟩
  | snoc e _ hn he en ih =>
    rcases List.mem_append.mp hn with hn | hn
    · rcases ih with ⟨x', h1, h2⟩ | ⟨x1, x2, h1, h2, h3⟩
      · exact .inl ⟨_, by omega, .snoc e h2 hn he en⟩
      · exact .inr ⟨x1, x2 + e.2.2, by omega, h2, .snoc e h3 hn he en⟩
    · rw [List.mem_singleton] at hn
      subst hn
      rcases ih with ⟨x', h1, h2⟩ | ⟨x1, x2, h1, h2, h3⟩
      · exact .inr ⟨x', e.2.2, by omega, h2, en ▸ .one e he⟩
      · have := h3.pot hp
        exact .inr ⟨x1, e.2.2, by omega, h2, en ▸ .one e he⟩
theorem Wk.trans {es : List Edge} {N : List Int} {a b c x y : Int} (h : Wk es N a b x) (g : Wk es N b c y) (hN : ∀ e ∈ es, e.1 ∈ N) : Wk es N a c (x + y) := by
  induction g with
  | nil a => rw [Int.add_zero]; exact h
  | one e he => exact .snoc e h (hN e he) he rfl
  | snoc e _ hn he en ih =>
    rw [← Int.add_assoc]
    exact .snoc e (ih h) hn he en
/-- the sum told of two nodes -/
def ent (M : List (List Int)) (a b : Int) : Int := ((atI M a).bind fun row => atI row b).getD 0
theorem atI_nodes {n : Nat} {a : Int} (h1 : -1 ≤ a) (h2 : a < n) : atI (nodesI n) a = some a := by
  unfold nodesI
  by_cases c : a = -1
  · subst c
    exact atI_last _ _
  · obtain ⟨i, rfl⟩ : ∃ i : Nat, a = (i : Int) := ⟨a.toNat, by omega⟩
    refine atI_nat ?_
    rw [List.getElem?_append_left (by rw [List.length_map, List.length_range]; omega), List.getElem?_map, List.getElem?_range (by omega)]
    rfl
theorem ent_first {n : Nat} (es : List Edge) {a b : Int} (a1 : -1 ≤ a) (a2 : a < n) (b1 : -1 ≤ b) (b2 : b < n) : ent (firstTab n es) a b = firstSum es a b := by
  unfold ent firstTab
  rw [atI_map, atI_nodes a1 a2]
  show (atI ((nodesI n).map fun b => firstSum es a b) b).getD 0 = _
  rw [atI_map, atI_nodes b1 b2]
  rfl
theorem atI_zip {α β γ : Type} (f : α → β → γ) {xs : List α} {ys : List β} (hl : ys.length = xs.length) {k : Int} {x : α} {y : β} (hx : atI xs k = some x) (hy : atI ys k = some y) : atI (List.zipWith f xs ys) k = some (f x y) := by
  unfold atI at hx hy ⊢
  rw [List.length_zipWith, hl, Nat.min_self]
  rw [hl] at hy
  cases e : ixN xs.length k with
  | none => rw [e] at hx; cases hx
  | some j =>
    rw [e] at hx hy
    show (List.zipWith f xs ys)[j]? = _
    have hx : xs[j]? = some x := hx
    have hy : ys[j]? = some y := hy
    rw [List.getElem?_zipWith, hx, hy]
theorem ent_step {n : Nat} {M : List (List Int)} (h : Sqr (n + 1) M) {a b k : Int} (a1 : -1 ≤ a) (a2 : a < n) (b1 : -1 ≤ b) (b2 : b < n) (k1 : -1 ≤ k) (k2 : k < n) :
    ent (fwStep M k) a b = lessOf (ent M a k) (ent M a b) (ent M k b) := by
  obtain ⟨ra, e1, m1, _⟩ := atI_some h.1 a1 a2
  obtain ⟨rk, e2, m2, _⟩ := atI_some h.1 k1 k2
  obtain ⟨x, e3, _⟩ := atI_some (h.2 ra m1) b1 b2
  obtain ⟨y, e4, _⟩ := atI_some (h.2 rk m2) b1 b2
  obtain ⟨z, e5, _⟩ := atI_some (h.2 ra m1) k1 k2
  have ez := atI_zip (lessOf z) (by rw [h.2 ra m1, h.2 rk m2]) e3 e4
  have l : ent (fwStep M k) a b = lessOf z x y := by
    unfold ent fwStep
    rw [atI_map, e1]
    show (atI (sumsBy ra ((atI ra k).getD 0) ((atI M k).getD [])) b).getD 0 = _
    rw [e5, e2]
    show (atI (List.zipWith (lessOf z) ra rk) b).getD 0 = _
    rw [ez]
    rfl
  rw [l]
  unfold ent
  rw [e1, e2]
  show _ = lessOf ((atI ra k).getD 0) ((atI ra b).getD 0) ((atI rk b).getD 0)
  rw [e5, e3, e4]
  rfl
theorem less_le1 (s k m : Int) : lessOf s k m ≤ k := by unfold lessOf; split <;> omega
theorem less_le2 (s k m : Int) : lessOf s k m ≤ s + m := by unfold lessOf; split <;> omega
theorem less_or (s k m : Int) : lessOf s k m = k ∨ lessOf s k m = s + m := by
  unfold lessOf
  split
  · exact .inl rfl
  · exact .inr rfl
section
variable {es : List Edge} {n : Nat} {pi : Int → Int}
theorem fw_le (hp : ∀ e ∈ es, pi e.2.1 - pi e.1 ≤ e.2.2) (hu : UniqE es) : ∀ (ks N : List Int) {M : List (List Int)}, Sqr (n + 1) M → (∀ k ∈ ks, -1 ≤ k ∧ k < n) →
    (∀ a b x : Int, -1 ≤ a → a < n → -1 ≤ b → b < n → Wk es N a b x → ent M a b ≤ x) → ∀ a b x : Int, -1 ≤ a → a < n → -1 ≤ b → b < n → Wk es (N ++ ks) a b x → ent (ks.foldl fwStep M) a b ≤ x
  | [], N, M, hM, hk, h => fun a b x a1 a2 b1 b2 w => h a b x a1 a2 b1 b2 (by rw [List.append_nil] at w; exact w)
  | k :: ks, N, M, hM, hk, h => by
    obtain ⟨k1, k2⟩ := hk k List.mem_cons_self
    have ih := fw_le hp hu ks (N ++ [k]) (M := fwStep M k) (fwStep_sqr hM k1 k2) (fun z hz => hk z (List.mem_cons_of_mem _ hz)) fun a b x a1 a2 b1 b2 w => by
      rw [ent_step hM a1 a2 b1 b2 k1 k2]
      rcases w.split hp with ⟨x', g1, g2⟩ | ⟨x1, x2, g1, g2, g3⟩
      · exact Int.le_trans (less_le1 _ _ _) (Int.le_trans (h a b x' a1 a2 b1 b2 g2) g1)
      · have y1 := h a k x1 a1 a2 k1 k2 g2
        have y2 := h k b x2 k1 k2 b1 b2 g3
        exact Int.le_trans (less_le2 _ _ _) (by omega)
    intro a b x a1 a2 b1 b2 w
    rw [show N ++ k :: ks = (N ++ [k]) ++ ks by simp] at w
    exact ih a b x a1 a2 b1 b2 w
theorem fw_is {N : List Int} (hN : ∀ e ∈ es, e.1 ∈ N) : ∀ (ks : List Int) {M : List (List Int)}, Sqr (n + 1) M → (∀ k ∈ ks, -1 ≤ k ∧ k < n) →
    (∀ a b : Int, -1 ≤ a → a < n → -1 ≤ b → b < n → Wk es N a b (ent M a b)) → ∀ a b : Int, -1 ≤ a → a < n → -1 ≤ b → b < n → Wk es N a b (ent (ks.foldl fwStep M) a b)
  | [], M, hM, hk, h => h
  | k :: ks, M, hM, hk, h => by
    obtain ⟨k1, k2⟩ := hk k List.mem_cons_self
    refine fw_is hN ks (M := fwStep M k) (fwStep_sqr hM k1 k2) (fun z hz => hk z (List.mem_cons_of_mem _ hz)) fun a b a1 a2 b1 b2 => ?_
    rw [ent_step hM a1 a2 b1 b2 k1 k2]
    rcases less_or (ent M a k) (ent M a b) (ent M k b) with e | e
    · rw [e]
      exact h a b a1 a2 b1 b2
    · rw [e]
      exact (h a k a1 a2 k1 k2).trans (h k b k1 k2 b1 b2) hN
/-- from the ground's ways home -/
def Home (es : List Edge) (n : Nat) : Prop := ∀ a : Int, 0 ≤ a → a < n → ∃ e ∈ es, e.1 = a ∧ e.2.1 = -1 ∧ e.2.2 = 0
theorem find_of (hu : UniqE es) {e : Edge} (he : e ∈ es) : es.find? (likeE (e.1, e.2.1, 0)) = some e := by
  cases h : es.find? (likeE (e.1, e.2.1, 0)) with
  | none =>
    have := List.find?_eq_none.mp h e he
    exact absurd (like_iff.mpr ⟨rfl, rfl⟩) this
  | some x =>
    have h1 := like_iff.mp (List.find?_some h)
    have := hu e he x (List.mem_of_find?_eq_some h) (like_iff.mpr h1)
    rw [this]
theorem least_le (hp : ∀ e ∈ es, pi e.2.1 - pi e.1 ≤ e.2.2) (hu : UniqE es) {a b x : Int} (a1 : -1 ≤ a) (a2 : a < n) (b1 : -1 ≤ b) (b2 : b < n) (w : Wk es (nodesI n) a b x) : ent (leastSums n es) a b ≤ x := by
  refine fw_le hp hu (nodesI n) [] (firstTab_sqr n es) (fun k hk => nodesI_mem hk) (fun a b x a1 a2 b1 b2 w => ?_) a b x a1 a2 b1 b2 w
  rw [ent_first es a1 a2 b1 b2]
  have p := w.pot hp
  unfold firstSum
  by_cases c : a = b
  · rw [if_pos c]
    subst c
    omega
  · rw [if_neg c]
    cases w with
    | nil => exact absurd rfl c
    | one e he =>
      rw [find_of hu he]
      exact Int.le_refl _
    | snoc e _ hn => cases hn
theorem least_is (hu : UniqE es) (hn : inNodes n es) (hf : Full n es) (hm : Home es n) {a b : Int} (a1 : -1 ≤ a) (a2 : a < n) (b1 : -1 ≤ b) (b2 : b < n) : Wk es (nodesI n) a b (ent (leastSums n es) a b) := by
  have inN : ∀ z : Int, -1 ≤ z → z < n → z ∈ nodesI n := fun z z1 z2 => by
    have := atI_nodes z1 z2
    obtain ⟨j, _, h, _⟩ := atI_get this
    exact List.mem_of_getElem? h
  have hN : ∀ e ∈ es, e.1 ∈ nodesI n := fun e he => inN _ (hn e he).1.1 (hn e he).1.2
  refine fw_is hN (nodesI n) (firstTab_sqr n es) (fun k hk => nodesI_mem hk) (fun a b a1 a2 b1 b2 => ?_) a b a1 a2 b1 b2
  rw [ent_first es a1 a2 b1 b2]
  unfold firstSum
  by_cases c : a = b
  · rw [if_pos c]
    subst c
    exact .nil a
  · rw [if_neg c]
    cases h : es.find? (likeE (a, b, 0)) with
    | some e =>
      obtain ⟨h1, h2⟩ := like_iff.mp (List.find?_some h)
      have := Wk.one (N := nodesI n) e (List.mem_of_find?_eq_some h)
      have h1 : e.1 = a := h1
      have h2 : e.2.1 = b := h2
      rw [h1, h2] at this
      exact this
    | none =>
      cases g : es.find? (likeE (-1, b, 0)) with
      | none => exact absurd g (hf a (inN a a1 a2) b (inN b b1 b2) c h)
      | some e =>
        have ha : 0 ≤ a := by
          by_cases z : a = -1
          · subst z
            rw [h] at g
            cases g
          · omega
        obtain ⟨e0, m0, f1, f2, f3⟩ := hm a ha a2
        obtain ⟨h1, h2⟩ := like_iff.mp (List.find?_some g)
        have h1 : e.1 = -1 := h1
        have h2 : e.2.1 = b := h2
        have w1 := Wk.one (N := nodesI n) e0 m0
        rw [f1, f2, f3] at w1
        have w2 := Wk.snoc e w1 (inN _ (by omega) (by omega)) (List.mem_of_find?_eq_some g) h1
        rw [h2, Int.zero_add] at w2
        exact w2
/-- what the tight steps reach -/
theorem tight_reach (hp : ∀ e ∈ es, pi e.2.1 - pi e.1 ≤ e.2.2) (hu : UniqE es) (hn : inNodes n es) (hf : Full n es) (hm : Home es n) {S : Int → Prop} {a b : Int} (a1 : -1 ≤ a) (a2 : a < n) (b1 : -1 ≤ b) (b2 : b < n) (sa : S a)
    (st : ∀ e ∈ es, S e.1 → ent (leastSums n es) a e.1 + e.2.2 = ent (leastSums n es) a e.2.1 → S e.2.1) : S b := by
  have key : ∀ {z x : Int}, ∀ (c : Int), c = a → Wk es (nodesI n) c z x → x = ent (leastSums n es) a z → S z := fun {z x} c hc w => by
    induction w with
    | nil c => exact fun _ => hc ▸ sa
    | one e he =>
      intro hx
      refine st e he (hc ▸ sa) ?_
      have h0 : ent (leastSums n es) a a ≤ 0 := least_le hp hu a1 a2 a1 a2 (.nil a)
      have h1 := (least_is hu hn hf hm a1 a2 a1 a2).pot hp
      rw [hc]
      omega
    | @snoc c m x e w hm2 he en ih =>
      intro hx
      obtain ⟨⟨m1, m2⟩, o1, o2⟩ := hn e he
      rw [en] at m1 m2
      have g1 : ent (leastSums n es) a m ≤ x := least_le hp hu a1 a2 m1 m2 (hc ▸ w)
      have g2 : ent (leastSums n es) a e.2.1 ≤ ent (leastSums n es) a m + e.2.2 := least_le hp hu a1 a2 o1 o2 (.snoc e (least_is hu hn hf hm a1 a2 m1 m2) hm2 he en)
      have gx : x = ent (leastSums n es) a m := by omega
      refine st e he (en ▸ ih hc gx) ?_
      rw [en]
      omega
  exact key a rfl (least_is hu hn hf hm a1 a2 b1 b2) rfl
end
end Law

/-! zip of three lists. -/
namespace Zip3
open PySem PySem.Spec PyProof.Rows L2
abbrev IsTrip (h : Heap) (T : Addr) (a b c : Value) : Prop := h.get? T = some { cls := .type "tuple", data := .seq #[a, b, c] }
theorem an {a b : Nat} (h : a < b ∨ b < a) : a ≠ b := by omega
/-- the iterators and lists of a zip -/
structure Pk (g : Heap) (I l1 l2 l3 k1 k2 k3 : Nat) (xs ys zs : Array Value) : Prop where
  lt : l1 < I ∧ l2 < I ∧ l3 < I
  TI : IsTrip g (I + 3) (.ref I) (.ref (I + 1)) (.ref (I + 2))
  i1 : g.IsListIter I l1 k1
  i2 : g.IsListIter (I + 1) l2 k2
  i3 : g.IsListIter (I + 2) l3 k3
  hx : g.IsList l1 xs
  hy : g.IsList l2 ys
  hw : g.IsList l3 zs
section
variable {g g' : Heap} {I l1 l2 l3 k1 k2 k3 d : Nat} {xs ys zs : Array Value}
theorem Pk.mv (p : Pk g I l1 l2 l3 k1 k2 k3 xs ys zs) (b : Heap.ExtBut d g g') (hd : d = I + 4 ∨ d = I + 5 ∨ I + 5 < d) : Pk g' I l1 l2 l3 k1 k2 k3 xs ys zs := by
  obtain ⟨q1, q2, q3⟩ := p.lt
  have n : ∀ m : Nat, m < I + 4 → m ≠ d := fun m hm z => by
    rcases hd with h | h | h <;> omega
  exact ⟨p.lt, b _ _ (n _ (by omega)) p.TI, p.i1.extBut b (n _ (by omega)), p.i2.extBut b (n _ (by omega)), p.i3.extBut b (n _ (by omega)), p.hx.extBut b (n _ (by omega)), p.hy.extBut b (n _ (by omega)), p.hw.extBut b (n _ (by omega))⟩
theorem Pk.d1 (p : Pk g I l1 l2 l3 k1 k2 k3 xs ys zs) (b : Heap.SameBut I g g') (j : g'.IsListIter I l1 (k1 + 1)) : Pk g' I l1 l2 l3 (k1 + 1) k2 k3 xs ys zs := by
  obtain ⟨q1, q2, q3⟩ := p.lt
  have e := b.extBut
  exact ⟨p.lt, e _ _ (an (by omega)) p.TI, j, p.i2.extBut e (an (by omega)), p.i3.extBut e (an (by omega)), p.hx.extBut e (an (by omega)), p.hy.extBut e (an (by omega)), p.hw.extBut e (an (by omega))⟩
theorem Pk.d2 (p : Pk g I l1 l2 l3 k1 k2 k3 xs ys zs) (b : Heap.SameBut (I + 1) g g') (j : g'.IsListIter (I + 1) l2 (k2 + 1)) : Pk g' I l1 l2 l3 k1 (k2 + 1) k3 xs ys zs := by
  obtain ⟨q1, q2, q3⟩ := p.lt
  have e := b.extBut
  exact ⟨p.lt, e _ _ (an (by omega)) p.TI, p.i1.extBut e (an (by omega)), j, p.i3.extBut e (an (by omega)), p.hx.extBut e (an (by omega)), p.hy.extBut e (an (by omega)), p.hw.extBut e (an (by omega))⟩
theorem Pk.d3 (p : Pk g I l1 l2 l3 k1 k2 k3 xs ys zs) (b : Heap.SameBut (I + 2) g g') (j : g'.IsListIter (I + 2) l3 (k3 + 1)) : Pk g' I l1 l2 l3 k1 k2 (k3 + 1) xs ys zs := by
  obtain ⟨q1, q2, q3⟩ := p.lt
  have e := b.extBut
  exact ⟨p.lt, e _ _ (an (by omega)) p.TI, p.i1.extBut e (an (by omega)), p.i2.extBut e (an (by omega)), j, p.hx.extBut e (an (by omega)), p.hy.extBut e (an (by omega)), p.hw.extBut e (an (by omega))⟩
/-- what a zip leaves alone -/
def Lv (I : Nat) (g g' : Heap) : Prop := g'.objs.size = g.objs.size ∧ ∀ c, (c < I ∨ I + 5 < c ∨ c = I + 3) → g'.get? c = g.get? c
theorem Lv.st {g0 : Heap} (h : Lv I g0 g) (b : Heap.SameBut d g g') (hd : d = I ∨ d = I + 1 ∨ d = I + 2 ∨ d = I + 4 ∨ d = I + 5) : Lv I g0 g' :=
  ⟨b.1.trans h.1, fun c hc => (b.2 c (show (c : Nat) ≠ d from by rcases hd with h | h | h | h | h <;> omega)).trans (h.2 c hc)⟩
end
section
variable {prog : Program} {w : World} {A : Around} {E : Value → Shared → Prop} {s : Shared}
theorem updateSeq3 {T : Addr} {a b c x : Value} {k : Nat} {Q : Unit → Shared → Prop} (ht : IsTrip s.heap T a b c)
    (hQ : ∀ h', h'.get? T = some { cls := .type "tuple", data := .seq (#[a, b, c].setIfInBounds k x) } → Heap.SameBut T s.heap h' → Q () { s with heap := h' }) :
    wpAny (model prog w) A (updateSeq T fun xs => xs.setIfInBounds k x) Q E s := by
  refine wpAny_updateSeq ht rfl (hQ _ ?_ ?_) (by show 3 ≤ sizeLine; decide) (by rw [Array.size_setIfInBounds]; show 3 ≤ sizeLine + 1; decide)
  · rw [Heap.get?_update_self _ ht rfl]
    simp [Obj.mapSeq]
  · exact Heap.SameBut.update _ _ _
theorem next_item {I l1 l2 l3 k : Nat} {xs ys zs : Array Value} {x y z a b c : Value} {Q : Value → Shared → Prop} (p : Pk s.heap I l1 l2 l3 k k k xs ys zs) (hz : IsZip s.heap (I + 5) (I + 3) (I + 4) .none)
    (hTO : IsTrip s.heap (I + 4) a b c) (ex : xs[k]? = some x) (ey : ys[k]? = some y) (ew : zs[k]? = some z)
    (hQ : ∀ h', IsZip h' (I + 5) (I + 3) (I + 4) (rawInt s.heap.objs.size) → IsTrip h' (I + 4) x y z → Pk h' I l1 l2 l3 (k + 1) (k + 1) (k + 1) xs ys zs → IsTrip h' s.heap.objs.size x y z →
      h'.objs.size = s.heap.objs.size + 1 → (∀ c o, (c < I ∨ I + 5 < c ∨ c = I + 3) → s.heap.get? c = some o → h'.get? c = some o) → Q (.ref s.heap.objs.size) { s with heap := h' }) :
    wpAny (model prog w) A (Builtin.«zip.__next__» ⟨[.ref (I + 5)], []⟩) (fun fin s' => ∃ v, fin = .done (.ret v) ∧ Q v s') E s := by
  unfold Builtin.«zip.__next__»
  rw [show slotArgs "__next__" 0 ⟨[.ref (I + 5)], []⟩ = pure (.ref (I + 5), []) from rfl]
  refine wpAny_bind (wpAny_pure ?_)
  try dsimp only
  refine wpAny_bind (wpAny_field hz rfl rfl ?_)
  refine wpAny_bind (wpAny_field hz rfl rfl ?_)
  refine wpAny_bind (wpAny_seqItems p.TI rfl ?_)
  try dsimp only
  rw [if_neg (by simp)]
  unfold Builtin.SmallTypes.ownedTupleIsFree
  refine wpAny_bind (wpAny_bind (wpAny_field hz rfl rfl (wpAny_pure ?_)))
  try dsimp only
  rw [if_pos rfl]
  refine wpAny_bind (wpAny_rule (wpAny_bind (wpAny_field hz rfl rfl ?_)))
  try dsimp only
  refine wpAny_bind (wpAny_setField_rec hz (by simp) fun g1 z1 b1 => ?_)
  have L1 : Lv I s.heap g1 := Lv.st ⟨rfl, fun _ _ => rfl⟩ b1 (by omega)
  have p1 := p.mv b1.extBut (by omega)
  have t1 : IsTrip g1 (I + 4) a b c := (b1.2 _ (an (by omega))).trans hTO
  simp only [List.zipIdx, List.forIn_cons, List.forIn_nil]
  refine wpAny_bind (wpAny_bind (wpAny_bind (wpAny_onRaise (show wpAny (model prog w) A (Builtin.SmallTypes.nextOf (.ref I) >>= fun x => pure (some x)) _ _ _ from wpAny_bind (wpAny_nextOf_list_item p1.i1 p1.hx ex fun g2 j1 b2 => wpAny_pure ?_)))))
  have L2 := L1.st b2 (by omega)
  have p2 := p1.d1 b2 j1
  have t2 : IsTrip g2 (I + 4) a b c := (b2.2 _ (an (by omega))).trans t1
  have z2 := (b2.2 (I + 5) (an (by omega))).trans z1
  try dsimp only
  refine wpAny_bind (wpAny_seqItems t2 rfl ?_)
  try dsimp only
  refine wpAny_bind (updateSeq3 t2 fun g3 t3 b3 => wpAny_bind (wpAny_letGo (wpAny_pure ?_)))
  have t3 : IsTrip g3 (I + 4) x b c := t3
  have L3 := L2.st b3 (by omega)
  have p3 := p2.mv b3.extBut (by omega)
  have z3 := (b3.2 (I + 5) (an (by omega))).trans z2
  try dsimp only
  refine wpAny_bind (wpAny_bind (wpAny_onRaise (show wpAny (model prog w) A (Builtin.SmallTypes.nextOf (.ref (I + 1)) >>= fun x => pure (some x)) _ _ _ from wpAny_bind (wpAny_nextOf_list_item p3.i2 p3.hy ey fun g4 j4 b4 => wpAny_pure ?_))))
  have L4 := L3.st b4 (by omega)
  have p4 := p3.d2 b4 j4
  have t4 := (b4.2 (I + 4) (an (by omega))).trans t3
  have z4 := (b4.2 (I + 5) (an (by omega))).trans z3
  try dsimp only
  refine wpAny_bind (wpAny_seqItems t4 rfl ?_)
  try dsimp only
  refine wpAny_bind (updateSeq3 t4 fun g5 t5 b5 => wpAny_bind (wpAny_letGo (wpAny_pure ?_)))
  have t5 : IsTrip g5 (I + 4) x y c := t5
  have L5 := L4.st b5 (by omega)
  have p5 := p4.mv b5.extBut (by omega)
  have z5 := (b5.2 (I + 5) (an (by omega))).trans z4
  try dsimp only
  refine wpAny_bind (wpAny_bind (wpAny_onRaise (show wpAny (model prog w) A (Builtin.SmallTypes.nextOf (.ref (I + 2)) >>= fun x => pure (some x)) _ _ _ from wpAny_bind (wpAny_nextOf_list_item p5.i3 p5.hw ew fun g6 j6 b6 => wpAny_pure ?_))))
  have L6 := L5.st b6 (by omega)
  have p6 := p5.d3 b6 j6
  have t6 := (b6.2 (I + 4) (an (by omega))).trans t5
  have z6 := (b6.2 (I + 5) (an (by omega))).trans z5
  try dsimp only
  refine wpAny_bind (wpAny_seqItems t6 rfl ?_)
  try dsimp only
  refine wpAny_bind (updateSeq3 t6 fun g7 t7 b7 => wpAny_bind (wpAny_letGo (wpAny_pure ?_)))
  have t7 : IsTrip g7 (I + 4) x y z := t7
  have L7 := L6.st b7 (by omega)
  have p7 := p6.mv b7.extBut (by omega)
  have z7 := (b7.2 (I + 5) (an (by omega))).trans z6
  try dsimp only
  refine wpAny_pure ?_
  try dsimp only
  refine wpAny_bind (wpAny_seqItems t7 rfl ?_)
  try dsimp only
  refine wpAny_bind (wpAny_newTuple ?_ (by show 3 ≤ sizeLine; decide))
  unfold Builtin.SmallTypes.ownedTupleHandOut
  try dsimp only
  have hs7 : g7.objs.size = s.heap.objs.size := L7.1
  have szI : I + 5 < g7.objs.size := Heap.lt_size z7
  have zp := Heap.get?_push_of_some { cls := .type "tuple", data := .seq [x, y, z].toArray } z7
  have tp := Heap.get?_push_of_some { cls := .type "tuple", data := .seq [x, y, z].toArray } t7
  have np : (g7.push { cls := .type "tuple", data := .seq [x, y, z].toArray }).get? g7.objs.size = some { cls := .type "tuple", data := .seq [x, y, z].toArray } := Heap.get?_push_size g7 rfl
  have bp : Heap.ExtBut (g7.objs.size) g7 (g7.push { cls := .type "tuple", data := .seq [x, y, z].toArray }) := fun c o _ e => Heap.get?_push_of_some _ e
  have pp := p7.mv bp (by omega)
  have sp : (g7.push { cls := .type "tuple", data := .seq [x, y, z].toArray }).objs.size = g7.objs.size + 1 := Heap.size_push ..
  have kp : ∀ c o, g7.get? c = some o → (g7.push { cls := .type "tuple", data := .seq [x, y, z].toArray }).get? c = some o := fun c o e => Heap.get?_push_of_some _ e
  generalize g7.push { cls := .type "tuple", data := .seq [x, y, z].toArray } = g8 at zp tp np pp sp kp
  refine wpAny_bind (wpAny_bind (wpAny_setField_rec zp (by simp) fun g9 z9 b9 => wpAny_setField_rec z9 (by simp) fun g10 z10 b10 => ?_))
  refine wpAny_pure ⟨_, rfl, ?_⟩
  rw [hs7]
  rw [hs7] at z10 np sp
  have lv : ∀ c : Nat, c ≠ I + 5 → g10.get? c = g8.get? c := fun c n => (b10.2 c n).trans (b9.2 c n)
  refine hQ g10 (by simpa using z10) ((lv _ (an (by omega))).trans tp) ((pp.mv b9.extBut (by omega)).mv b10.extBut (by omega)) ((lv _ (an (by omega))).trans np) (by rw [b10.1, b9.1, sp]) fun c o hc e => ?_
  rw [lv c (an (by omega))]
  exact kp _ _ ((L7.2 c hc).trans e)
theorem next_end {I l1 l2 l3 k : Nat} {xs ys zs : Array Value} {a b c : Value} {Q : PySem.Fin → Shared → Prop} (hA : A.handled = none) (p : Pk s.heap I l1 l2 l3 k k k xs ys zs) (hz : IsZip s.heap (I + 5) (I + 3) (I + 4) .none)
    (hTO : IsTrip s.heap (I + 4) a b c) (ex : xs[k]? = none)
    (hE : ∀ h' e, (∀ c o, (c < I ∨ I + 5 < c ∨ c = I + 3) → s.heap.get? c = some o → h'.get? c = some o) → (∃ o, h'.get? e = some o ∧ o.cls = .type "StopIteration") → E (.ref e) { s with heap := h' }) :
    wpAny (model prog w) A (Builtin.«zip.__next__» ⟨[.ref (I + 5)], []⟩) Q E s := by
  unfold Builtin.«zip.__next__»
  rw [show slotArgs "__next__" 0 ⟨[.ref (I + 5)], []⟩ = pure (.ref (I + 5), []) from rfl]
  refine wpAny_bind (wpAny_pure ?_)
  try dsimp only
  refine wpAny_bind (wpAny_field hz rfl rfl ?_)
  refine wpAny_bind (wpAny_field hz rfl rfl ?_)
  refine wpAny_bind (wpAny_seqItems p.TI rfl ?_)
  try dsimp only
  rw [if_neg (by simp)]
  unfold Builtin.SmallTypes.ownedTupleIsFree
  refine wpAny_bind (wpAny_bind (wpAny_field hz rfl rfl (wpAny_pure ?_)))
  try dsimp only
  rw [if_pos rfl]
  refine wpAny_bind (wpAny_rule (wpAny_bind (wpAny_field hz rfl rfl ?_)))
  try dsimp only
  refine wpAny_bind (wpAny_setField_rec hz (by simp) fun g1 z1 b1 => ?_)
  have L1 : Lv I s.heap g1 := Lv.st ⟨rfl, fun _ _ => rfl⟩ b1 (by omega)
  have p1 := p.mv b1.extBut (by omega)
  simp only [List.zipIdx, List.forIn_cons, List.forIn_nil]
  refine wpAny_bind (wpAny_bind (wpAny_bind (wpAny_onRaise (show wpAny (model prog w) A (Builtin.SmallTypes.nextOf (.ref I) >>= fun x => pure (some x)) _ _ _ from wpAny_bind (wpAny_nextOf_list_end hA p1.i1 p1.hx ex fun g2 e b2 st => ?_)))))
  have z2 := b2 (I + 5) _ (an (by omega)) z1
  refine wpAny_setField_rec z2 (by simp) fun g3 z3 b3 => hE g3 e (fun c o hc q => ?_) ?_
  · have q1 := b1.extBut c o (an (by omega)) q
    exact b3.extBut c o (an (by omega)) (b2 c o (an (by omega)) q1)
  · obtain ⟨o, e1, e2⟩ := st
    refine ⟨o, (b3.2 e fun q => ?_).trans e1, e2⟩
    rw [q, z2] at e1
    rw [← Option.some.inj e1] at e2
    simp at e2
theorem pyNext_item {I l1 l2 l3 k : Nat} {xs ys zs : Array Value} {x y z a b c : Value} {Q : Option Value → Shared → Prop} (p : Pk s.heap I l1 l2 l3 k k k xs ys zs) (hz : IsZip s.heap (I + 5) (I + 3) (I + 4) .none)
    (hTO : IsTrip s.heap (I + 4) a b c) (ex : xs[k]? = some x) (ey : ys[k]? = some y) (ew : zs[k]? = some z)
    (hQ : ∀ h', IsZip h' (I + 5) (I + 3) (I + 4) (rawInt s.heap.objs.size) → IsTrip h' (I + 4) x y z → Pk h' I l1 l2 l3 (k + 1) (k + 1) (k + 1) xs ys zs → IsTrip h' s.heap.objs.size x y z →
      h'.objs.size = s.heap.objs.size + 1 → (∀ c o, (c < I ∨ I + 5 < c ∨ c = I + 3) → s.heap.get? c = some o → h'.get? c = some o) → Q (some (.ref s.heap.objs.size)) { s with heap := h' }) :
    wpAny (model prog w) A (pyNext (.ref (I + 5))) Q E s := by
  have hT : s.TypeIs (.ref (I + 5)) "zip" := ⟨_, hz, rfl⟩
  exact wpAny_bind (wpAny_attempt (wpAny_callSpecial?_slot hT F.slot_zip_next (wpAny_call_entry F.slot_zip_next hT F.entry_zip_next
    (next_item p hz hTO ex ey ew fun h' a1 a2 a3 a4 a5 a6 => wpAny_pure (hQ h' a1 a2 a3 a4 a5 a6)) (F.args_zip_next_1 _))))
theorem pyNext_end {I l1 l2 l3 k : Nat} {xs ys zs : Array Value} {a b c : Value} {Q : Option Value → Shared → Prop} (hA : A.handled = none) (p : Pk s.heap I l1 l2 l3 k k k xs ys zs) (hz : IsZip s.heap (I + 5) (I + 3) (I + 4) .none)
    (hTO : IsTrip s.heap (I + 4) a b c) (ex : xs[k]? = none) (hQ : ∀ h', (∀ c o, (c < I ∨ I + 5 < c ∨ c = I + 3) → s.heap.get? c = some o → h'.get? c = some o) → Q none { s with heap := h' }) :
    wpAny (model prog w) A (pyNext (.ref (I + 5))) Q E s := by
  have hT : s.TypeIs (.ref (I + 5)) "zip" := ⟨_, hz, rfl⟩
  exact wpAny_bind (wpAny_attempt (wpAny_callSpecial?_slot hT F.slot_zip_next (wpAny_call_entry F.slot_zip_next hT F.entry_zip_next
    (next_end hA p hz hTO ex fun h' e hk ⟨o, ho, hc⟩ => wpAny_bind (wpAny_isInstance ⟨o, ho, hc⟩ isSubtype_stop (wpAny_pure (hQ h' hk)))) (F.args_zip_next_1 _))))
end
theorem args4 (a b c d : Value) : argsOk "object.__init__" ⟨[a, b, c, d], []⟩ := by
  unfold argsOk
  rw [signature?_of rfl F.owner_object]
  rfl
@[reducible] def h1 (h : Heap) (l1 : Addr) : Heap := h.push { cls := .type "list_iterator", data := .fields #[.ref l1, .int 0 0] }
@[reducible] def h2 (h : Heap) (l1 l2 : Addr) : Heap := (h1 h l1).push { cls := .type "list_iterator", data := .fields #[.ref l2, .int 0 0] }
@[reducible] def h3 (h : Heap) (l1 l2 l3 : Addr) : Heap := (h2 h l1 l2).push { cls := .type "list_iterator", data := .fields #[.ref l3, .int 0 0] }
@[reducible] def h4 (h : Heap) (l1 l2 l3 : Addr) : Heap := (h3 h l1 l2 l3).push { cls := .type "tuple", data := .seq #[.ref h.objs.size, .ref (h1 h l1).objs.size, .ref (h2 h l1 l2).objs.size] }
@[reducible] def h5 (h : Heap) (l1 l2 l3 : Addr) : Heap := (h4 h l1 l2 l3).push { cls := .type "tuple", data := .seq #[.none, .none, .none] }
@[reducible] def h6 (h : Heap) (l1 l2 l3 : Addr) : Heap := (h5 h l1 l2 l3).push { cls := .type "zip", data := .fields #[.none, .bool false, .bool false, .ref (h3 h l1 l2 l3).objs.size, .ref (h4 h l1 l2 l3).objs.size] }
theorem meets_new (l1 l2 l3 : Addr) (xs ys zs : Array Value) : Meets (Builtin.«zip.__new__» ⟨[.type "zip", .ref l1, .ref l2, .ref l3], []⟩) (fun _ R s => s.heap.IsList l1 xs ∧ s.heap.IsList l2 ys ∧ s.heap.IsList l3 zs ∧
    R (.ok (.ret (.ref (h5 s.heap l1 l2 l3).objs.size))) { s with heap := h6 s.heap l1 l2 l3 }) := .of_wp fun prog w A R s h => by
  obtain ⟨hp, g, d, tk, os⟩ := s
  obtain ⟨a1, a2, a3, h⟩ := h
  have hsub := sub_zip
  have hL1 := a1
  have hL2 := Heap.IsList.push a2 { cls := .type "list_iterator", data := .fields #[.ref l1, .int 0 0] }
  have hL3 := Heap.IsList.push (Heap.IsList.push a3 { cls := .type "list_iterator", data := .fields #[.ref l1, .int 0 0] }) { cls := .type "list_iterator", data := .fields #[.ref l2, .int 0 0] }
  wp_walk using wpAny_pyIter_list hL1, wpAny_pyIter_list hL2, wpAny_pyIter_list hL3
  exact ⟨_, rfl, h⟩
theorem newCall (a b c : Value) : checkBuiltinCall "zip.__new__" ⟨[.type "zip", a, b, c], []⟩ = pure () := by
  kernel_rfl
theorem typeCall (a b c : Value) : checkTypeCall "zip" ⟨[a, b, c], []⟩ = pure () := id (Eq.refl (checkTypeCall "zip" ⟨[a, b, c], []⟩))
theorem call_zip {prog : Program} {w : World} {A : Around} {E : Value → Shared → Prop} {s : Shared} {l1 l2 l3 : Addr} {xs ys zs : Array Value} {Q : Value → Shared → Prop} (a1 : s.heap.IsList l1 xs) (a2 : s.heap.IsList l2 ys) (a3 : s.heap.IsList l3 zs)
    (hQ : ∀ h', IsZip h' (s.heap.objs.size + 5) (s.heap.objs.size + 3) (s.heap.objs.size + 4) .none → IsTrip h' (s.heap.objs.size + 4) .none .none .none → Pk h' s.heap.objs.size l1 l2 l3 0 0 0 xs ys zs → h'.objs.size = s.heap.objs.size + 6 →
      (∀ c o, s.heap.get? c = some o → h'.get? c = some o) → Q (.ref (s.heap.objs.size + 5)) { s with heap := h' }) :
    wpAny (model prog w) A (call (.type "zip") [.ref l1, .ref l2, .ref l3]) Q E s := by
  refine callType_new F.called_zip (by decide) (typeCall _ _ _) (newCall _ _ _) (fun obj => args4 obj _ _ _) F.entry_zip_new (meets_new l1 l2 l3 xs ys zs) ⟨a1, a2, a3, ?_⟩
  have z1 : (h1 s.heap l1).objs.size = s.heap.objs.size + 1 := Heap.size_push ..
  have z2 : (h2 s.heap l1 l2).objs.size = s.heap.objs.size + 2 := by rw [Heap.size_push, z1]
  have z3 : (h3 s.heap l1 l2 l3).objs.size = s.heap.objs.size + 3 := by rw [Heap.size_push, z2]
  have z4 : (h4 s.heap l1 l2 l3).objs.size = s.heap.objs.size + 4 := by rw [Heap.size_push, z3]
  have z5 : (h5 s.heap l1 l2 l3).objs.size = s.heap.objs.size + 5 := by rw [Heap.size_push, z4]
  have z6 : (h6 s.heap l1 l2 l3).objs.size = s.heap.objs.size + 6 := by rw [Heap.size_push, z5]
  have up6 : ∀ c o, (h5 s.heap l1 l2 l3).get? c = some o → (h6 s.heap l1 l2 l3).get? c = some o := fun c o e => Heap.get?_push_of_some _ e
  have up5 : ∀ c o, (h4 s.heap l1 l2 l3).get? c = some o → (h6 s.heap l1 l2 l3).get? c = some o := fun c o e => up6 _ _ (Heap.get?_push_of_some _ e)
  have up4 : ∀ c o, (h3 s.heap l1 l2 l3).get? c = some o → (h6 s.heap l1 l2 l3).get? c = some o := fun c o e => up5 _ _ (Heap.get?_push_of_some _ e)
  have up3 : ∀ c o, (h2 s.heap l1 l2).get? c = some o → (h6 s.heap l1 l2 l3).get? c = some o := fun c o e => up4 _ _ (Heap.get?_push_of_some _ e)
  have up2 : ∀ c o, (h1 s.heap l1).get? c = some o → (h6 s.heap l1 l2 l3).get? c = some o := fun c o e => up3 _ _ (Heap.get?_push_of_some _ e)
  have up1 : ∀ c o, s.heap.get? c = some o → (h6 s.heap l1 l2 l3).get? c = some o := fun c o e => up2 _ _ (Heap.get?_push_of_some _ e)
  have g6 : IsZip (h6 s.heap l1 l2 l3) (s.heap.objs.size + 5) (s.heap.objs.size + 3) (s.heap.objs.size + 4) .none := by
    have g : (h6 s.heap l1 l2 l3).get? (h5 s.heap l1 l2 l3).objs.size = some { cls := .type "zip", data := .fields #[.none, .bool false, .bool false, .ref (h3 s.heap l1 l2 l3).objs.size, .ref (h4 s.heap l1 l2 l3).objs.size] } := Heap.get?_push_size _ rfl
    show (h6 s.heap l1 l2 l3).get? _ = _
    generalize h6 s.heap l1 l2 l3 = X at g ⊢
    rw [z5, z3, z4] at g
    exact g
  have g5 := up6 _ _ (Heap.get?_push_size (h4 s.heap l1 l2 l3) (o := { cls := .type "tuple", data := .seq #[.none, .none, .none] }) rfl)
  have g4 := up5 _ _ (Heap.get?_push_size (h3 s.heap l1 l2 l3) (o := { cls := .type "tuple", data := .seq #[.ref s.heap.objs.size, .ref (h1 s.heap l1).objs.size, .ref (h2 s.heap l1 l2).objs.size] }) rfl)
  have g3 := up4 _ _ (Heap.get?_push_size (h2 s.heap l1 l2) (o := { cls := .type "list_iterator", data := .fields #[.ref l3, .int 0 0] }) rfl)
  have g2 := up3 _ _ (Heap.get?_push_size (h1 s.heap l1) (o := { cls := .type "list_iterator", data := .fields #[.ref l2, .int 0 0] }) rfl)
  have g1 := up2 _ _ (Heap.get?_push_size s.heap (o := { cls := .type "list_iterator", data := .fields #[.ref l1, .int 0 0] }) rfl)
  have mv : ∀ {l : Addr} {us : Array Value}, s.heap.IsList l us → (h6 s.heap l1 l2 l3).IsList l us := fun ⟨o, e1, e2⟩ => ⟨o, up1 _ _ e1, e2⟩
  have lt : ∀ {l : Addr} {us : Array Value}, s.heap.IsList l us → l < s.heap.objs.size := fun ⟨o, e1, _⟩ => Heap.lt_size e1
  rw [z4] at g5
  rw [z3, z1, z2] at g4
  rw [z2] at g3
  rw [z1] at g2
  show _ ∧ _
  rw [z5]
  exact ⟨⟨_, g6, rfl⟩, hQ _ g6 g5 ⟨⟨lt a1, lt a2, lt a3⟩, g4, ⟨_, g1, rfl, rfl⟩, ⟨_, g2, rfl, rfl⟩, ⟨_, g3, rfl, rfl⟩, mv a1, mv a2, mv a3⟩ z6 up1⟩
/-- three lists side by side, each row in a new tuple -/
def Itz3 (K : PySem.W.Frag) (a b c : Addr) : It :=
  ⟨fun i H => ∃ (xs ys zs : List V) (x y z : V), SqL K H a xs ∧ SqL K H b ys ∧ SqL K H c zs ∧ xs[i]? = some x ∧ ys[i]? = some y ∧ zs[i]? = some z,
    fun i H v H' => ∃ T x y z, v = .ref T ∧ H T = none ∧ H' = upd H T (.tup [x, y, z]) ∧ (∀ xs, SqL K H a xs → xs[i]? = some x) ∧ (∀ ys, SqL K H b ys → ys[i]? = some y) ∧ ∀ zs, SqL K H c zs → zs[i]? = some z,
    fun i H => ∃ xs ys zs : List V, SqL K H a xs ∧ SqL K H b ys ∧ SqL K H c zs ∧ xs.length ≤ i⟩
def Sj (g : Heap) (I l1 l2 l3 k : Nat) : Prop := (l1 < I ∧ l2 < I ∧ l3 < I) ∧ IsTrip g (I + 3) (.ref I) (.ref (I + 1)) (.ref (I + 2)) ∧ g.IsListIter I l1 k ∧ g.IsListIter (I + 1) l2 k ∧ g.IsListIter (I + 2) l3 k
theorem cases6 {I : Nat} (d : Nat) (hd : ¬ d ∈ [I + 5, I + 3, I + 4, I, I + 1, I + 2]) : d ≠ I + 5 ∧ (d < I ∨ I + 5 < d ∨ d = I + 3) := by
  simp only [List.mem_cons, List.not_mem_nil, or_false, not_or] at hd
  omega
theorem ge6 {I : Nat} (d : Nat) (hd : d ∈ [I + 5, I + 3, I + 4, I, I + 1, I + 2]) : I ≤ d := by
  simp only [List.mem_cons, List.not_mem_nil, or_false] at hd
  omega
theorem turn_zip3 {P : Program} {w : World} {K : PySem.W.Frag} {elts : List Expr} {kk : Nat} {tpos : Pos} (a b c I : Nat) :
    Turn P w K (.Tuple elts kk tpos) (Itz3 K a b c) [I + 5, I + 3, I + 4, I, I + 1, I + 2] (I + 5) (fun i h => IsZip h (I + 5) (I + 3) (I + 4) .none ∧ (∃ x y z, IsTrip h (I + 4) x y z) ∧ Sj h I a b c i) where
  mem := by simp
  obj := fun i h st d hd => by
    obtain ⟨hz, ⟨x, y, z, ht⟩, lt, TI, ⟨o1, a1, b1, c1⟩, ⟨o2, a2, b2, c2⟩, ⟨o3, a3, b3, c3⟩⟩ := st
    have e' : d = I + 5 ∨ d = I + 3 ∨ d = I + 4 ∨ d = I ∨ d = I + 1 ∨ d = I + 2 := by simpa using hd
    rcases e' with q | q | q | q | q | q
    · rw [q]; exact ⟨_, hz, fun v q => nomatch q⟩
    · rw [q]; exact ⟨_, TI, fun v q => nomatch q⟩
    · rw [q]; exact ⟨_, ht, fun v q => nomatch q⟩
    · rw [q]; exact ⟨o1, a1, fun v q => by rw [c1] at q; cases q⟩
    · rw [q]; exact ⟨o2, a2, fun v q => by rw [c2] at q; cases q⟩
    · rw [q]; exact ⟨o3, a3, fun v q => by rw [c3] at q; cases q⟩
  keep := fun i h h' st k => let ⟨hz, ⟨x, y, z, ht⟩, lt, TI, i1, i2, i3⟩ := st
    ⟨k _ (by simp) _ hz, ⟨x, y, z, k _ (by simp) _ ht⟩, lt, k _ (by simp) _ TI, i1.at fun o q => k _ (by simp) o q, i2.at fun o q => k _ (by simp) o q, i3.at fun o q => k _ (by simp) o q⟩
  item := by
    intro X hP hw hK hc i pins s σ H E I' hf st hg
    subst hP hw hK
    obtain ⟨hz, ⟨p1, p2, p3, ht⟩, lt, TI, i1, i2, i3⟩ := st
    obtain ⟨xs, ys, zs, x, y, z, hx, hy, hw, ex, ey, ew⟩ := hg
    obtain ⟨it1, rv1, q1, _⟩ := I'.list hx
    obtain ⟨it2, rv2, q2, _⟩ := I'.list hy
    obtain ⟨it3, rv3, q3, _⟩ := I'.list hw
    obtain ⟨u1, hu1, r1⟩ := rv1.get ex
    obtain ⟨u2, hu2, r2⟩ := rv2.get ey
    obtain ⟨u3, hu3, r3⟩ := rv3.get ew
    have hlt : ∀ m : Nat, m ≤ I + 5 → m < s.heap.objs.size := fun m hm => Nat.lt_of_le_of_lt hm (Heap.lt_size hz)
    refine pyNext_item (k := i) ⟨lt, TI, i1, i2, i3, q1.isList, q2.isList, q3.isList⟩ hz ht (by simpa using hu1) (by simpa using hu2) (by simpa using hu3) fun h' z1 t1 pk n1 sz kp => ?_
    refine ⟨_, rfl, wpAny_letOwnedTupleGo_zip (s := { s with heap := h' }) z1 fun h'' z2 sb => ?_⟩
    have hT2 : h''.get? s.heap.objs.size = some { cls := .type "tuple", data := .seq #[u1, u2, u3] } := (sb.2 _ (an (.inr (hlt _ (Nat.le_refl _))))).trans n1
    have new : ObjOk X.prog X.w (upd H s.heap.objs.size (.tup [x, y, z])) h'' s.heap.objs.size (.tup [x, y, z]) :=
      ⟨by show 3 ≤ sizeLine; decide, [u1, u2, u3], .cons r1 (.cons r2 (.cons r3 .nil)), ⟨_, hT2, rfl, _, rfl⟩⟩
    have I1 : Inv X pins σ (upd H s.heap.objs.size (.tup [x, y, z])) { s with heap := h'' } :=
      I'.turnedNew (t' := s.toks) (ch := [I + 5, I + 3, I + 4, I, I + 1, I + 2]) (fun d ob hd q => (sb.2 d (cases6 d hd).1).trans (kp d ob (cases6 d hd).2 q)) hf (Nat.le_refl _) new
    have pk2 := pk.mv sb.extBut (by omega)
    refine ⟨.ref s.heap.objs.size, _, I1, rfl, ⟨_, x, y, z, rfl, I'.hok.fresh (Nat.le_refl _), rfl, fun us h => by rw [I'.list_inj h hx]; exact ex, fun us h => by rw [I'.list_inj h hy]; exact ey, fun us h => by rw [I'.list_inj h hw]; exact ew⟩,
      ⟨z2, ⟨_, _, _, (sb.2 _ (an (by omega))).trans t1⟩, lt, pk2.TI, pk2.i1, pk2.i2, pk2.i3⟩, fun d hd => ?_⟩
    have hd' : d < s.heap.objs.size := by
      have e' : d = I + 5 ∨ d = I + 3 ∨ d = I + 4 ∨ d = I ∨ d = I + 1 ∨ d = I + 2 := by simpa using hd
      refine hlt d ?_
      rcases e' with q | q | q | q | q | q <;> rw [q] <;> omega
    rw [upd_ne (Nat.ne_of_lt hd')]
    exact (hf d hd).1
  done := by
    intro X hP hw hK hc i pins s σ H E I' hf st hg
    subst hP hw hK
    obtain ⟨hz, ⟨p1, p2, p3, ht⟩, lt, TI, i1, i2, i3⟩ := st
    obtain ⟨xs, ys, zs, hx, hy, hw, le⟩ := hg
    obtain ⟨it1, rv1, q1, _⟩ := I'.list hx
    obtain ⟨it2, rv2, q2, _⟩ := I'.list hy
    obtain ⟨it3, rv3, q3, _⟩ := I'.list hw
    have hl := rv1.length
    have ex : it1.toArray[i]? = none := by
      rw [Array.getElem?_eq_none]
      simp
      omega
    refine pyNext_end (k := i) (I'.ok.hd hc) ⟨lt, TI, i1, i2, i3, q1.isList, q2.isList, q3.isList⟩ hz ht ex fun h' kp => ⟨rfl, I'.turnedL (t' := s.toks) (ch := [I + 5, I + 3, I + 4, I, I + 1, I + 2]) (fun d ob hd q => kp d ob (cases6 d hd).2 q) hf⟩
  self := fun A i s Q E st h => let ⟨hz, _⟩ := st; wpAny_pyIter_zip hz h
def iZip3 (K : PySem.W.Frag) (ta : TA) : TI := fun σ H R => ta σ H fun vs H1 => ∃ a b c xs ys zs, vs = [.ref a, .ref b, .ref c] ∧ SqL K H1 a xs ∧ SqL K H1 b ys ∧ SqL K H1 c zs ∧ R (Itz3 K a b c) H1
theorem pi_zip3 {X : Cx} {e e2 e3 : Expr} {ta : TA} {p pos tpos : Pos} {elts : List Expr} {kk : Nat} (hg : Gl X "zip") (hm : X.mg "zip" = none) (ha : PA X [e, e2, e3] ta) (hs : starEach [e, e2, e3] X.env = (false, eval e X.env) :: starEach [e2, e3] X.env := by rfl)
    (hpl : ((backTo pos (starEach [e2, e3] X.env)).any fun x => x.fst) = false := by rfl) : PI X (.Tuple elts kk tpos) (.Call (.Name "zip" p) [e, e2, e3] [] pos) (iZip3 X.K ta) := by
  refine ⟨fun pins s σ H R I h => ?_⟩
  refine Call_ (ld_blt I hg hm boot_zip (PyProof.Rows.callWith_type1 (thn (ha.run pos pins s σ H _ I h) fun us s1 ⟨vs, H1, I1, r1, q1⟩ => ?_) hs hpl))
  obtain ⟨a, b, c, xs, ys, zs, ex, hx, hy, hw, q⟩ := q1
  subst ex
  cases r1 with
  | cons r rr =>
    cases rr with
    | cons r' rr' =>
      cases rr' with
      | cons r'' rr'' =>
        cases rr''
        cases r
        cases r'
        cases r''
        obtain ⟨it1, rv1, q1, _⟩ := I1.list hx
        obtain ⟨it2, rv2, q2, _⟩ := I1.list hy
        obtain ⟨it3, rv3, q3, _⟩ := I1.list hw
        refine call_zip q1.isList q2.isList q3.isList fun h' z1 t1 pk sz kp => wpAny_pyIter_zip z1 ?_
        have I2 : Inv X pins σ H1 { s1 with heap := h' } := I1.kept (t' := s1.toks) kp
        refine ⟨s1.heap.objs.size + 5, [s1.heap.objs.size + 5, s1.heap.objs.size + 3, s1.heap.objs.size + 4, s1.heap.objs.size, s1.heap.objs.size + 1, s1.heap.objs.size + 2], _, _, H1, rfl, I2, turn_zip3 a b c s1.heap.objs.size, ⟨z1, ⟨_, _, _, t1⟩, pk.lt, pk.TI, pk.i1, pk.i2, pk.i3⟩, fun d hd => ?_, q⟩
        have hle : s1.heap.objs.size ≤ d := ge6 d hd
        exact I1.fpOk hle (I1.hok.fresh hle)
theorem walk_zip3 {K : PySem.W.Frag} {a b c : Addr} {xs ys zs : List V} (e1 : ys.length = xs.length) (e2 : zs.length = xs.length) : Walk (Itz3 K a b c) xs.length (fun H => SqL K H a xs ∧ SqL K H b ys ∧ SqL K H c zs)
    (fun i H v H' => ∃ T x y z, xs[i]? = some x ∧ ys[i]? = some y ∧ zs[i]? = some z ∧ v = .ref T ∧ H T = none ∧ H' = upd H T (.tup [x, y, z])) := by
  refine ⟨fun i _ hi q => ⟨xs, ys, zs, xs[i], ys[i], zs[i], q.1, q.2.1, q.2.2, List.getElem?_eq_getElem hi, List.getElem?_eq_getElem (by omega), List.getElem?_eq_getElem (by omega)⟩, fun _ q => ⟨xs, ys, zs, q.1, q.2.1, q.2.2, Nat.le_refl _⟩, fun i H v H' _ q y => ?_⟩
  obtain ⟨T, x, y, z, h1, h2, h3, h4, h5, h6⟩ := y
  exact ⟨T, x, y, z, h4 _ q.1, h5 _ q.2.1, h6 _ q.2.2, h1, h2, h3⟩
end Zip3

/-! Listing of shapes; the greatest differences are the limits. -/
namespace Law
open PySem PySem.Spec PyProof.Rows L2 Sup
structure Shaped (ws : List Wal) (ls : List Lnk) : Prop where
  sh : ∃ pi : Int → Int, ∀ e ∈ toldOf ws ls, pi e.2.1 - pi e.1 ≤ e.2.2
  ld : linksDue (places ws : Nat) ls = none
  ln : places ws ≤ 200
theorem nodes_ok {ws : List Wal} {a b : Int} (h : nodesDue ws a b = none) : nodeB ws a = true ∧ nodeB ws b = true := by
  unfold nodesDue at h
  cases ea : nodeB ws a with
  | false => rw [if_pos ea] at h; cases h
  | true =>
    cases eb : nodeB ws b with
    | false => rw [if_neg (by rw [ea]; decide), if_pos eb] at h; cases h
    | true => exact ⟨rfl, rfl⟩
theorem told_uniq (ws : List Wal) (ls : List Lnk) : UniqE (toldOf ws ls) := by
  have go : ∀ (fs es : List Edge), UniqE es → UniqE (fs.foldl tell es) := fun fs => by
    induction fs with
    | nil => exact fun es h => h
    | cons f fs ih => exact fun es h => ih _ (tell_uniq h)
  exact go _ _ fun x hx => by cases hx
theorem told_home {ws : List Wal} {ls : List Lnk} (hl : linksDue (places ws : Nat) ls = none) : Home (toldOf ws ls) (places ws) := fun a a0 a1 => by
  obtain ⟨i, rfl⟩ : ∃ i : Nat, a = (i : Int) := ⟨a.toNat, by omega⟩
  have tp := tops_places ws
  obtain ⟨t, ht⟩ : ∃ t, (topsOf ws)[i]? = some t := ⟨_, List.getElem?_eq_getElem (by omega)⟩
  have hm : ((i : Int), (-1 : Int), (0 : Int)) ∈ limsOf ws ls := by
    have := (ground_in (topsOf ws) 0 i ht).2
    rw [Int.zero_add] at this
    unfold limsOf
    exact List.mem_append_left _ (List.mem_append_left _ this)
  obtain ⟨x, x1, x2, x3⟩ := told_less hm
  obtain ⟨y1, y2⟩ := like_iff.mp x2
  refine ⟨x, x1, y1, y2, ?_⟩
  have y1 : x.1 = (i : Int) := y1
  have y2 : x.2.1 = -1 := y2
  rcases lims_cases (told_sub x1) with ⟨j, t2, h1, h2⟩ | ⟨c, w, z, h1, h2, h3, h4, h5⟩ | ⟨l, hl', h2⟩
  · rcases h2 with rfl | rfl
    · exact absurd (show ((j : Nat) : Int) = -1 from y2) (by omega)
    · rfl
  · rcases h5 with rfl | rfl
    · exact absurd (show c + 1 = -1 from y2) (by omega)
    · exact absurd (show c = -1 from y2) (by omega)
  · obtain ⟨g1, g2, g3⟩ := links_ok hl hl'
    rcases h2 with rfl | rfl
    · exact absurd (show l.2.1 = -1 from y2) (by omega)
    · exact absurd (show l.1 = -1 from y2) (by omega)
/-- all that is reached by tight steps is all -/
def growL (ls : List (List Int)) (tp : Int) : List (List Int) := ls.flatMap fun row => (List.range (tp + 1).toNat).map fun (h : Nat) => row ++ [(h : Int)]
def listL (tops : List Int) : List (List Int) := tops.foldl growL [[]]
def InT : List Int → List Int → Prop
  | [], [] => True
  | t :: ts, h :: hs => (0 ≤ h ∧ h ≤ t) ∧ InT ts hs
  | [], _ :: _ => False
  | _ :: _, [] => False
theorem mem_grow {ls : List (List Int)} {t : Int} {x : List Int} : x ∈ growL ls t ↔ ∃ r ∈ ls, ∃ h : Int, (0 ≤ h ∧ h ≤ t) ∧ x = r ++ [h] := by
  unfold growL
  simp only [List.mem_flatMap, List.mem_map, List.mem_range]
  constructor
  · rintro ⟨r, hr, h, hh, rfl⟩
    exact ⟨r, hr, h, by omega, rfl⟩
  · rintro ⟨r, hr, h, hh, rfl⟩
    exact ⟨r, hr, h.toNat, by omega, by rw [Int.toNat_of_nonneg hh.1]⟩
theorem mem_fold : ∀ (tops : List Int) (acc : List (List Int)) {x : List Int}, x ∈ tops.foldl growL acc ↔ ∃ r ∈ acc, ∃ y, InT tops y ∧ x = r ++ y
  | [], acc, x => by
    constructor
    · intro h
      exact ⟨x, h, [], trivial, by rw [List.append_nil]⟩
    · rintro ⟨r, hr, y, hy, rfl⟩
      cases y with
      | nil => rw [List.append_nil]; exact hr
      | cons h y => exact hy.elim
  | t :: ts, acc, x => by
    rw [List.foldl_cons, mem_fold ts]
    constructor
    · rintro ⟨r, hr, y, hy, rfl⟩
      obtain ⟨r0, hr0, h, hh, rfl⟩ := mem_grow.mp hr
      exact ⟨r0, hr0, h :: y, ⟨hh, hy⟩, by rw [List.append_assoc]; rfl⟩
    · rintro ⟨r, hr, y, hy, rfl⟩
      cases y with
      | nil => exact hy.elim
      | cons h y => exact ⟨r ++ [h], mem_grow.mpr ⟨r, hr, h, hy.1, rfl⟩, y, hy.2, by rw [List.append_assoc]; rfl⟩
theorem mem_listL {tops x : List Int} : x ∈ listL tops ↔ InT tops x := by
  unfold listL
  rw [mem_fold]
  constructor
  · rintro ⟨r, hr, y, hy, rfl⟩
    rw [List.mem_singleton] at hr
    subst hr
    exact hy
  · intro h
    exact ⟨[], List.mem_singleton.mpr rfl, x, h, rfl⟩
theorem InT.len : ∀ {ts hs : List Int}, InT ts hs → hs.length = ts.length
  | [], [], _ => rfl
  | _ :: _, _ :: _, h => congrArg (· + 1) (InT.len h.2)
theorem InT.of : ∀ {ts hs : List Int}, hs.length = ts.length → (∀ (i : Nat) (t h : Int), ts[i]? = some t → hs[i]? = some h → 0 ≤ h ∧ h ≤ t) → InT ts hs
  | [], [], _, _ => trivial
  | _ :: _, _ :: _, l, k => ⟨k 0 _ _ rfl rfl, InT.of (Nat.succ.inj l) fun i t h e1 e2 => k (i + 1) t h e1 e2⟩
theorem InT.all {m : Int} : ∀ {ts hs : List Int}, InT ts hs → (∀ t ∈ ts, t ≤ m) → ∀ h ∈ hs, 0 ≤ h ∧ h ≤ m
  | [], [], _, _, _, z => by cases z
  | t :: ts, x :: xs, k, hm, h, z => by
    rcases List.mem_cons.mp z with rfl | z
    · have := hm t List.mem_cons_self
      have := k.1
      omega
    · exact InT.all k.2 (fun t ht => hm t (List.mem_cons_of_mem _ ht)) h z
def fitsB (es : List Edge) (x : List Int) : Bool := es.all fun e => decide (pot x e.2.1 - pot x e.1 ≤ e.2.2)
theorem fits_iff {es : List Edge} {x : List Int} : fitsB es x = true ↔ ∀ e ∈ es, pot x e.2.1 - pot x e.1 ≤ e.2.2 := by
  unfold fitsB
  rw [List.all_eq_true]
  exact ⟨fun h e he => of_decide_eq_true (h e he), fun h e he => decide_eq_true (h e he)⟩
theorem fits_told {ws : List Wal} {ls : List Lnk} {x : List Int} : fitsB (toldOf ws ls) x = fitsB (stepsOf ws ls) x := by
  rw [Bool.eq_iff_iff, fits_iff, fits_iff]
  exact ⟨fun h e he => told_shape h e (steps_lims.mp he), fun h e he => h e (steps_lims.mpr (told_sub he))⟩
def shapesL (ws : List Wal) (ls : List Lnk) : List (List Int) := (listL (topsOf ws)).filter (fitsB (stepsOf ws ls))
theorem mem_shapes {ws : List Wal} {ls : List Lnk} {x : List Int} : x ∈ shapesL ws ls ↔ InT (topsOf ws) x ∧ fitsB (stepsOf ws ls) x = true := by
  unfold shapesL
  rw [List.mem_filter, mem_listL]
theorem inN {n : Nat} {z : Int} (z1 : -1 ≤ z) (z2 : z < n) : z ∈ nodesI n := by
  have := atI_nodes z1 z2
  obtain ⟨j, _, h, _⟩ := atI_get this
  exact List.mem_of_getElem? h
section
variable {ws : List Wal} {ls : List Lnk} {a b : Int}
theorem lim_max (S : Shaped ws ls) {x : List Int} (hx : fitsB (stepsOf ws ls) x = true) (ha : -1 ≤ a ∧ a < (places ws : Nat)) (hb : -1 ≤ b ∧ b < (places ws : Nat)) : pot x b - pot x a ≤ limOf ws ls a b := by
  rw [← fits_told, fits_iff] at hx
  exact (least_is (told_uniq ws ls) (told_nodes S.ld) (told_full ws ls) (told_home S.ld) ha.1 ha.2 hb.1 hb.2).pot hx
/-- the shape that lies as high as it can above a node -/
def highOf (ws : List Wal) (ls : List Lnk) (a : Int) : List Int := (List.range (places ws)).map fun (v : Nat) => limOf ws ls a (v : Int) - limOf ws ls a (-1)
theorem pot_high {v : Int} (hv : -1 ≤ v ∧ v < (places ws : Nat)) : pot (highOf ws ls a) v = limOf ws ls a v - limOf ws ls a (-1) := by
  by_cases c : v = -1
  · subst c
    have : pot (highOf ws ls a) (-1) = 0 := rfl
    omega
  · obtain ⟨i, rfl⟩ : ∃ i : Nat, v = (i : Int) := ⟨v.toNat, by omega⟩
    unfold highOf
    rw [pot_nat, List.getD_eq_getElem?_getD, List.getElem?_map, List.getElem?_range (by omega)]
    rfl
theorem high_fits (S : Shaped ws ls) (ha : -1 ≤ a ∧ a < (places ws : Nat)) : fitsB (stepsOf ws ls) (highOf ws ls a) = true := by
  obtain ⟨pi, hp⟩ := S.sh
  rw [← fits_told, fits_iff]
  intro e he
  obtain ⟨⟨m1, m2⟩, o1, o2⟩ := told_nodes S.ld e he
  rw [pot_high ⟨m1, m2⟩, pot_high ⟨o1, o2⟩]
  have w := least_is (told_uniq ws ls) (told_nodes S.ld) (told_full ws ls) (told_home S.ld) ha.1 ha.2 m1 m2
  have g : limOf ws ls a e.2.1 ≤ limOf ws ls a e.1 + e.2.2 := least_le hp (told_uniq ws ls) ha.1 ha.2 o1 o2 (.snoc e w (inN m1 m2) he rfl)
  omega
theorem high_in (S : Shaped ws ls) (ha : -1 ≤ a ∧ a < (places ws : Nat)) : InT (topsOf ws) (highOf ws ls a) := by
  have f := fits_iff.mp (high_fits S ha)
  have len : (highOf ws ls a).length = places ws := by
    unfold highOf
    rw [List.length_map, List.length_range]
  refine InT.of (len.trans (tops_places ws).symm) fun i t h e1 e2 => ?_
  obtain ⟨g1, g2⟩ := ground_in (topsOf ws) 0 i e1
  rw [Int.zero_add] at g1 g2
  have q1 := f _ (steps_lims.mpr (by unfold limsOf; exact List.mem_append_left _ (List.mem_append_left _ g1)))
  have q2 := f _ (steps_lims.mpr (by unfold limsOf; exact List.mem_append_left _ (List.mem_append_left _ g2)))
  have p0 : pot (highOf ws ls a) (-1) = 0 := rfl
  have p1 : pot (highOf ws ls a) (i : Int) = h := by
    rw [pot_nat, List.getD_eq_getElem?_getD, e2]
    rfl
  simp only [p0, p1] at q1 q2
  omega
theorem lim_self (S : Shaped ws ls) (ha : -1 ≤ a ∧ a < (places ws : Nat)) : limOf ws ls a a = 0 := by
  obtain ⟨pi, hp⟩ := S.sh
  have h0 : limOf ws ls a a ≤ 0 := least_le hp (told_uniq ws ls) ha.1 ha.2 ha.1 ha.2 (.nil a)
  have h1 : pi a - pi a ≤ limOf ws ls a a := (least_is (told_uniq ws ls) (told_nodes S.ld) (told_full ws ls) (told_home S.ld) ha.1 ha.2 ha.1 ha.2).pot hp
  omega
theorem lim_got (S : Shaped ws ls) (ha : -1 ≤ a ∧ a < (places ws : Nat)) (hb : -1 ≤ b ∧ b < (places ws : Nat)) : ∃ x ∈ shapesL ws ls, pot x b - pot x a = limOf ws ls a b := by
  refine ⟨highOf ws ls a, mem_shapes.mpr ⟨high_in S ha, high_fits S ha⟩, ?_⟩
  rw [pot_high ha, pot_high hb, lim_self S ha]
  omega
/-- the greatest difference of the listing -/
def bestL (xs : List (List Int)) (a b : Int) : Int := xs.foldl (fun m x => if pot x b - pot x a > m then pot x b - pot x a else m) (-99)
theorem best_fold (a b : Int) : ∀ (xs : List (List Int)) (m : Int), m ≤ xs.foldl (fun m x => if pot x b - pot x a > m then pot x b - pot x a else m) m ∧
    (∀ x ∈ xs, pot x b - pot x a ≤ xs.foldl (fun m x => if pot x b - pot x a > m then pot x b - pot x a else m) m) ∧
    (xs.foldl (fun m x => if pot x b - pot x a > m then pot x b - pot x a else m) m = m ∨ ∃ x ∈ xs, pot x b - pot x a = xs.foldl (fun m x => if pot x b - pot x a > m then pot x b - pot x a else m) m)
  | [], m => ⟨Int.le_refl _, (fun _ z => nomatch z), .inl rfl⟩
  | x :: xs, m => by
    obtain ⟨h1, h2, h3⟩ := best_fold a b xs (if pot x b - pot x a > m then pot x b - pot x a else m)
    rw [List.foldl_cons]
    have g : m ≤ (if pot x b - pot x a > m then pot x b - pot x a else m) ∧ pot x b - pot x a ≤ (if pot x b - pot x a > m then pot x b - pot x a else m) := by
      split <;> omega
    refine ⟨Int.le_trans g.1 h1, fun y hy => ?_, ?_⟩
    · rcases List.mem_cons.mp hy with rfl | hy
      · exact Int.le_trans g.2 h1
      · exact h2 y hy
    · rcases h3 with h3 | ⟨y, hy, h3⟩
      · rw [h3]
        split
        · exact .inr ⟨x, List.mem_cons_self, rfl⟩
        · exact .inl rfl
      · exact .inr ⟨y, List.mem_cons_of_mem _ hy, h3⟩
theorem pot_small {x : List Int} {m v : Int} (m0 : 0 ≤ m) (h : ∀ z ∈ x, 0 ≤ z ∧ z ≤ m) : 0 ≤ pot x v ∧ pot x v ≤ m := by
  unfold pot
  split
  · omega
  · rw [List.getD_eq_getElem?_getD]
    cases e : x[v.toNat]? with
    | none => exact ⟨Int.le_refl _, m0⟩
    | some z => exact h z (List.mem_of_getElem? e)
theorem best_lim (S : Shaped ws ls) (hm : ∀ t ∈ topsOf ws, t ≤ 50) (ha : -1 ≤ a ∧ a < (places ws : Nat)) (hb : -1 ≤ b ∧ b < (places ws : Nat)) : bestL (shapesL ws ls) a b = limOf ws ls a b := by
  obtain ⟨x, hx, e⟩ := lim_got S ha hb
  obtain ⟨h1, h2, h3⟩ := best_fold a b (shapesL ws ls) (-99)
  have hx2 := h2 x hx
  have sm := InT.all (mem_shapes.mp hx).1 hm
  have p1 := pot_small (v := a) (by decide) sm
  have p2 := pot_small (v := b) (by decide) sm
  show (shapesL ws ls).foldl _ (-99) = _
  rcases h3 with h3 | ⟨y, hy, h3⟩
  · omega
  · have := lim_max S (mem_shapes.mp hy).2 ha hb
    omega
end
end Law
namespace Law
open PySem PySem.Spec PyProof.Rows L2 Sup
abbrev sLFi : Stmt := top 68
def spLFi : Sp := fun vs H Q _ => ∃ (u h : Addr) (es : List Edge) (x : List Int), vs = [.ref u, .ref h] ∧ LimsAt H u es ∧ H h = some (.lst (x.map V.int)) ∧ inNodes x.length es ∧ x.length ≤ 100 ∧ ∀ H', Same H H' → Q (.bl (fitsB es x)) H'
theorem at_levels {x : List Int} {a : Int} (h1 : -1 ≤ a) (h2 : a < x.length) : atI (x.map V.int ++ [V.int 0]) a = some (.int (pot x a)) := by
  by_cases c : a = -1
  · subst c
    exact atI_last _ _
  · obtain ⟨i, rfl⟩ : ∃ i : Nat, a = (i : Int) := ⟨a.toNat, by omega⟩
    have hi : i < x.length := by omega
    refine atI_nat ?_
    rw [List.getElem?_append_left (by rw [List.length_map]; exact hi), List.getElem?_map, List.getElem?_eq_getElem hi, pot_nat, List.getD_eq_getElem?_getD, List.getElem?_eq_getElem hi]
    rfl
section
variable {P : Program} {w : World} {K : PySem.W.Frag} {mg : Str → Option Value} {base : Heap}
theorem scLFi : FnScope ["_law_steps_here", "_law_heights", "_law_levels", "_law_first", "_law_second", "_law_limit"] ["_law_steps_here", "_law_heights"] (defScope sLFi) := ⟨rfl, rfl, rfl, by decide +kernel, rfl, by decide +kernel, by decide +kernel⟩
set_option maxHeartbeats 0 in
theorem ok_lfi {f : Addr} {fd : FuncData} (F : Fun K "_law_fits" "_law_fits" sLFi f fd) : FnOk P w K mg base CX0 1 f fd ["_law_steps_here", "_law_heights"] spLFi := by
  refine F.ok scLFi (fun vs H Q E h => ?_) (fun cdv A outer s H vs Q E hr h => ?_)
  · obtain ⟨u, h, es, x, rfl, _⟩ := h
    rfl
  · obtain ⟨u, hd, es, x, rfl, hL, hx, hn, hl, k⟩ := h
    refine ⟨_, (pss_cons (ps_set (i := 2) scLFi.nd rfl (Or.inl rfl) (pe_op op_cat (pv 1) (pe_lst (pa_cons pe_int pa_nil))))
      (pss_cons (ps_for PassesOwn.never rfl (pi_list (pv 0)) (pg_tup (by rfl) (pgs_cons (pg_name (i := 3) scLFi.nd rfl (Or.inl rfl)) (pgs_cons (pg_name (i := 4) scLFi.nd rfl (Or.inl rfl)) (pgs_cons (pg_name (i := 5) scLFi.nd rfl (Or.inl rfl)) pgs_nil)))) (pss_one (ps_if (pt_cmpR op_gt (pe_op op_sub (pe_ix ix_list (pv 2) (pv 4) (fun _ _ => rfl)) (pe_ix ix_list (pv 2) (pv 3) (fun _ _ => rfl))) (pv 5) (nomark _)) (pss_one (ps_ret pe_bl)) pss_nil)))
      (pss_one (ps_ret pe_bl)))), ?_⟩
    refine ⟨_, rfl, by show 1 ≤ sizeLine; decide, fun z hz => ⟨hd, z, _, _, rfl, rfl, same_new hz _ _ hx, upd_same, Nat.le_of_lt (small1000 (by rw [List.length_map]; show x.length + 1 ≤ 1000; omega)), fun lv hlv => ?_⟩⟩
    have s1 := same_tr (same_new (o := .lst [V.int 0]) hz) (same_new (o := .lst (x.map V.int ++ [V.int 0])) hlv)
    have e1 : upd (upd H z (.lst [V.int 0])) lv (.lst (x.map V.int ++ [V.int 0])) lv = some (.lst (x.map V.int ++ [V.int 0])) := upd_same
    generalize upd (upd H z (.lst [V.int 0])) lv (.lst (x.map V.int ++ [V.int 0])) = H1 at s1 e1 ⊢
    obtain ⟨ts, t1, t2, t3⟩ := id (hL.same s1)
    refine ⟨_, rfl, u, rfl, ⟨_, SqL.of t1⟩, ?_⟩
    refine for_it (walk_list (xs := ts.map V.ref)) (fun i σ' H' => ∃ v3 v4 v5 : Option V, σ' = [some (.ref u), some (.ref hd), some (.ref lv), v3, v4, v5] ∧ H' = H1 ∧ fitsB (es.take i) x = true)
      ⟨_, _, _, rfl, rfl, rfl⟩ (fun i σ' H' _ h => by obtain ⟨_, _, _, _, rfl, _⟩ := h; exact SqL.of t1) ?_ ?_
    · rintro i y σ' H2 H3 hi ⟨v3, v4, v5, rfl, rfl, ft⟩ ⟨rfl, hy⟩
      rw [List.length_map] at hi
      rw [List.getElem?_map, List.getElem?_eq_getElem hi] at hy
      cases hy
      obtain ⟨e, he⟩ : ∃ e, es[i]? = some e := ⟨_, List.getElem?_eq_getElem (by omega)⟩
      have z1 := t3 i _ _ (List.getElem?_eq_getElem hi) he
      obtain ⟨⟨n1, n2⟩, n3, n4⟩ := hn e (List.mem_of_getElem? he)
      refine ⟨_, _, rfl, SqT.of z1, rfl, _, _, rfl, _, _, rfl, _, _, rfl, rfl, ?_⟩
      refine ⟨_, rfl, _, rfl, lv, _, _, _, rfl, rfl, SqL.of e1, at_levels n3 n4, _, rfl, _, rfl, lv, _, _, _, rfl, rfl, SqL.of e1, at_levels n1 n2, _, _, rfl, rfl, _, rfl, _, _, rfl, rfl, _, rfl, ite2 (fun c => ?_) (fun c => ?_)⟩
      · have c : pot x e.2.1 - pot x e.1 > e.2.2 := of_decide_eq_true c
        have ef : fitsB es x = false := by
          cases q : fitsB es x with
          | false => rfl
          | true =>
            have := fits_iff.mp q e (List.mem_of_getElem? he)
            omega
        exact ef ▸ k _ s1
      · have c : ¬ (pot x e.2.1 - pot x e.1 > e.2.2) := fun z => c (decide_eq_true z)
        refine ⟨_, _, _, rfl, rfl, fits_iff.mpr fun e' he' => ?_⟩
        rw [List.take_succ, he] at he'
        rcases List.mem_append.mp he' with he' | he'
        · exact fits_iff.mp ft e' he'
        · have he' := List.mem_singleton.mp he'
          subst he'
          omega
    rintro σ' H2 ⟨v3, v4, v5, rfl, rfl, ft⟩
    rw [List.length_map, t2, List.take_length] at ft
    exact ft ▸ k _ s1
end
end Law

/-! A site tells whether heights are a shape. -/
namespace Law
open PySem PySem.Spec PyProof.Rows L2 Sup
abbrev sSfi : Stmt := inClass (top 19) 13
def shapeB (ws : List Wal) (ls : List Lnk) (x : List Int) : Bool := decide (x.length = places ws) && fitsB (toldOf ws ls) x
/-- what `fits` reads of a site -/
def SiteF (K : PySem.W.Frag) (CS : Addr) (ws : List Wal) (ls : List Lnk) (H : Hp) (r : Addr) : Prop := ∃ (dx : Addr) (fs : List (Str × V)) (ptd : Addr), H r = some (.ins CS dx fs) ∧ fs.lookup ("size" : Str) = some (.int (places ws : Nat)) ∧ fs.lookup ("fits" : Str) = none ∧ fs.lookup ("_told" : Str) = some (.ref ptd) ∧ H ptd = some (.dT (kvT (toldOf ws ls)))
theorem SiteAt.f {K : PySem.W.Frag} {CS r : Addr} {ws : List Wal} {ls : List Lnk} {H : Hp} (h : SiteAt K CS ws ls H r) : SiteF K CS ws ls H r := by
  obtain ⟨dx, fs, pr, pl, ps, pd, pt, h0, _, _, _, _, _, f1, g1, ptd, plm, t1, t2, m1, m2⟩ := h
  exact ⟨dx, fs, ptd, h0, f1, g1 _ (by decide), t1, t2⟩
theorem SiteF.same {K : PySem.W.Frag} {CS r : Addr} {ws : List Wal} {ls : List Lnk} {H H' : Hp} (h : SiteF K CS ws ls H r) (s : Same H H') : SiteF K CS ws ls H' r := by
  obtain ⟨dx, fs, ptd, h0, a, b, c, d⟩ := h
  exact ⟨dx, fs, ptd, s _ _ h0, a, b, c, s _ _ d⟩
/-- a list is no part of it -/
theorem SiteF.off {K : PySem.W.Frag} {CS r D : Addr} {ws : List Wal} {ls : List Lnk} {H H' : Hp} {xs : List V} (h : SiteF K CS ws ls H r) (hD : H D = some (.lst xs)) (s : SameB D H H') : SiteF K CS ws ls H' r := by
  obtain ⟨dx, fs, ptd, h0, a, b, c, d⟩ := h
  exact ⟨dx, fs, ptd, s _ _ (fun z => by rw [z, hD] at h0; cases h0) h0, a, b, c, s _ _ (fun z => by rw [z, hD] at d; cases d) d⟩
def spSfi (K : PySem.W.Frag) (CS : Addr) : Sp := fun vs H Q _ => ∃ (r h : Addr) (ws : List Wal) (ls : List Lnk) (x : List Int), vs = [.ref r, .ref h] ∧ SiteF K CS ws ls H r ∧ H h = some (.lst (x.map V.int)) ∧ x.length ≤ 100 ∧ linksDue (places ws : Nat) ls = none ∧ (toldOf ws ls).length ≤ 900 ∧ ∀ H', Same H H' → Q (.bl (shapeB ws ls x)) H'
structure SfTxt (K : PySem.W.Frag) (mg : Str → Option Value) (CS : Addr) : Prop where
  cl : Cls K CS
  na : ∀ m ∈ (["_rows", "_links", "_spots", "_places", "_tops", "size", "_told", "_limits"] : List Str), NoAttr K CS m
  b_len : mg "len" = none
  b_all : mg "all" = none
theorem all_take {es : List Edge} {x : List Int} : ((es.map fun e => decide (pot x e.2.1 - pot x e.1 ≤ e.2.2)).all id) = fitsB es x := by
  unfold fitsB
  rw [List.all_map]
  rfl
section
variable {P : Program} {w : World} {K : PySem.W.Frag} {mg : Str → Option Value} {base : Heap} {CS : Addr}
theorem scSfi : FnScope ["self", "heights", "levels", "first", "second", "most"] ["self", "heights"] (defScope sSfi) := ⟨rfl, rfl, rfl, by decide +kernel, rfl, by decide +kernel, by decide +kernel⟩
set_option maxHeartbeats 0 in
theorem ok_sfi {f : Addr} {fd : FuncData} (F : Fun K "fits" "Site.fits" sSfi f fd) (T : SfTxt K mg CS) : FnOk P w K mg base CX0 1 f fd ["self", "heights"] (spSfi K CS) := by
  refine F.ok scSfi (fun vs H Q E h => ?_) (fun cdv A outer s H vs Q E hr h => ?_)
  · obtain ⟨r, hd, ws, ls, x, rfl, _⟩ := h
    rfl
  · obtain ⟨r, hd, ws, ls, x, rfl, hS, hx, xl, hld, tl, k⟩ := h
    have hin := told_nodes hld
    refine ⟨_, (pss_cons (ps_if (pt_cmpR op_ne (pe_callB call_len_seq (by rfl) T.b_len PySem.boot_len (pa_cons (pv 1) pa_nil)) (pe_fld (pv 0) rfl) (nomark _)) (pss_one (ps_ret pe_bl)) pss_nil)
      (pss_cons (ps_set (i := 2) scSfi.nd rfl (Or.inr rfl) (pe_lst (StX.pa_star (pv 1) (pa_cons pe_int pa_nil))))
      (pss_one (ps_ret (pe_callB (cr_all (by rfl)) (by rfl) T.b_all (by decide +kernel) (pa_cons (pe_lock (pe_lc (own := [("first", 3), ("second", 4), ("most", 5)]) (g := (gTup K 2 (gCons (gTup K 2 (gCons (gName 3) (gCons (gName 4) gNil))) (gCons (gName 5) gNil)))) (tt := tYes) (by rfl) scSfi.nd (DTX.pi_itemsT (pe_fld (pv 0) rfl)) (blkOk_by (own := [("first", 3), ("second", 4), ("most", 5)]) (N := ["self", "heights", "levels", "first", "second", "most"]) (sc := defScope sSfi) (by decide +kernel)) (fun _ _ _ _ _ => (pg_tup (by rfl) (pgs_cons (pg_tup (by rfl) (pgs_cons (pg_name (i := 3) scSfi.nd rfl (Or.inl rfl)) (pgs_cons (pg_name (i := 4) scSfi.nd rfl (Or.inl rfl)) pgs_nil))) (pgs_cons (pg_name (i := 5) scSfi.nd rfl (Or.inl rfl)) pgs_nil)))) (fun _ _ _ _ _ => pts_nil) (fun _ _ _ _ _ => (pe_cmpR op_le (pe_op op_sub (pe_ix (r := rIxL K) ix_list (pv 2) (pv 4) (fun _ _ => rfl)) (pe_ix (r := rIxL K) ix_list (pv 2) (pv 3) (fun _ _ => rfl))) (pv 5) (nomark _))))) pa_nil)))))), ?_⟩
    obtain ⟨dx, fs, ptd, h0, f1, g1, t1, t2⟩ := id hS
    refine ⟨_, rfl, hd, _, rfl, .inl (SqL.of hx), _, rfl, r, CS, dx, fs, _, rfl, h0, T.cl, T.na _ (by decide), f1, rfl, _, rfl, ite2 (fun c => ?_) (fun c => ?_)⟩
    · have e : shapeB ws ls x = false := by
        unfold shapeB
        rw [Bool.and_eq_false_iff]
        refine .inl (decide_eq_false fun z => ?_)
        rw [List.length_map, z] at c
        simp at c
      exact e ▸ k _ same_rfl
    have xn : x.length = places ws := by
      rw [List.length_map] at c
      simp at c
      omega
    have e0 : shapeB ws ls x = fitsB (toldOf ws ls) x := by
      unfold shapeB
      rw [decide_eq_true xn, Bool.true_and]
    rw [e0] at k
    generalize toldOf ws ls = es at t2 hin k tl
    refine ⟨_, rfl, hd, _, rfl, .inr (SqL.of hx), Nat.le_of_lt (small1000 (by rw [List.length_append, List.length_map]; show x.length + 1 ≤ 1000; omega)), fun lv hlv => ?_⟩
    have s1 := same_new (o := .lst (x.map V.int ++ [V.int 0])) hlv
    have e1 : upd H lv (.lst (x.map V.int ++ [V.int 0])) lv = some (.lst (x.map V.int ++ [V.int 0])) := upd_same
    generalize upd H lv (.lst (x.map V.int ++ [V.int 0])) = H1 at s1 e1 ⊢
    have t3 := s1 _ _ t2
    have h01 := s1 _ _ h0
    refine ⟨ptd, _, t3, trivial, fun od => ?_⟩
    have nr : r ≠ ptd := fun z => by rw [z, t3] at h01; cases h01
    have nl : lv ≠ ptd := fun z => by rw [z, t3] at e1; cases e1
    refine ⟨_, rfl, r, CS, dx, fs, _, rfl, (upd_ne nr).trans h01, T.cl, T.na _ (by decide), t1, ptd, od, _, rfl, upd_same, fun D hD => ?_⟩
    have e2 : upd H1 ptd (.frz od (.dT (kvT es))) lv = some (.lst (x.map V.int ++ [V.int 0])) := (upd_ne nl).trans e1
    have e3 : upd H1 ptd (.frz od (.dT (kvT es))) ptd = some (.frz od (.dT (kvT es))) := upd_same
    have back : ∀ H', Same (upd H1 ptd (.frz od (.dT (kvT es)))) H' → Same H (upd H' ptd (.dT (kvT es))) := fun H' s c o e => by
      have e := s1 _ _ e
      by_cases q : c = ptd
      · subst q
        rw [t3] at e
        rw [upd_same]
        exact e
      · rw [upd_ne q]
        exact s _ _ ((upd_ne q).trans e)
    generalize upd H1 ptd (.frz od (.dT (kvT es))) = H2 at e2 e3 back hD ⊢
    have kl : (kvT es).length = es.length := by unfold kvT; rw [List.length_map]
    refine lc_it DTX.walk_itemsT (fun i H' => H' D = some (.lst (((es.take i).map fun e => decide (pot x e.2.1 - pot x e.1 ≤ e.2.2)).map V.bl)) ∧ Same H2 H') ⟨upd_same, same_new hD⟩ (fun _ _ _ h => h.2 _ _ e3) ?_ ?_
    · rintro i y H3 H4 hi ⟨l1, S3⟩ ⟨T0, q0, kk, vv, g1, rfl, g2, hT, rfl⟩
      rw [kl] at hi
      obtain ⟨⟨u, v, m⟩, he⟩ : ∃ e, es[i]? = some e := ⟨_, List.getElem?_eq_getElem hi⟩
      unfold kvT at g1
      rw [List.getElem?_map, he] at g1
      cases g1
      have sT := same_new (o := .tup [V.ref q0, V.int m]) hT
      obtain ⟨⟨u1, u2⟩, w1, w2⟩ := hin _ (List.mem_of_getElem? he)
      have u2 : u < (places ws : Nat) := u2
      have w2 : v < (places ws : Nat) := w2
      have e4 := sT _ _ (S3 _ _ e2)
      refine ⟨T0, _, rfl, SqT.of upd_same, rfl, _, _, rfl, q0, _, rfl, SqT.of (sT _ _ g2), rfl, _, _, rfl, _, _, rfl, rfl, _, _, rfl, rfl, rfl, ?_⟩
      refine ⟨_, rfl, _, rfl, lv, _, _, _, rfl, rfl, SqL.of e4, at_levels w1 (by omega), _, rfl, _, rfl, lv, _, _, _, rfl, rfl, SqL.of e4, at_levels u1 (by omega), _, _, rfl, rfl, _, rfl, _, _, rfl, rfl, ?_⟩
      refine ⟨_, sT _ _ l1, small1000 (by rw [List.length_map, List.length_map, List.length_take]; omega), ?_, fun c o e => ?_⟩
      · rw [upd_same, List.take_succ, he, List.map_append, List.map_append]
        rfl
      · rw [upd_ne (ne_of_none e hD)]
        exact sT _ _ (S3 _ _ e)
    rintro H3 ⟨l1, S3⟩
    rw [kl, List.take_length] at l1
    have nD : D ≠ ptd := fun z => by rw [z, e3] at hD; cases hD
    refine ⟨S3 _ _ e3, D, _, rfl, SqL.of ((upd_ne nD).trans l1), ?_⟩
    rw [all_take]
    exact k _ (back _ S3)
end
end Law

/-! Trials, the places of trials, edges. -/
namespace Law
open PySem PySem.Spec PyProof.Rows L2 Sup
theorem ps_no {X : Cx} {st : Stmt} : PS X st (fun _ _ _ => False) := ⟨fun _ _ _ _ _ _ h => h.elim⟩
abbrev sTini : Stmt := inClass (top 35) 0
abbrev sCp : Stmt := inClass (top 19) 11
abbrev sCps : Stmt := top 36
abbrev sFed : Stmt := top 40
abbrev sHof : Stmt := top 41
abbrev sLed : Stmt := top 42
abbrev sHed : Stmt := top 43
theorem upd_upd {H : Hp} {a : Addr} {o o' : HO} : upd (upd H a o) a o' = upd H a o' := by
  funext b
  by_cases hb : b = a
  · rw [hb, upd_same, upd_same]
  · rw [upd_ne hb, upd_ne hb, upd_ne hb]
/-- a trial of the class at CT -/
def Tri (CT : Addr) (H : Hp) (x : Addr) (p h : Int) (r : Bool) : Prop := ∃ dx fs, H x = some (.ins CT dx fs) ∧ fs.lookup ("place" : Str) = some (V.int p) ∧ fs.lookup ("height" : Str) = some (V.int h) ∧ fs.lookup ("reached" : Str) = some (V.bl r) ∧ fs.lookup ("agrees" : Str) = none
theorem Tri.same {CT : Addr} {H H' : Hp} {x : Addr} {p h : Int} {r : Bool} (t : Tri CT H x p h r) (s : Same H H') : Tri CT H' x p h r := by
  obtain ⟨dx, fs, h1, h2⟩ := t
  exact ⟨dx, fs, s _ _ h1, h2⟩
structure TriTxt (K : PySem.W.Frag) (mg : Str → Option Value) (CT : Addr) : Prop where
  tri : mg "Trial" = some (.ref CT)
  cl : Cls K CT
  nP : NoAttr K CT "place"
  nH : NoAttr K CT "height"
  nR : NoAttr K CT "reached"
def spTini (CT : Addr) : Sp := fun vs H Q _ => ∃ (x : Addr) (p h : Int) (r : Bool) (dx : Addr), vs = [.ref x, .int p, .int h, .bl r] ∧ H x = some (.ins CT dx []) ∧
  (∀ fs, fs.lookup ("place" : Str) = some (V.int p) → fs.lookup ("height" : Str) = some (V.int h) → fs.lookup ("reached" : Str) = some (V.bl r) → fs.lookup ("agrees" : Str) = none → Q .non (upd H x (.ins CT dx fs)))
theorem mk_tri {CT : Addr} {p h : Int} {r : Bool} {H1 : Hp} {Q : VK} {E : XK} (h2 : ∀ x H2, H1 x = none → Same H1 H2 → Tri CT H2 x p h r → Q (.ref x) H2) :
    Own.MkS CT (spTini CT) E [.int p, .int h, .bl r] H1 Q := ⟨fun x dx hx hdx hne => by
  refine ⟨x, p, h, r, dx, rfl, upd_same, fun fs l1 l2 l3 l4 => ⟨rfl, ?_⟩⟩
  rw [upd_upd]
  refine h2 x _ hx (fun b o e => ?_) ⟨dx, fs, upd_same, l1, l2, l3, l4⟩
  rw [upd_ne (ne_of_none e hx), upd_ne (ne_of_none e hdx)]
  exact e⟩
abbrev TRow := Int × Int × Bool
def TrisAt (CT : Addr) (H : Hp) (p : Addr) (rows : List TRow) : Prop := ∃ ts : List Addr, H p = some (.lst (ts.map V.ref)) ∧ ts.length = rows.length ∧ ∀ (i : Nat) (t : Addr) (r : TRow), ts[i]? = some t → rows[i]? = some r → Tri CT H t r.1 r.2.1 r.2.2
theorem TrisAt.same {CT : Addr} {H H' : Hp} {p : Addr} {rows : List TRow} (h : TrisAt CT H p rows) (s : Same H H') : TrisAt CT H' p rows := by
  obtain ⟨ts, h1, h2, h3⟩ := h
  exact ⟨ts, s _ _ h1, h2, fun i t r e1 e2 => (h3 i t r e1 e2).same s⟩
/-- the edge below: no lower than what the site and each missed trial leave, and one of these -/
structure LowE (lim : Int → Int → Int) (rows : List TRow) (p : Int) (e : Edge) : Prop where
  all : ∀ r ∈ rows, r.2.2 = false → r.2.1 + 1 - lim p r.1 ≤ e.1
  site : -lim p (-1) ≤ e.1
  one : (e.2.1 = -1 ∧ e.2.2 = -1 ∧ e.1 = -lim p (-1)) ∨ ∃ (n : Nat) (r : TRow), rows[n]? = some r ∧ r.2.2 = false ∧ e.2.1 = n ∧ e.2.2 = r.1 ∧ e.1 = r.2.1 + 1 - lim p r.1
structure HighE (lim : Int → Int → Int) (rows : List TRow) (p : Int) (e : Edge) : Prop where
  all : ∀ r ∈ rows, r.2.2 = true → e.1 ≤ r.2.1 + lim r.1 p
  site : e.1 ≤ lim (-1) p
  one : (e.2.1 = -1 ∧ e.2.2 = -1 ∧ e.1 = lim (-1) p) ∨ ∃ (n : Nat) (r : TRow), rows[n]? = some r ∧ r.2.2 = true ∧ e.2.1 = n ∧ e.2.2 = r.1 ∧ e.1 = r.2.1 + lim r.1 p
theorem get_take {α : Type} {xs : List α} {i n : Nat} {x : α} (h : (xs.take i)[n]? = some x) : (xs.take (i + 1))[n]? = some x := by
  have hn : n < (xs.take i).length := (List.getElem?_eq_some_iff.mp h).1
  rw [List.length_take] at hn
  rw [List.getElem?_take_of_lt (by omega)] at h ⊢
  exact h
theorem LowE.next {lim : Int → Int → Int} {rows : List TRow} {p : Int} {e : Edge} {i : Nat} {r : TRow} (h : LowE lim (rows.take i) p e) (hr : rows[i]? = some r) :
    (r.2.2 = true → LowE lim (rows.take (i + 1)) p e) ∧ (r.2.2 = false → ¬ (r.2.1 + 1 - lim p r.1 > e.1) → LowE lim (rows.take (i + 1)) p e) ∧ (r.2.2 = false → r.2.1 + 1 - lim p r.1 > e.1 → LowE lim (rows.take (i + 1)) p (r.2.1 + 1 - lim p r.1, (i : Int), r.1)) := by
  have et : rows.take (i + 1) = rows.take i ++ [r] := by rw [List.take_succ, hr]; rfl
  have mem : ∀ x, x ∈ rows.take (i + 1) → x ∈ rows.take i ∨ x = r := fun x hx => by
    rw [et] at hx
    rcases List.mem_append.mp hx with hx | hx
    · exact .inl hx
    · exact .inr (List.mem_singleton.mp hx)
  have keep : ∀ {P : Prop}, (∃ (n : Nat) (x : TRow), (rows.take i)[n]? = some x ∧ x.2.2 = false ∧ e.2.1 = n ∧ e.2.2 = x.1 ∧ e.1 = x.2.1 + 1 - lim p x.1) → ∃ (n : Nat) (x : TRow), (rows.take (i + 1))[n]? = some x ∧ x.2.2 = false ∧ e.2.1 = n ∧ e.2.2 = x.1 ∧ e.1 = x.2.1 + 1 - lim p x.1 := fun ⟨n, x, a, b⟩ => ⟨n, x, get_take a, b⟩
  refine ⟨fun q => ⟨fun x hx hm => ?_, h.site, h.one.imp id (keep (P := True))⟩, fun q c => ⟨fun x hx hm => ?_, h.site, h.one.imp id (keep (P := True))⟩, fun q c => ⟨fun x hx hm => ?_, by have := h.site; show _ ≤ r.2.1 + 1 - lim p r.1; omega, .inr ⟨i, r, ?_, q, rfl, rfl, rfl⟩⟩⟩
  · rcases mem x hx with z | z
    · exact h.all x z hm
    · rw [z, q] at hm; cases hm
  · rcases mem x hx with z | z
    · exact h.all x z hm
    · rw [z]; omega
  · show x.2.1 + 1 - lim p x.1 ≤ r.2.1 + 1 - lim p r.1
    rcases mem x hx with z | z
    · have := h.all x z hm; omega
    · rw [z]; omega
  · rw [List.getElem?_take_of_lt (by omega)]
    exact hr
theorem HighE.next {lim : Int → Int → Int} {rows : List TRow} {p : Int} {e : Edge} {i : Nat} {r : TRow} (h : HighE lim (rows.take i) p e) (hr : rows[i]? = some r) :
    (r.2.2 = false → HighE lim (rows.take (i + 1)) p e) ∧ (r.2.2 = true → ¬ (r.2.1 + lim r.1 p < e.1) → HighE lim (rows.take (i + 1)) p e) ∧ (r.2.2 = true → r.2.1 + lim r.1 p < e.1 → HighE lim (rows.take (i + 1)) p (r.2.1 + lim r.1 p, (i : Int), r.1)) := by
  have et : rows.take (i + 1) = rows.take i ++ [r] := by rw [List.take_succ, hr]; rfl
  have mem : ∀ x, x ∈ rows.take (i + 1) → x ∈ rows.take i ∨ x = r := fun x hx => by
    rw [et] at hx
    rcases List.mem_append.mp hx with hx | hx
    · exact .inl hx
    · exact .inr (List.mem_singleton.mp hx)
  have keep : ∀ {P : Prop}, (∃ (n : Nat) (x : TRow), (rows.take i)[n]? = some x ∧ x.2.2 = true ∧ e.2.1 = n ∧ e.2.2 = x.1 ∧ e.1 = x.2.1 + lim x.1 p) → ∃ (n : Nat) (x : TRow), (rows.take (i + 1))[n]? = some x ∧ x.2.2 = true ∧ e.2.1 = n ∧ e.2.2 = x.1 ∧ e.1 = x.2.1 + lim x.1 p := fun ⟨n, x, a, b⟩ => ⟨n, x, get_take a, b⟩
  refine ⟨fun q => ⟨fun x hx hm => ?_, h.site, h.one.imp id (keep (P := True))⟩, fun q c => ⟨fun x hx hm => ?_, h.site, h.one.imp id (keep (P := True))⟩, fun q c => ⟨fun x hx hm => ?_, by have := h.site; show r.2.1 + lim r.1 p ≤ _; omega, .inr ⟨i, r, ?_, q, rfl, rfl, rfl⟩⟩⟩
  · rcases mem x hx with z | z
    · exact h.all x z hm
    · rw [z, q] at hm; cases hm
  · rcases mem x hx with z | z
    · exact h.all x z hm
    · rw [z]; omega
  · show r.2.1 + lim r.1 p ≤ x.2.1 + lim x.1 p
    rcases mem x hx with z | z
    · have := h.all x z hm; omega
    · rw [z]; omega
  · rw [List.getElem?_take_of_lt (by omega)]
    exact hr
def inPl (ws : List Wal) (rows : List TRow) : Prop := ∀ r ∈ rows, 0 ≤ r.1 ∧ r.1 < (places ws : Nat)
def spCp (K : PySem.W.Frag) (CS : Addr) : Sp := fun vs H Q _ => ∃ (r : Addr) (ws : List Wal) (ls : List Lnk) (p : Int), vs = [.ref r, .int p] ∧ SiteAt K CS ws ls H r ∧ (0 ≤ p ∧ p < (places ws : Nat)) ∧ Q .non H
def spCps (K : PySem.W.Frag) (CS CT : Addr) : Sp := fun vs H Q _ => ∃ (r t : Addr) (ws : List Wal) (ls : List Lnk) (rows : List TRow), vs = [.ref r, .ref t] ∧ SiteAt K CS ws ls H r ∧ TrisAt CT H t rows ∧ inPl ws rows ∧ Q .non H
def spEdge (K : PySem.W.Frag) (CS CT : Addr) (D : (Int → Int → Int) → List TRow → Int → Edge → Prop) : Sp := fun vs H Q _ => ∃ (r t : Addr) (ws : List Wal) (ls : List Lnk) (rows : List TRow) (p : Int), vs = [.ref r, .ref t, .int p] ∧ SiteAt K CS ws ls H r ∧ TrisAt CT H t rows ∧ inPl ws rows ∧ (0 ≤ p ∧ p < (places ws : Nat)) ∧ places ws ≤ 50 ∧
  ∀ (u : Addr) (e : Edge) (H' : Hp), H u = none → Same H H' → H' u = some (.tup [.int e.1, .int e.2.1, .int e.2.2]) → D (limOf ws ls) rows p e → Q (.ref u) H'
structure EdgTxt (mg : Str → Option Value) : Prop where
  ground : ∃ t, mg "GROUND" = some (.int (-1) t)
  trial : ∃ t, mg "NO_TRIAL" = some (.int (-1) t)
  enumerate : mg "enumerate" = none
section
variable {P : Program} {w : World} {K : PySem.W.Frag} {mg : Str → Option Value} {base : Heap} {C : Errs} {CS CT : Addr}
theorem scTini : FnScope ["self", "place", "height", "reached"] ["self", "place", "height", "reached"] (defScope sTini) := ⟨rfl, rfl, rfl, by decide +kernel, rfl, by decide +kernel, by decide +kernel⟩
theorem ok_tini {f : Addr} {fd : FuncData} (F : Fun K "__init__" "Trial.__init__" sTini f fd) (T : TriTxt K mg CT) : FnOk P w K mg base CX0 1 f fd ["self", "place", "height", "reached"] (spTini CT) := by
  refine F.ok scTini (fun vs H Q E h => ?_) (fun cdv A outer s H vs Q E hr h => ?_)
  · obtain ⟨x, p, h, r, dx, rfl, _⟩ := h
    rfl
  · obtain ⟨x, p, h, r, dx, rfl, hx, k⟩ := h
    refine ⟨_, (pss_cons (ps_fld (pv 0) (pv 1) rfl)
      (pss_cons (ps_fld (pv 0) (pv 2) rfl)
      (pss_one (ps_fld (pv 0) (pv 3) rfl)))), ?_⟩
    refine ⟨_, rfl, _, rfl, x, CT, dx, _, rfl, hx, T.cl, T.nP, by show 0 < 1000; decide, ?_⟩
    refine ⟨_, rfl, _, rfl, x, CT, dx, _, rfl, upd_same, T.cl, T.nH, by show 1 < 1000; decide, ?_⟩
    refine ⟨_, rfl, _, rfl, x, CT, dx, _, rfl, upd_same, T.cl, T.nR, by show 2 < 1000; decide, ?_⟩
    rw [upd_upd, upd_upd]
    exact k _ rfl rfl rfl rfl
theorem scCp : FnScope ["self", "place"] ["self", "place"] (defScope sCp) := ⟨rfl, rfl, rfl, by decide +kernel, rfl, by decide +kernel, by decide +kernel⟩
theorem scCps : FnScope ["site", "trials", "trial"] ["site", "trials"] (defScope sCps) := ⟨rfl, rfl, rfl, by decide +kernel, rfl, by decide +kernel, by decide +kernel⟩
theorem scLed : FnScope ["site", "trials", "place", "edge", "number", "trial", "height"] ["site", "trials", "place"] (defScope sLed) := ⟨rfl, rfl, rfl, by decide +kernel, rfl, by decide +kernel, by decide +kernel⟩
theorem scHed : FnScope ["site", "trials", "place", "edge", "number", "trial", "height"] ["site", "trials", "place"] (defScope sHed) := ⟨rfl, rfl, rfl, by decide +kernel, rfl, by decide +kernel, by decide +kernel⟩
set_option maxHeartbeats 0 in
theorem ok_cp {f : Addr} {fd : FuncData} (F : Fun K "check_place" "Site.check_place" sCp f fd) (T : MeTxt K mg CS) : FnOk P w K mg base CX0 1 f fd ["self", "place"] (spCp K CS) := by
  refine F.ok scCp (fun vs H Q E h => ?_) (fun cdv A outer s H vs Q E hr h => ?_)
  · obtain ⟨r, ws, ls, p, rfl, _⟩ := h
    rfl
  · obtain ⟨r, ws, ls, p, rfl, hS, hp, k⟩ := h
    refine ⟨_, (pss_one (ps_if (pt_not (pt_chain op_le op_lt pe_int (pv 1) (pe_fld (pv 0) rfl))) (pss_one ps_no) pss_nil)), ?_⟩
    obtain ⟨dx, fs, pr, pl, ps, pd, pt, h0, _, _, _, _, _, f1, g1, _⟩ := id hS
    refine ⟨_, rfl, _, _, rfl, rfl, _, rfl, if_t (decide_eq_true hp.1) ⟨_, rfl, r, CS, dx, fs, _, rfl, h0, T.cl, T.na _ (by decide), f1, _, _, rfl, rfl, _, rfl, if_f (by rw [decide_eq_true hp.2]; rfl) k⟩⟩
set_option maxHeartbeats 0 in
theorem ok_cps {f fCp : Addr} {fd : FuncData} (F : Fun K "check_places" "check_places" sCps f fd) (GCp : FnR P w K mg base CX0 1 fCp (spCp K CS)) (MCp : Meth K CS "check_place" fCp) (T : MeTxt K mg CS) (TT : TriTxt K mg CT) : FnOk P w K mg base CX0 2 f fd ["site", "trials"] (spCps K CS CT) := by
  refine F.ok scCps (fun vs H Q E h => ?_) (fun cdv A outer s H vs Q E hr h => ?_)
  · obtain ⟨r, t, ws, ls, rows, rfl, _⟩ := h
    rfl
  · obtain ⟨r, t, ws, ls, rows, rfl, hS, hT, hp, k⟩ := h
    have hr1 : Room 1 _ := hr.mono (by decide)
    refine ⟨_, (pss_one (ps_for PassesOwn.never rfl (pi_list (pv 1)) (pg_name (i := 2) scCps.nd rfl (Or.inl rfl)) (pss_one (ps_expr (Own.pe_methW (E := fun _ => E0) (pv 0) T.cl MCp GCp hr1 (passS pass0) (pa_cons (pe_fld (pv 2) rfl) pa_nil)))))), ?_⟩
    obtain ⟨dx, fs, pr, pl, ps, pd, pt, h0, _, _, _, _, _, f1, g1, _⟩ := id hS
    obtain ⟨ts, t1, t2, t3⟩ := id hT
    refine ⟨_, rfl, t, rfl, ⟨_, SqL.of t1⟩, ?_⟩
    refine for_it (walk_list (xs := ts.map V.ref)) (fun i σ' H' => ∃ v2 : Option V, σ' = [some (.ref r), some (.ref t), v2] ∧ H' = H)
      ⟨_, rfl, rfl⟩ (fun i σ' H' _ h => by obtain ⟨_, _, rfl⟩ := h; exact SqL.of t1) ?_ ?_
    · rintro i y σ' H2 H3 hi ⟨v2, rfl, rfl⟩ ⟨rfl, hy⟩
      rw [List.length_map] at hi
      rw [List.getElem?_map, List.getElem?_eq_getElem hi] at hy
      cases hy
      obtain ⟨x, hx⟩ : ∃ x, rows[i]? = some x := ⟨_, List.getElem?_eq_getElem (by omega)⟩
      obtain ⟨dt, ft, a1, a2, a3, a4, _⟩ := t3 i _ _ (List.getElem?_eq_getElem hi) hx
      exact ⟨_, rfl, r, dx, fs, rfl, h0, g1 _ (by decide), _, rfl, _, CT, dt, ft, _, rfl, a1, TT.cl, TT.nP, a2, r, ws, ls, _, rfl, hS, hp x (List.mem_of_getElem? hx), _, rfl, rfl⟩
    · rintro σ' H2 ⟨v2, rfl, rfl⟩
      exact k
set_option maxHeartbeats 0 in
theorem ok_led {f fLi : Addr} {fd : FuncData} (F : Fun K "_low_edge" "_low_edge" sLed f fd) (GLi : FnR P w K mg base (L2.CX P w) 5 fLi (spLim K C CS)) (MLi : Meth K CS "limit" fLi) (T : MeTxt K mg CS) (TT : TriTxt K mg CT) (TE : EdgTxt mg) : FnOk P w K mg base CX0 6 f fd ["site", "trials", "place"] (spEdge K CS CT LowE) := by
  obtain ⟨tg, hgr⟩ := TE.ground
  obtain ⟨tn, hnt⟩ := TE.trial
  have hen := TE.enumerate
  refine F.ok scLed (fun vs H Q E h => ?_) (fun cdv A outer s H vs Q E hr h => ?_)
  · obtain ⟨r, t, ws, ls, rows, p, rfl, _⟩ := h
    rfl
  · obtain ⟨r, t, ws, ls, rows, p, rfl, hS, hT, hin, hp, p50, k⟩ := h
    have hr5 : Room 5 _ := hr.mono (by decide)
    refine ⟨_, (pss_cons (ps_set (i := 3) scLed.nd rfl (Or.inl rfl) (pe_tup (pa_cons (pe_un un_neg (Own.pe_methW (E := fun _ => E0) (pv 0) T.cl MLi GLi hr5 (passS passL) (pa_cons (pv 2) (pa_cons (pe_glob (v := .int (-1)) rfl hgr ⟨_, rfl⟩) pa_nil)))) (pa_cons (pe_glob (v := .int (-1)) rfl hnt ⟨_, rfl⟩) (pa_cons (pe_glob (v := .int (-1)) rfl hgr ⟨_, rfl⟩) pa_nil)))))
      (pss_cons (ps_for PassesOwn.never rfl (pi_enum (by rfl) hen (pa_cons (pv 1) pa_nil)) (pg_tup (by rfl) (pgs_cons (pg_name (i := 4) scLed.nd rfl (Or.inl rfl)) (pgs_cons (pg_name (i := 5) scLed.nd rfl (Or.inl rfl)) pgs_nil))) (pss_one (ps_if (pt_not (pt_val (pe_fld (pv 5) rfl))) (pss_cons (ps_set (i := 6) scLed.nd rfl (Or.inl rfl) (pe_op op_sub (pe_op op_add (pe_fld (pv 5) rfl) pe_int) (Own.pe_methW (E := fun _ => E0) (pv 0) T.cl MLi GLi hr5 (passS passL) (pa_cons (pv 2) (pa_cons (pe_fld (pv 5) rfl) pa_nil)))))
      (pss_one (ps_if (pt_cmpR op_gt (pv 6) (pe_ix ix_tup (pv 3) pe_int (fun _ _ => rfl)) (nomark _)) (pss_one (ps_set (i := 3) scLed.nd rfl (Or.inl rfl) (pe_tup (pa_cons (pv 6) (pa_cons (pv 4) (pa_cons (pe_fld (pv 5) rfl) pa_nil)))))) pss_nil))) pss_nil)))
      (pss_one (ps_ret (pv 3))))), ?_⟩
    obtain ⟨dx, fs, pr, pl, ps, pd, pt, h0, _, _, _, _, _, f1, g1, _⟩ := id hS
    have szn : ∀ z : Int, -100 ≤ z → z ≤ 100 → Sz z := fun z a b => Nat.lt_of_le_of_lt (show z.natAbs ≤ 100 by omega) (by decide +kernel)
    have nod : ∀ z : Int, -1 ≤ z → z < (places ws : Nat) → nodeB ws z = true := fun z a b => decide_eq_true ⟨a, b⟩
    have non : ∀ y z : Int, (-1 ≤ y ∧ y < (places ws : Nat)) → (-1 ≤ z ∧ z < (places ws : Nat)) → nodesDue ws y z = none := fun y z a b => by
      unfold nodesDue
      rw [if_neg (by rw [nod y a.1 a.2]; decide), if_neg (by rw [nod z b.1 b.2]; decide)]
    obtain ⟨ts, t1, t2, t3⟩ := id hT
    refine ⟨_, rfl, r, dx, fs, rfl, h0, g1 _ (by decide), _, rfl, r, ws, ls, p, -1, rfl, hS, szn _ (by omega) (by omega), szn _ (by decide) (by decide), fun z hz => (by rw [non p (-1) ⟨by omega, hp.2⟩ ⟨by decide, by omega⟩] at hz; cases hz), fun _ H1 s1 => ⟨_, rfl, by show 3 ≤ sizeLine; decide, fun e0 he0 => ?_⟩⟩
    have E1 : upd H1 e0 (.tup [V.int (-limOf ws ls p (-1)), V.int (-1), V.int (-1)]) e0 = some (.tup [V.int (-limOf ws ls p (-1)), V.int (-1), V.int (-1)]) := upd_same
    have S1 := same_tr s1 (same_new (o := .tup [V.int (-limOf ws ls p (-1)), V.int (-1), V.int (-1)]) he0)
    have e00 := none_back s1 he0
    generalize upd H1 e0 (.tup [V.int (-limOf ws ls p (-1)), V.int (-1), V.int (-1)]) = H1 at E1 S1
    refine ⟨_, rfl, t, _, rfl, SqL.of (S1 _ _ t1), ?_⟩
    refine for_it (walk_enum (xs := ts.map V.ref)) (fun i σ' H' => ∃ (eu : Addr) (e : Edge) (v4 v5 v6 : Option V), σ' = [some (.ref r), some (.ref t), some (.int p), some (.ref eu), v4, v5, v6] ∧ H' eu = some (.tup [.int e.1, .int e.2.1, .int e.2.2]) ∧ H eu = none ∧ LowE (limOf ws ls) (rows.take i) p e ∧ Same H H')
      ⟨e0, ((-limOf ws ls p (-1)), -1, -1), _, _, _, rfl, E1, e00, ⟨(fun _ z => by rw [List.take_zero] at z; cases z), Int.le_refl _, .inl ⟨rfl, rfl, rfl⟩⟩, S1⟩ (fun i σ' H' _ h => by obtain ⟨_, _, _, _, _, _, _, _, _, z⟩ := h; exact SqL.of (z _ _ t1)) ?_ ?_
    · rintro i x σ' H2 H3 hi ⟨eu, e, v4, v5, v6, rfl, he, heu, L, S⟩ ⟨T0, x0, y0, rfl, hT0, rfl, hx, hy⟩
      cases hx
      rw [List.length_map] at hi
      have hy : (ts.map V.ref)[i]? = some y0 := hy
      rw [List.getElem?_map, List.getElem?_eq_getElem hi] at hy
      cases hy
      obtain ⟨row, hrow⟩ : ∃ x, rows[i]? = some x := ⟨_, List.getElem?_eq_getElem (by omega)⟩
      have hrp := hin row (List.mem_of_getElem? hrow)
      have sT := same_new (o := .tup [V.int (i : Nat), V.ref ts[i]]) hT0
      refine ⟨T0, _, rfl, SqT.of upd_same, rfl, _, _, rfl, _, _, rfl, rfl, ?_⟩
      have S2 := same_tr S sT
      have he2 := sT _ _ he
      generalize upd H2 T0 (.tup [V.int (i : Nat), V.ref ts[i]]) = H4 at S2 he2
      obtain ⟨dt, gt, a1, a2, a3, a4, _⟩ := (t3 i _ _ (List.getElem?_eq_getElem hi) hrow).same S2
      obtain ⟨n1, n2, n3⟩ := L.next hrow
      refine ⟨_, rfl, ts[i], CT, dt, gt, _, rfl, a1, TT.cl, TT.nR, a4, _, rfl, ?_⟩
      cases hq : row.2.2 with
      | true =>
        refine if_f rfl ?_
        exact ⟨eu, e, _, _, _, rfl, he2, heu, n1 hq, S2⟩
      | false =>
        refine if_t rfl ?_
        refine ⟨_, rfl, ts[i], CT, dt, gt, _, rfl, a1, TT.cl, TT.nH, a3, _, _, rfl, rfl, _, rfl, r, dx, fs, rfl, S2 _ _ h0, g1 _ (by decide), _, rfl, _, rfl, ts[i], CT, dt, gt, _, rfl, a1, TT.cl, TT.nP, a2, r, ws, ls, p, row.1, rfl, hS.same S2, szn _ (by omega) (by omega), szn _ (by omega) (by omega), fun z hz => (by rw [non p row.1 ⟨by omega, by omega⟩ ⟨by omega, by omega⟩] at hz; cases hz), fun _ H5 s5 => ⟨_, _, rfl, rfl, ?_⟩⟩
        have S5 := same_tr S2 s5
        have he5 := s5 _ _ he2
        refine ⟨_, rfl, _, rfl, eu, _, 0, _, rfl, rfl, SqT.of he5, rfl, _, _, rfl, rfl, _, rfl, ite2 (fun c => ?_) (fun c => ?_)⟩
        · have c : row.2.1 + 1 - limOf ws ls p row.1 > e.1 := of_decide_eq_true c
          refine ⟨_, rfl, _, rfl, _, rfl, ts[i], CT, dt, gt, _, rfl, s5 _ _ a1, TT.cl, TT.nP, a2, by show 3 ≤ sizeLine; decide, fun nu hnu => ?_⟩
          exact ⟨nu, (row.2.1 + 1 - limOf ws ls p row.1, (i : Int), row.1), some (.int (i : Nat)), some (.ref ts[i]), some (.int (row.2.1 + 1 - limOf ws ls p row.1)), rfl, upd_same, none_back S5 hnu, n3 hq c, same_tr S5 (same_new hnu)⟩
        · have c : ¬ (row.2.1 + 1 - limOf ws ls p row.1 > e.1) := fun z => c (decide_eq_true z)
          exact ⟨eu, e, some (.int (i : Nat)), some (.ref ts[i]), some (.int (row.2.1 + 1 - limOf ws ls p row.1)), rfl, he5, heu, n2 hq c, S5⟩
    rintro σ' H2 ⟨eu, e, v4, v5, v6, rfl, he, heu, L, S⟩
    rw [List.length_map, t2, List.take_length] at L
    exact ⟨_, rfl, k eu e _ heu S he L⟩
set_option maxHeartbeats 0 in
theorem ok_hed {f fLi : Addr} {fd : FuncData} (F : Fun K "_high_edge" "_high_edge" sHed f fd) (GLi : FnR P w K mg base (L2.CX P w) 5 fLi (spLim K C CS)) (MLi : Meth K CS "limit" fLi) (T : MeTxt K mg CS) (TT : TriTxt K mg CT) (TE : EdgTxt mg) : FnOk P w K mg base CX0 6 f fd ["site", "trials", "place"] (spEdge K CS CT HighE) := by
  obtain ⟨tg, hgr⟩ := TE.ground
  obtain ⟨tn, hnt⟩ := TE.trial
  have hen := TE.enumerate
  refine F.ok scHed (fun vs H Q E h => ?_) (fun cdv A outer s H vs Q E hr h => ?_)
  · obtain ⟨r, t, ws, ls, rows, p, rfl, _⟩ := h
    rfl
  · obtain ⟨r, t, ws, ls, rows, p, rfl, hS, hT, hin, hp, p50, k⟩ := h
    have hr5 : Room 5 _ := hr.mono (by decide)
    refine ⟨_, (pss_cons (ps_set (i := 3) scHed.nd rfl (Or.inl rfl) (pe_tup (pa_cons (Own.pe_methW (E := fun _ => E0) (pv 0) T.cl MLi GLi hr5 (passS passL) (pa_cons (pe_glob (v := .int (-1)) rfl hgr ⟨_, rfl⟩) (pa_cons (pv 2) pa_nil))) (pa_cons (pe_glob (v := .int (-1)) rfl hnt ⟨_, rfl⟩) (pa_cons (pe_glob (v := .int (-1)) rfl hgr ⟨_, rfl⟩) pa_nil)))))
      (pss_cons (ps_for PassesOwn.never rfl (pi_enum (by rfl) hen (pa_cons (pv 1) pa_nil)) (pg_tup (by rfl) (pgs_cons (pg_name (i := 4) scHed.nd rfl (Or.inl rfl)) (pgs_cons (pg_name (i := 5) scHed.nd rfl (Or.inl rfl)) pgs_nil))) (pss_one (ps_if (pt_val (pe_fld (pv 5) rfl)) (pss_cons (ps_set (i := 6) scHed.nd rfl (Or.inl rfl) (pe_op op_add (pe_fld (pv 5) rfl) (Own.pe_methW (E := fun _ => E0) (pv 0) T.cl MLi GLi hr5 (passS passL) (pa_cons (pe_fld (pv 5) rfl) (pa_cons (pv 2) pa_nil)))))
      (pss_one (ps_if (pt_cmpR op_lt (pv 6) (pe_ix ix_tup (pv 3) pe_int (fun _ _ => rfl)) (nomark _)) (pss_one (ps_set (i := 3) scHed.nd rfl (Or.inl rfl) (pe_tup (pa_cons (pv 6) (pa_cons (pv 4) (pa_cons (pe_fld (pv 5) rfl) pa_nil)))))) pss_nil))) pss_nil)))
      (pss_one (ps_ret (pv 3))))), ?_⟩
    obtain ⟨dx, fs, pr, pl, ps, pd, pt, h0, _, _, _, _, _, f1, g1, _⟩ := id hS
    have szn : ∀ z : Int, -100 ≤ z → z ≤ 100 → Sz z := fun z a b => Nat.lt_of_le_of_lt (show z.natAbs ≤ 100 by omega) (by decide +kernel)
    have nod : ∀ z : Int, -1 ≤ z → z < (places ws : Nat) → nodeB ws z = true := fun z a b => decide_eq_true ⟨a, b⟩
    have non : ∀ y z : Int, (-1 ≤ y ∧ y < (places ws : Nat)) → (-1 ≤ z ∧ z < (places ws : Nat)) → nodesDue ws y z = none := fun y z a b => by
      unfold nodesDue
      rw [if_neg (by rw [nod y a.1 a.2]; decide), if_neg (by rw [nod z b.1 b.2]; decide)]
    obtain ⟨ts, t1, t2, t3⟩ := id hT
    refine ⟨_, rfl, r, dx, fs, rfl, h0, g1 _ (by decide), _, rfl, r, ws, ls, -1, p, rfl, hS, szn _ (by decide) (by decide), szn _ (by omega) (by omega), fun z hz => (by rw [non (-1) p ⟨by decide, by omega⟩ ⟨by omega, hp.2⟩] at hz; cases hz), fun _ H1 s1 => ⟨by show 3 ≤ sizeLine; decide, fun e0 he0 => ?_⟩⟩
    have E1 : upd H1 e0 (.tup [V.int (limOf ws ls (-1) p), V.int (-1), V.int (-1)]) e0 = some (.tup [V.int (limOf ws ls (-1) p), V.int (-1), V.int (-1)]) := upd_same
    have S1 := same_tr s1 (same_new (o := .tup [V.int (limOf ws ls (-1) p), V.int (-1), V.int (-1)]) he0)
    have e00 := none_back s1 he0
    generalize upd H1 e0 (.tup [V.int (limOf ws ls (-1) p), V.int (-1), V.int (-1)]) = H1 at E1 S1
    refine ⟨_, rfl, t, _, rfl, SqL.of (S1 _ _ t1), ?_⟩
    refine for_it (walk_enum (xs := ts.map V.ref)) (fun i σ' H' => ∃ (eu : Addr) (e : Edge) (v4 v5 v6 : Option V), σ' = [some (.ref r), some (.ref t), some (.int p), some (.ref eu), v4, v5, v6] ∧ H' eu = some (.tup [.int e.1, .int e.2.1, .int e.2.2]) ∧ H eu = none ∧ HighE (limOf ws ls) (rows.take i) p e ∧ Same H H')
      ⟨e0, ((limOf ws ls (-1) p), -1, -1), _, _, _, rfl, E1, e00, ⟨(fun _ z => by rw [List.take_zero] at z; cases z), Int.le_refl _, .inl ⟨rfl, rfl, rfl⟩⟩, S1⟩ (fun i σ' H' _ h => by obtain ⟨_, _, _, _, _, _, _, _, _, z⟩ := h; exact SqL.of (z _ _ t1)) ?_ ?_
    · rintro i x σ' H2 H3 hi ⟨eu, e, v4, v5, v6, rfl, he, heu, L, S⟩ ⟨T0, x0, y0, rfl, hT0, rfl, hx, hy⟩
      cases hx
      rw [List.length_map] at hi
      have hy : (ts.map V.ref)[i]? = some y0 := hy
      rw [List.getElem?_map, List.getElem?_eq_getElem hi] at hy
      cases hy
      obtain ⟨row, hrow⟩ : ∃ x, rows[i]? = some x := ⟨_, List.getElem?_eq_getElem (by omega)⟩
      have hrp := hin row (List.mem_of_getElem? hrow)
      have sT := same_new (o := .tup [V.int (i : Nat), V.ref ts[i]]) hT0
      refine ⟨T0, _, rfl, SqT.of upd_same, rfl, _, _, rfl, _, _, rfl, rfl, ?_⟩
      have S2 := same_tr S sT
      have he2 := sT _ _ he
      generalize upd H2 T0 (.tup [V.int (i : Nat), V.ref ts[i]]) = H4 at S2 he2
      obtain ⟨dt, gt, a1, a2, a3, a4, _⟩ := (t3 i _ _ (List.getElem?_eq_getElem hi) hrow).same S2
      obtain ⟨n1, n2, n3⟩ := L.next hrow
      refine ⟨_, rfl, ts[i], CT, dt, gt, _, rfl, a1, TT.cl, TT.nR, a4, _, rfl, ?_⟩
      cases hq : row.2.2 with
      | false =>
        refine if_f rfl ?_
        exact ⟨eu, e, _, _, _, rfl, he2, heu, n1 hq, S2⟩
      | true =>
        refine if_t rfl ?_
        refine ⟨_, rfl, ts[i], CT, dt, gt, _, rfl, a1, TT.cl, TT.nH, a3, _, rfl, r, dx, fs, rfl, S2 _ _ h0, g1 _ (by decide), _, rfl, ts[i], CT, dt, gt, _, rfl, a1, TT.cl, TT.nP, a2, _, rfl, r, ws, ls, row.1, p, rfl, hS.same S2, szn _ (by omega) (by omega), szn _ (by omega) (by omega), fun z hz => (by rw [non row.1 p ⟨by omega, by omega⟩ ⟨by omega, by omega⟩] at hz; cases hz), fun _ H5 s5 => ⟨_, _, rfl, rfl, ?_⟩⟩
        have S5 := same_tr S2 s5
        have he5 := s5 _ _ he2
        refine ⟨_, rfl, _, rfl, eu, _, 0, _, rfl, rfl, SqT.of he5, rfl, _, _, rfl, rfl, _, rfl, ite2 (fun c => ?_) (fun c => ?_)⟩
        · have c : row.2.1 + limOf ws ls row.1 p < e.1 := of_decide_eq_true c
          refine ⟨_, rfl, _, rfl, _, rfl, ts[i], CT, dt, gt, _, rfl, s5 _ _ a1, TT.cl, TT.nP, a2, by show 3 ≤ sizeLine; decide, fun nu hnu => ?_⟩
          exact ⟨nu, (row.2.1 + limOf ws ls row.1 p, (i : Int), row.1), some (.int (i : Nat)), some (.ref ts[i]), some (.int (row.2.1 + limOf ws ls row.1 p)), rfl, upd_same, none_back S5 hnu, n3 hq c, same_tr S5 (same_new hnu)⟩
        · have c : ¬ (row.2.1 + limOf ws ls row.1 p < e.1) := fun z => c (decide_eq_true z)
          exact ⟨eu, e, some (.int (i : Nat)), some (.ref ts[i]), some (.int (row.2.1 + limOf ws ls row.1 p)), rfl, he5, heu, n2 hq c, S5⟩
    rintro σ' H2 ⟨eu, e, v4, v5, v6, rfl, he, heu, L, S⟩
    rw [List.length_map, t2, List.take_length] at L
    exact ⟨_, rfl, k eu e _ heu S he L⟩
end
end Law

/-! All edges, and their heights. -/
namespace Law
open PySem PySem.Spec PyProof.Rows L2 Sup
def spHof : Sp := fun vs H Q _ => ∃ (p : Addr) (es : List Edge), vs = [.ref p] ∧ LimsAt H p es ∧ es.length ≤ 200 ∧ ∀ (u : Addr) (H' : Hp), H u = none → Same H H' → H' u = some (.lst ((es.map (·.1)).map V.int)) → Q (.ref u) H'
/-- the edges of all places -/
structure EdgesOk (lim : Int → Int → Int) (rows : List TRow) (n : Nat) (le he : List Edge) : Prop where
  l1 : le.length = n
  l2 : he.length = n
  low : ∀ (i : Nat) (e : Edge), le[i]? = some e → LowE lim rows i e
  high : ∀ (i : Nat) (e : Edge), he[i]? = some e → HighE lim rows i e
def Compat (lim : Int → Int → Int) (rows : List TRow) (n : Nat) : Prop := ∀ (i : Nat) (e e' : Edge), i < n → LowE lim rows i e → HighE lim rows i e' → e.1 ≤ e'.1
def spFed (K : PySem.W.Frag) (CS CT : Addr) : Sp := fun vs H Q _ => ∃ (r t : Addr) (ws : List Wal) (ls : List Lnk) (rows : List TRow), vs = [.ref r, .ref t] ∧ SiteAt K CS ws ls H r ∧ TrisAt CT H t rows ∧ inPl ws rows ∧ places ws ≤ 50 ∧ Compat (limOf ws ls) rows (places ws) ∧
  ∀ (u pl ph : Addr) (le he : List Edge) (H' : Hp), Same H H' → H' u = some (.tup [.ref pl, .ref ph]) → LimsAt H' pl le → LimsAt H' ph he → EdgesOk (limOf ws ls) rows (places ws) le he → Q (.ref u) H'
structure FedTxt (mg : Str → Option Value) (fLo fHi : Addr) : Prop where
  low : mg "_low_edge" = some (.ref fLo)
  high : mg "_high_edge" = some (.ref fHi)
  b_range : mg "range" = none
  zip : mg "zip" = none
  b_any : mg "any" = none
section
variable {P : Program} {w : World} {K : PySem.W.Frag} {mg : Str → Option Value} {base : Heap} {C : Errs} {CS CT : Addr}
theorem scFed : FnScope ["site", "trials", "lows", "place", "highs", "low", "high"] ["site", "trials"] (defScope sFed) := ⟨rfl, rfl, rfl, by decide +kernel, rfl, by decide +kernel, by decide +kernel⟩
theorem scHof : FnScope ["edges", "height", "_"] ["edges"] (defScope sHof) := ⟨rfl, rfl, rfl, by decide +kernel, rfl, by decide +kernel, by decide +kernel⟩
set_option maxHeartbeats 0 in
theorem ok_hof {f : Addr} {fd : FuncData} (F : Fun K "heights_of" "heights_of" sHof f fd) : FnOk P w K mg base CX0 1 f fd ["edges"] spHof := by
  refine F.ok scHof (fun vs H Q E h => ?_) (fun cdv A outer s H vs Q E hr h => ?_)
  · obtain ⟨p, es, rfl, _⟩ := h
    rfl
  · obtain ⟨p, es, rfl, hL, h200, k⟩ := h
    refine ⟨_, (pss_one (ps_ret (pe_lc (own := [("height", 1), ("_", 2)]) (g := gTup K 3 (gCons (gName 1) (gCons (gName 2) (gCons (gName 2) gNil)))) (tt := tYes) (by rfl) scHof.nd  (pi_list (pv 0)) (blkOk_by (own := [("height", 1), ("_", 2)]) (N := ["edges", "height", "_"]) (sc := defScope sHof) (by decide +kernel)) (fun _ _ _ _ _ => by exact (pg_tup (n := 3) rfl (pgs_cons (pg_name (i := 1) scHof.nd rfl (Or.inl rfl)) (pgs_cons (pg_name (i := 2) scHof.nd rfl (Or.inl rfl)) (pgs_cons (pg_name (i := 2) scHof.nd rfl (Or.inl rfl)) pgs_nil))))) (fun _ _ _ _ _ => pts_nil) (fun _ _ _ _ _ => (pv 1))))), ?_⟩
    obtain ⟨ts, a2, a3, a4⟩ := id hL
    refine ⟨_, rfl, p, rfl, ⟨_, SqL.of a2⟩, fun D hD => ?_⟩
    refine lc_it (walk_list (xs := ts.map V.ref)) (LcP D H fun i => es[i]?.map fun e => V.int e.1) (LcP.start hD) (fun _ _ _ h => SqL.of (h.2 _ _ a2)) ?_ ?_
    · rintro i y H1 H2 hi B ⟨rfl, hy⟩
      rw [List.length_map] at hi
      rw [List.getElem?_map, List.getElem?_eq_getElem hi] at hy
      cases hy
      obtain ⟨e, he⟩ : ∃ w, es[i]? = some w := ⟨_, List.getElem?_eq_getElem (by omega)⟩
      have z := B.2 _ _ (a4 i _ e (List.getElem?_eq_getElem hi) he)
      refine ⟨_, _, rfl, SqT.of z, rfl, _, _, rfl, _, _, rfl, _, _, rfl, rfl, rfl, _, rfl, B.push hD same_rfl (by rw [he]; rfl) (by omega)⟩
    · rintro H1 ⟨b1, S1⟩
      refine k D H1 hD S1 ?_
      rw [List.length_map, a3] at b1
      have e := range_fm (fun w : Edge => some (V.int w.1)) es
      have e2 : (fun i : Nat => es[i]?.bind fun w => some (V.int w.1)) = fun i => es[i]?.map fun w => V.int w.1 := by
        funext i
        cases es[i]? <;> rfl
      rw [e2] at e
      rw [e] at b1
      rw [List.map_map]
      simpa [Function.comp_def] using b1
set_option maxHeartbeats 0 in
theorem ok_fed {f fLo fHi : Addr} {fd fdLo fdHi : FuncData} (F : Fun K "find_edges" "find_edges" sFed f fd)
    (GLo : FnOk P w K mg base CX0 6 fLo fdLo ["site", "trials", "place"] (spEdge K CS CT LowE)) (FLo : Fun K "_low_edge" "_low_edge" sLed fLo fdLo) (bLo : Binds K fdLo ["site", "trials", "place"] [])
    (GHi : FnOk P w K mg base CX0 6 fHi fdHi ["site", "trials", "place"] (spEdge K CS CT HighE)) (FHi : Fun K "_high_edge" "_high_edge" sHed fHi fdHi) (bHi : Binds K fdHi ["site", "trials", "place"] [])
    (TM : MeTxt K mg CS) (T : FedTxt mg fLo fHi) : FnOk P w K mg base CX0 7 f fd ["site", "trials"] (spFed K CS CT) := by
  refine F.ok scFed (fun vs H Q E h => ?_) (fun cdv A outer s H vs Q E hr h => ?_)
  · obtain ⟨r, t, ws, ls, rows, rfl, _⟩ := h
    rfl
  · obtain ⟨r, t, ws, ls, rows, rfl, hS, hT, hin, h50, hc, k⟩ := h
    have hr6 : Room 6 _ := hr.mono (by decide)
    refine ⟨_, (pss_cons (ps_setLc (i := 2) (own := [("place", 3)]) (g := gName 3) (tt := tYes) (by rfl) scFed.nd rfl rfl (sw_true rfl rfl rfl (by decide +kernel)) (pi_range1 (by rfl) T.b_range (pa_cons (pe_fld (pv 0) rfl) pa_nil)) (blkOk_by (own := [("place", 3)]) (N := ["site", "trials", "lows", "place", "highs", "low", "high"]) (sc := defScope sFed) (by decide +kernel)) (fun _ _ _ _ _ => (pg_name (i := 3) scFed.nd rfl (Or.inl rfl))) (fun _ _ _ _ _ => pts_nil) (fun _ _ _ _ _ => (pe_call GLo hr6 rfl T.low FLo.kp bLo .nil pass0 (pa_cons (pv 0) (pa_cons (pv 1) (pa_cons (pv 3) pa_nil))))))
      (pss_cons (ps_setLc (i := 4) (own := [("place", 3)]) (g := gName 3) (tt := tYes) (by rfl) scFed.nd rfl rfl (sw_true rfl rfl rfl (by decide +kernel)) (pi_range1 (by rfl) T.b_range (pa_cons (pe_fld (pv 0) rfl) pa_nil)) (blkOk_by (own := [("place", 3)]) (N := ["site", "trials", "lows", "place", "highs", "low", "high"]) (sc := defScope sFed) (by decide +kernel)) (fun _ _ _ _ _ => (pg_name (i := 3) scFed.nd rfl (Or.inl rfl))) (fun _ _ _ _ _ => pts_nil) (fun _ _ _ _ _ => (pe_call GHi hr6 rfl T.high FHi.kp bHi .nil pass0 (pa_cons (pv 0) (pa_cons (pv 1) (pa_cons (pv 3) pa_nil))))))
      (pss_cons (ps_if (pt_val (pe_callB (cr_any (by rfl)) (by rfl) T.b_any (by decide +kernel) (pa_cons (pe_lc (own := [("low", 5), ("high", 6)]) (g := gTup K 2 (gCons (gName 5) (gCons (gName 6) gNil))) (tt := tYes) (by rfl) scFed.nd  (pi_zip (by rfl) T.zip (pa_cons (pv 2) (pa_cons (pv 4) pa_nil))) (blkOk_by (own := [("low", 5), ("high", 6)]) (N := ["site", "trials", "lows", "place", "highs", "low", "high"]) (sc := defScope sFed) (by decide +kernel)) (fun _ _ _ _ _ => by exact (pg_tup (n := 2) rfl (pgs_cons (pg_name (i := 5) scFed.nd rfl (Or.inl rfl)) (pgs_cons (pg_name (i := 6) scFed.nd rfl (Or.inl rfl)) pgs_nil)))) (fun _ _ _ _ _ => pts_nil) (fun _ _ _ _ _ => (pe_cmpR op_gt (pe_ix (r := rIxT K) ix_tup (pv 5) pe_int (fun _ _ => rfl)) (pe_ix (r := rIxT K) ix_tup (pv 6) pe_int (fun _ _ => rfl)) (nomark _)))) pa_nil))) (pss_one ps_no) pss_nil)
      (pss_one (ps_ret (pe_tup (pa_cons (pv 2) (pa_cons (pv 4) pa_nil)))))))), ?_⟩
    obtain ⟨dx, fs, pr, pl, ps, pd, pt, h0, _, _, _, _, _, f1, g1, _⟩ := id hS
    have nat : (((places ws : Nat) : Int)).toNat = places ws := Int.toNat_natCast _
    refine ⟨_, rfl, r, CS, dx, fs, _, rfl, h0, TM.cl, TM.na _ (by decide), f1, _, rfl, by omega, by omega, fun D1 hD1 => ?_⟩
    refine lc_range (lo := 0) (n := ((places ws : Nat) : Int).toNat) (fun i H' => ∃ es : List Edge, LimsAt H' D1 es ∧ es.length = i ∧ (∀ (j : Nat) (e : Edge), es[j]? = some e → LowE (limOf ws ls) rows j e) ∧ Same H H')
      ⟨[], ⟨[], upd_same, rfl, fun i t e z => by cases z⟩, rfl, (fun j e z => by cases z), same_new hD1⟩ ?_ ?_
    · rintro i H1 hi ⟨es, L1, el, eo, S1⟩
      rw [nat] at hi
      refine ⟨rfl, _, rfl, _, rfl, _, rfl, r, t, ws, ls, rows, _, rfl, hS.same S1, hT.same S1, hin, ⟨by omega, by omega⟩, h50, fun u e H2 hu S2 e2 L => ?_⟩
      obtain ⟨xs, x1, x2⟩ := (L1.same S2).len
      refine ⟨xs, x1, small1000 (by omega), es ++ [e], (L1.same S2).push x1 e2, by rw [List.length_append, el]; rfl, fun j e' z => ?_, fun c o z => ?_⟩
      · by_cases hj : j < es.length
        · rw [List.getElem?_append_left hj] at z
          exact eo j e' z
        · rw [List.getElem?_append_right (by omega)] at z
          have : j - es.length = 0 := by
            have := (List.getElem?_eq_some_iff.mp z).1
            have : j - es.length < 1 := this
            omega
          rw [this] at z
          cases z
          rw [Int.zero_add] at L
          rw [show j = i by omega]
          exact L
      · rw [upd_ne (ne_of_none z hD1)]
        exact S2 _ _ (S1 _ _ z)
    rintro H1 ⟨le, L1, l1, lo, S1⟩
    rw [nat] at l1
    refine ⟨_, rfl, r, CS, dx, fs, _, rfl, S1 _ _ h0, TM.cl, TM.na _ (by decide), f1, _, rfl, by omega, by omega, fun D2 hD2 => ?_⟩
    have hD20 := none_back S1 hD2
    refine lc_range (lo := 0) (n := ((places ws : Nat) : Int).toNat) (fun i H' => ∃ es : List Edge, LimsAt H' D2 es ∧ es.length = i ∧ (∀ (j : Nat) (e : Edge), es[j]? = some e → HighE (limOf ws ls) rows j e) ∧ Same H1 H')
      ⟨[], ⟨[], upd_same, rfl, fun i t e z => by cases z⟩, rfl, (fun j e z => by cases z), same_new hD2⟩ ?_ ?_
    · rintro i H3 hi ⟨es, L3, el, eo, S3⟩
      rw [nat] at hi
      have S13 := same_tr S1 S3
      refine ⟨rfl, _, rfl, _, rfl, _, rfl, r, t, ws, ls, rows, _, rfl, hS.same S13, hT.same S13, hin, ⟨by omega, by omega⟩, h50, fun u e H2 hu S2 e2 L => ?_⟩
      obtain ⟨xs, x1, x2⟩ := (L3.same S2).len
      refine ⟨xs, x1, small1000 (by omega), es ++ [e], (L3.same S2).push x1 e2, by rw [List.length_append, el]; rfl, fun j e' z => ?_, fun c o z => ?_⟩
      · by_cases hj : j < es.length
        · rw [List.getElem?_append_left hj] at z
          exact eo j e' z
        · rw [List.getElem?_append_right (by omega)] at z
          have : j - es.length = 0 := by
            have := (List.getElem?_eq_some_iff.mp z).1
            have : j - es.length < 1 := this
            omega
          rw [this] at z
          cases z
          rw [Int.zero_add] at L
          rw [show j = i by omega]
          exact L
      · rw [upd_ne (ne_of_none z hD2)]
        exact S2 _ _ (S3 _ _ z)
    rintro H3 ⟨he, L3, l3, ho, S3⟩
    rw [nat] at l3
    have L13 := L1.same S3
    have S13 := same_tr S1 S3
    obtain ⟨us, u1, u2, u3⟩ := id L13
    obtain ⟨vs, v1, v2, v3⟩ := id L3
    refine ⟨_, rfl, _, rfl, D1, D2, _, _, rfl, SqL.of u1, SqL.of v1, fun D3 hD3 => ?_⟩
    refine lc_it (walk_zip (xs := us.map V.ref) (ys := vs.map V.ref) (n := places ws) (by rw [List.length_map, List.length_map, u2, v2, l1, l3, Nat.min_self])) (LcP D3 H3 fun i => some (V.bl false)) (LcP.start hD3) (fun _ _ _ h => ⟨SqL.of (h.2 _ _ u1), SqL.of (h.2 _ _ v1)⟩) ?_ ?_
    · rintro i y H4 H5 hi B ⟨T0, x0, y0, rfl, hT0, rfl, hx, hy⟩
      have hiu : i < us.length := by omega
      have hiv : i < vs.length := by omega
      have hx : (us.map V.ref)[i]? = some x0 := hx
      have hy : (vs.map V.ref)[i]? = some y0 := hy
      rw [List.getElem?_map, List.getElem?_eq_getElem hiu] at hx
      rw [List.getElem?_map, List.getElem?_eq_getElem hiv] at hy
      cases hx
      cases hy
      obtain ⟨e, he1⟩ : ∃ w, le[i]? = some w := ⟨_, List.getElem?_eq_getElem (by omega)⟩
      obtain ⟨e', he2⟩ : ∃ w, he[i]? = some w := ⟨_, List.getElem?_eq_getElem (by omega)⟩
      have sT := same_new (o := .tup [V.ref us[i], V.ref vs[i]]) hT0
      have y1 := sT _ _ (B.2 _ _ (u3 i _ e (List.getElem?_eq_getElem hiu) he1))
      have y2 := sT _ _ (B.2 _ _ (v3 i _ e' (List.getElem?_eq_getElem hiv) he2))
      have cc := hc i e e' hi (lo i e he1) (ho i e' he2)
      refine ⟨T0, _, rfl, SqT.of upd_same, rfl, _, _, rfl, _, _, rfl, rfl, rfl, _, rfl, us[i], _, 0, _, rfl, rfl, SqT.of y1, rfl, _, rfl, vs[i], _, 0, _, rfl, rfl, SqT.of y2, rfl, _, _, rfl, rfl, ?_⟩
      have ef : decide (e.1 > e'.1) = false := decide_eq_false (by omega)
      refine B.push hD3 sT ?_ (by omega)
      show some (V.bl false) = some (V.bl (decide (e.1 > e'.1)))
      rw [ef]
    rintro H4 ⟨b1, S4⟩
    have ef : (List.range (places ws)).filterMap (fun _ => some (V.bl false)) = ((List.range (places ws)).map fun _ => false).map V.bl := by
      rw [List.map_map]
      simp [List.filterMap_eq_map]
    rw [ef] at b1
    refine ⟨D3, _, rfl, SqL.of b1, ?_⟩
    have an : (((List.range (places ws)).map fun _ => false).any id) = false := by
      simp
    rw [an]
    refine ⟨_, rfl, if_f rfl ?_⟩
    refine ⟨_, rfl, _, rfl, by show 2 ≤ sizeLine; decide, fun u hu => ?_⟩
    have s5 := same_new (o := .tup [V.ref D1, V.ref D2]) hu
    exact k u D1 D2 le he _ (same_tr (same_tr S13 S4) s5) upd_same ((L13.same S4).same s5) ((L3.same S4).same s5) ⟨l1, l3, lo, ho⟩
end
end Law

namespace Own
open PySem PySem.Spec PyProof.Rows L2
/-- o.m() that may raise, at the slots σ -/
theorem pe_methW0 {X : Cx} {CX : CXT} {k : Nat} {C f : Addr} {sp : Sp} {E : L2.St → XK} {m : Str} {o : Expr} {ta : TE} {pos apos : Pos} {pl : Sem Bool} (ho : PE X o ta) (c : Cls X.K C) (hm : Meth X.K C m f) (F : FnR X.prog X.w X.K X.mg X.base CX k f sp) (hr : Room k X.A) (hx : ∀ σ, PassesAt CX X σ (E σ))
    (ht : eval (.Call (.Attribute o m apos) [] [] pos) X.env = (do
      let ov ← eval o X.env
      standAt apos.atName
      let (g, first) ← holding [ov] (getMethod ov m pl)
      callWith pos g first (backTo pos (starEach [] X.env)) (backToKw pos (keywordEach [] X.env))) := by rfl) :
    PE X (.Call (.Attribute o m apos) [] [] pos) (tMethS C m sp E ta tNil) := by
  refine ⟨fun pins s σ H Q I h => ?_⟩
  refine PySem.W.methodCall_KW (pl := pl) (thn (ho.run pins s σ H _ I h) fun u s1 ⟨x, H1, I1, rx, a, dx, fs, ex, ea, l, q⟩ => ?_) ht
  subst ex
  cases (show u = Value.ref a from rx)
  refine getmeth_ok I1 ea c hm l (PySem.W.callWith_K0 (first := [.ref a]) I1.kIn hm.kp ?_)
  exact wpAny_call (run_fnRS (us := [.ref a]) (vs := [.ref a]) F hr (hx σ) I1 (.cons rfl .nil) q)
end Own

/-! Bounds of a site. -/
namespace Own
open PySem PySem.Spec PyProof.Rows L2
section
variable {prog : Program} {w : World} {A : Around} {E : Value → Shared → Prop} {s : Shared} {env : Env}
theorem any_assign_attr {o : Expr} {attr : Str} {pos : Pos} {v : Value} {Q : Unit → Shared → Prop}
    (h : wpAny (model prog w) A (eval o env) (fun ov s₂ => wpAny (model prog w) A (setAttr ov attr v) Q E s₂) E s) :
    wpAny (model prog w) A (assign (.Attribute o attr pos) env v) Q E s := fun Γ p hΓ => by
  simp only [assign_Attribute, Sem.wp_bind', Sem.wp_holding, Sem.wp_cmd_standAt, Sem.wp_release, Sem.wp_pure']
  exact Sem.wp_mono (model prog w) Γ _ (fun ov _ s₂ h₂ => h₂ Γ _ hΓ) (fun _ _ _ h' => h') _ _ (h Γ _ hΓ)
end
/-- o.f = .., as a target -/
def gFld (K : PySem.W.Frag) (to : TE) (f : Str) : TG := fun v σ H Q => to σ H fun x H1 => ∃ a C dx fs, x = .ref a ∧ H1 a = some (.ins C dx fs) ∧ Cls K C ∧ NoAttr K C f ∧ fs.length < 1000 ∧ Q σ (upd H1 a (.ins C dx (putF f v fs)))
theorem pg_fld {X : Cx} {o : Expr} {f : Str} {pos : Pos} {to : TE} (ho : PE X o to) : PG X (.Attribute o f pos) (gFld X.K to f) := by
  refine ⟨fun pins s σ H v u Q I r h => any_assign_attr (thn (ho.run pins s σ H _ I h) fun ov s1 ⟨x, H1, I1, rx, a, C, dx, fs, ex, ea, c, n, l, q⟩ => ?_)⟩
  subst ex
  obtain rfl : ov = Value.ref a := rx
  exact setattr_ok I1 ea c n l r fun s2 I2 => ⟨σ, _, I2, q⟩
end Own
namespace Law
open PySem PySem.Spec PyProof.Rows L2 Sup
abbrev sBini : Stmt := inClass (top 54) 0
abbrev sBlo : Stmt := inClass (top 54) 1
abbrev sBhi : Stmt := inClass (top 54) 2
abbrev sBcon : Stmt := inClass (top 54) 9
def BndAt (CB : Addr) (H : Hp) (o r : Addr) (le he : List Edge) : Prop := ∃ dx fs pl ph, H o = some (.ins CB dx fs) ∧ fs.lookup ("site" : Str) = some (V.ref r) ∧ fs.lookup ("_low_edges" : Str) = some (V.ref pl) ∧ fs.lookup ("_high_edges" : Str) = some (V.ref ph) ∧
  (∀ m ∈ (["lows", "highs", "__contains__"] : List Str), fs.lookup m = none) ∧ LimsAt H pl le ∧ LimsAt H ph he
theorem BndAt.same {CB o r : Addr} {le he : List Edge} {H H' : Hp} (h : BndAt CB H o r le he) (s : Same H H') : BndAt CB H' o r le he := by
  obtain ⟨dx, fs, pl, ph, h0, a, b, c, d, e, f⟩ := h
  exact ⟨dx, fs, pl, ph, s _ _ h0, a, b, c, d, e.same s, f.same s⟩
theorem LimsAt.updI {H : Hp} {p x C dx : Addr} {fs : List (Str × V)} {es : List Edge} {o : HO} (h : LimsAt H p es) (hx : H x = some (.ins C dx fs)) : LimsAt (upd H x o) p es := by
  obtain ⟨ts, a1, a2, a3⟩ := h
  refine ⟨ts, (upd_ne (fun z => by rw [z, hx] at a1; cases a1)).trans a1, a2, fun i t e g1 g2 => ?_⟩
  have b := a3 i t e g1 g2
  exact (upd_ne (fun z => by rw [z, hx] at b; cases b)).trans b
structure BnTxt (K : PySem.W.Frag) (mg : Str → Option Value) (CB fCps fFed fHof : Addr) : Prop where
  cl : Cls K CB
  nS : NoAttr K CB "site"
  nL : NoAttr K CB "_low_edges"
  nH : NoAttr K CB "_high_edges"
  cps : mg "check_places" = some (.ref fCps)
  fed : mg "find_edges" = some (.ref fFed)
  hof : mg "heights_of" = some (.ref fHof)
  zip : mg "zip" = none
  b_all : mg "all" = none
def spBini (K : PySem.W.Frag) (CS CT CB : Addr) : Sp := fun vs H Q _ => ∃ (x dx r t : Addr) (ws : List Wal) (ls : List Lnk) (rows : List TRow), vs = [.ref x, .ref r, .ref t] ∧ H x = some (.ins CB dx []) ∧ SiteAt K CS ws ls H r ∧ TrisAt CT H t rows ∧ inPl ws rows ∧ places ws ≤ 50 ∧ Compat (limOf ws ls) rows (places ws) ∧
  ∀ (le he : List Edge) (H1 H' : Hp), Same H H1 → (∀ c, c ≠ x → H' c = H1 c) → BndAt CB H' x r le he → EdgesOk (limOf ws ls) rows (places ws) le he → Q .non H'
theorem mk_bnd {K : PySem.W.Frag} {CS CT CB r t : Addr} {ws : List Wal} {ls : List Lnk} {rows : List TRow} {H1 : Hp} {Q : VK} {E : XK} (hS : SiteAt K CS ws ls H1 r) (hT : TrisAt CT H1 t rows) (hin : inPl ws rows) (h50 : places ws ≤ 50) (hc : Compat (limOf ws ls) rows (places ws))
    (k : ∀ (x : Addr) (le he : List Edge) (H' : Hp), H1 x = none → Same H1 H' → BndAt CB H' x r le he → EdgesOk (limOf ws ls) rows (places ws) le he → Q (.ref x) H') : Own.MkS CB (spBini K CS CT CB) E [.ref r, .ref t] H1 Q := ⟨fun x dx nx ndx nn => by
  have s0 : Same H1 (upd (upd H1 dx (.own x)) x (.ins CB dx [])) := fun b o e => by
    rw [upd_ne (ne_of_none e nx), upd_ne (ne_of_none e ndx)]
    exact e
  refine ⟨x, dx, r, t, ws, ls, rows, rfl, upd_same, hS.same s0, hT.same s0, hin, h50, hc, fun le he H2 H' s b B eo => ⟨rfl, ?_⟩⟩
  exact k x le he H' nx (fun c o e => by
    rw [b c (ne_of_none e nx)]
    exact s _ _ (s0 _ _ e)) B eo⟩
def spBlo (CB : Addr) (f : List Edge → List Edge → List Edge) : Sp := fun vs H Q _ => ∃ (o r : Addr) (le he : List Edge), vs = [.ref o] ∧ BndAt CB H o r le he ∧ le.length ≤ 200 ∧ he.length ≤ 200 ∧ ∀ (u : Addr) (H' : Hp), H u = none → Same H H' → H' u = some (.lst (((f le he).map (·.1)).map V.int)) → Q (.ref u) H'
def btw (le he : List Edge) (x : List Int) (i : Nat) : Bool := decide ((le.map (·.1)).getD i 0 ≤ x.getD i 0) && decide (x.getD i 0 ≤ (he.map (·.1)).getD i 0)
def inB (le he : List Edge) (x : List Int) : Bool := ((List.range x.length).map (btw le he x)).all id
def spBcon (K : PySem.W.Frag) (CS CB : Addr) : Sp := fun vs H Q _ => ∃ (o h r : Addr) (ws : List Wal) (ls : List Lnk) (le he : List Edge) (x : List Int), vs = [.ref o, .ref h] ∧ BndAt CB H o r le he ∧ SiteF K CS ws ls H r ∧ H h = some (.lst (x.map V.int)) ∧ x.length ≤ 100 ∧ linksDue (places ws : Nat) ls = none ∧ (toldOf ws ls).length ≤ 900 ∧
  le.length = places ws ∧ he.length = places ws ∧ ∀ H', Same H H' → Q (.bl (shapeB ws ls x && inB le he x)) H'
theorem getD_of {xs : List Int} {i : Nat} (h : i < xs.length) : xs.getD i 0 = xs[i] := by
  rw [List.getD_eq_getElem?_getD, List.getElem?_eq_getElem h]
  rfl
section
variable {P : Program} {w : World} {K : PySem.W.Frag} {mg : Str → Option Value} {base : Heap} {CS CT CB fCps fFed fHof : Addr}
theorem scBini : FnScope ["self", "site", "trials", "edges"] ["self", "site", "trials"] (defScope sBini) := ⟨rfl, rfl, rfl, by decide +kernel, rfl, by decide +kernel, by decide +kernel⟩
theorem scBlo : FnScope ["self"] ["self"] (defScope sBlo) := ⟨rfl, rfl, rfl, by decide +kernel, rfl, by decide +kernel, by decide +kernel⟩
theorem scBhi : FnScope ["self"] ["self"] (defScope sBhi) := ⟨rfl, rfl, rfl, by decide +kernel, rfl, by decide +kernel, by decide +kernel⟩
theorem scBcon : FnScope ["self", "heights", "low", "height", "high"] ["self", "heights"] (defScope sBcon) := ⟨rfl, rfl, rfl, by decide +kernel, rfl, by decide +kernel, by decide +kernel⟩
set_option maxHeartbeats 0 in
theorem ok_bini {f aD : Addr} {fd fdCps fdFed : FuncData} (F : FunD K "__init__" "Bounds.__init__" (defArgs sBini) (defBody sBini) (defScope sBini) [.ref aD] [] f fd)
    (GCps : FnOk P w K mg base CX0 2 fCps fdCps ["site", "trials"] (spCps K CS CT)) (FCps : Fun K "check_places" "check_places" sCps fCps fdCps) (bCps : Binds K fdCps ["site", "trials"] [])
    (GFed : FnOk P w K mg base CX0 7 fFed fdFed ["site", "trials"] (spFed K CS CT)) (FFed : Fun K "find_edges" "find_edges" sFed fFed fdFed) (bFed : Binds K fdFed ["site", "trials"] [])
    (T : BnTxt K mg CB fCps fFed fHof) : FnOk P w K mg base CX0 8 f fd ["self", "site", "trials"] (spBini K CS CT CB) := by
  refine F.ok scBini (fun vs H Q E h => ?_) (fun cdv A outer s H vs Q E hr h => ?_)
  · obtain ⟨x, dx, r, t, ws, ls, rows, rfl, _⟩ := h
    rfl
  · obtain ⟨x, dx, r, t, ws, ls, rows, rfl, hx, hS, hT, hin, h50, hc, k⟩ := h
    have hr7 : Room 7 _ := hr.mono (by decide)
    have hr2 : Room 2 _ := hr.mono (by decide)
    refine ⟨_, (pss_cons (ps_expr (pe_call GCps hr2 rfl T.cps FCps.kp bCps .nil pass0 (pa_cons (pv 1) (pa_cons (pv 2) pa_nil))))
      (pss_cons (ps_set (i := 3) scBini.nd rfl (Or.inl rfl) (pe_call GFed hr7 rfl T.fed FFed.kp bFed .nil pass0 (pa_cons (pv 1) (pa_cons (pv 2) pa_nil))))
      (pss_cons (ps_if (pt_cmpR op_isN (pv 3) pe_non (nomark _)) (pss_one ps_no) pss_nil)
      (pss_cons (ps_fld (pv 0) (pv 1) rfl)
      (pss_one (ps_asg (pv 3) (pg_tup (n := 2) (by rfl) (pgs_cons (Own.pg_fld (pv 0)) (pgs_cons (Own.pg_fld (pv 0)) pgs_nil))))))))) , ?_⟩
    refine ⟨_, rfl, _, rfl, r, t, ws, ls, rows, rfl, hS, hT, hin, ?_⟩
    refine ⟨_, rfl, _, rfl, r, t, ws, ls, rows, rfl, hS, hT, hin, h50, hc, fun u pl ph le he H2 S2 u2 L1 L2 eo => ?_⟩
    have hx2 := S2 _ _ hx
    have ne : x ≠ u := fun z => by rw [z, u2] at hx2; cases hx2
    refine ⟨_, rfl, rfl, _, rfl, if_f rfl ?_⟩
    refine ⟨_, rfl, _, rfl, x, CB, dx, [], rfl, hx2, T.cl, T.nS, by show 0 < 1000; decide, ?_⟩
    refine ⟨_, rfl, u, _, rfl, SqT.of ((upd_ne (Ne.symm ne)).trans u2), rfl, _, _, rfl, ⟨_, rfl, x, CB, dx, _, rfl, upd_same, T.cl, T.nL, by show 1 < 1000; decide, _, _, rfl, ⟨_, rfl, x, CB, dx, _, rfl, upd_same, T.cl, T.nH, by show 2 < 1000; decide, rfl, ?_⟩⟩⟩
    rw [upd_upd, upd_upd]
    refine k le he H2 _ S2 (fun c hc => upd_ne hc) ⟨dx, _, pl, ph, upd_same, rfl, rfl, rfl, ?_, L1.updI hx2, L2.updI hx2⟩ eo
    intro m hm
    simp only [List.mem_cons, List.not_mem_nil, or_false] at hm
    rcases hm with rfl | rfl | rfl <;> rfl
theorem ok_blo {f : Addr} {fd fdHof : FuncData} (F : Fun K "lows" "Bounds.lows" sBlo f fd) (GHof : FnOk P w K mg base CX0 1 fHof fdHof ["edges"] spHof) (FHof : Fun K "heights_of" "heights_of" sHof fHof fdHof) (bHof : Binds K fdHof ["edges"] [])
    (T : BnTxt K mg CB fCps fFed fHof) : FnOk P w K mg base CX0 2 f fd ["self"] (spBlo CB fun le _ => le) := by
  refine F.ok scBlo (fun vs H Q E h => ?_) (fun cdv A outer s H vs Q E hr h => ?_)
  · obtain ⟨o, r, le, he, rfl, _⟩ := h
    rfl
  · obtain ⟨o, r, le, he, rfl, hB, h200, _, k⟩ := h
    have hr1 : Room 1 _ := hr.mono (by decide)
    refine ⟨_, (pss_one (ps_ret (pe_call GHof hr1 rfl T.hof FHof.kp bHof .nil pass0 (pa_cons (pe_fld (pv 0) rfl) pa_nil)))), ?_⟩
    obtain ⟨dx, fs, pl, ph, h0, f1, f2, f3, f4, L1, L2⟩ := hB
    exact ⟨_, rfl, o, CB, dx, fs, _, rfl, h0, T.cl, T.nL, f2, pl, le, rfl, L1, h200, fun u H' hu s e => k u H' hu s e⟩
theorem ok_bhi {f : Addr} {fd fdHof : FuncData} (F : Fun K "highs" "Bounds.highs" sBhi f fd) (GHof : FnOk P w K mg base CX0 1 fHof fdHof ["edges"] spHof) (FHof : Fun K "heights_of" "heights_of" sHof fHof fdHof) (bHof : Binds K fdHof ["edges"] [])
    (T : BnTxt K mg CB fCps fFed fHof) : FnOk P w K mg base CX0 2 f fd ["self"] (spBlo CB fun _ he => he) := by
  refine F.ok scBhi (fun vs H Q E h => ?_) (fun cdv A outer s H vs Q E hr h => ?_)
  · obtain ⟨o, r, le, he, rfl, _⟩ := h
    rfl
  · obtain ⟨o, r, le, he, rfl, hB, _, h200, k⟩ := h
    have hr1 : Room 1 _ := hr.mono (by decide)
    refine ⟨_, (pss_one (ps_ret (pe_call GHof hr1 rfl T.hof FHof.kp bHof .nil pass0 (pa_cons (pe_fld (pv 0) rfl) pa_nil)))), ?_⟩
    obtain ⟨dx, fs, pl, ph, h0, f1, f2, f3, f4, L1, L2⟩ := hB
    exact ⟨_, rfl, o, CB, dx, fs, _, rfl, h0, T.cl, T.nH, f3, ph, he, rfl, L2, h200, fun u H' hu s e => k u H' hu s e⟩
set_option maxHeartbeats 0 in
theorem ok_bcon {f fFi fLo fHi : Addr} {fd : FuncData} (F : Fun K "__contains__" "Bounds.__contains__" sBcon f fd) (GFi : FnR P w K mg base CX0 1 fFi (spSfi K CS)) (MFi : Meth K CS "fits" fFi)
    (GLo : FnR P w K mg base CX0 2 fLo (spBlo CB fun le _ => le)) (MLo : Meth K CB "lows" fLo) (GHi : FnR P w K mg base CX0 2 fHi (spBlo CB fun _ he => he)) (MHi : Meth K CB "highs" fHi) (TS : MeTxt K mg CS) (TB : BnTxt K mg CB fCps fFed fHof) (T : BnTxt K mg CB fCps fFed fHof) :
    FnOk P w K mg base CX0 3 f fd ["self", "heights"] (spBcon K CS CB) := by
  refine F.ok scBcon (fun vs H Q E h => ?_) (fun cdv A outer s H vs Q E hr h => ?_)
  · obtain ⟨o, h, r, ws, ls, le, he, x, rfl, _⟩ := h
    rfl
  · obtain ⟨o, hd, r, ws, ls, le, he, x, rfl, hB, hS, hx, xl, hld, tl, l1, l2, k⟩ := h
    have hr1 : Room 1 _ := hr.mono (by decide)
    have hr2 : Room 2 _ := hr.mono (by decide)
    refine ⟨_, (pss_cons (ps_if (pt_not (pt_val (Own.pe_methW (E := fun _ => E0) (pe_fld (pv 0) rfl) TS.cl MFi GFi hr1 (passS pass0) (pa_cons (pv 1) pa_nil)))) (pss_one (ps_ret pe_bl)) pss_nil)
      (pss_one (ps_ret (pe_callB (cr_all (by rfl)) (by rfl) T.b_all (by decide +kernel) (pa_cons (pe_lc (own := [("low", 2), ("height", 3), ("high", 4)]) (g := (gTup K 3 (gCons (gName 2) (gCons (gName 3) (gCons (gName 4) gNil))))) (tt := tYes) (by rfl) scBcon.nd (Zip3.pi_zip3 (by rfl) T.zip (pa_cons (Own.pe_methW0 (E := fun _ => E0) (pv 0) TB.cl MLo GLo hr2 (passS pass0)) (pa_cons (pv 1) (pa_cons (Own.pe_methW0 (E := fun _ => E0) (pv 0) TB.cl MHi GHi hr2 (passS pass0)) pa_nil)))) (blkOk_by (own := [("low", 2), ("height", 3), ("high", 4)]) (N := ["self", "heights", "low", "height", "high"]) (sc := defScope sBcon) (by decide +kernel)) (fun _ _ _ _ _ => by exact (pg_tup (n := 3) rfl (pgs_cons (pg_name (i := 2) scBcon.nd rfl (Or.inl rfl)) (pgs_cons (pg_name (i := 3) scBcon.nd rfl (Or.inl rfl)) (pgs_cons (pg_name (i := 4) scBcon.nd rfl (Or.inl rfl)) pgs_nil))))) (fun _ _ _ _ _ => pts_nil) (fun _ _ _ _ _ => (pe_chain op_le op_le (pv 2) (pv 3) (pv 4)))) pa_nil))))), ?_⟩
    obtain ⟨dx, fs, pl, ph, h0, f1, f2, f3, f4, L1, L2⟩ := id hB
    obtain ⟨dxS, fsS, ptd, h0S, f1S, g1S, _⟩ := id hS
    refine ⟨_, rfl, o, CB, dx, fs, _, rfl, h0, TB.cl, TB.nS, f1, r, dxS, fsS, rfl, h0S, g1S, _, rfl, r, hd, ws, ls, x, rfl, hS, hx, xl, hld, tl, fun H1 S1 => ⟨_, rfl, ?_⟩⟩
    cases hsb : shapeB ws ls x with
    | false =>
      rw [hsb] at k
      refine if_t rfl ?_
      exact k _ S1
    | true =>
      rw [hsb, Bool.true_and] at k
      refine if_f rfl ?_
      have xn : x.length = places ws := by
        unfold shapeB at hsb
        rw [Bool.and_eq_true] at hsb
        exact of_decide_eq_true hsb.1
      have B1 := hB.same S1
      refine ⟨_, rfl, o, dx, fs, rfl, S1 _ _ h0, f4 _ (by decide), o, r, le, he, rfl, B1, by omega, by omega, fun ul H2 hul S2 e2 => ?_⟩
      have e2 : H2 ul = some (.lst ((le.map (·.1)).map V.int)) := e2
      have B2 := B1.same S2
      refine ⟨_, rfl, _, rfl, o, dx, fs, rfl, S2 _ _ (S1 _ _ h0), f4 _ (by decide), o, r, le, he, rfl, B2, by omega, by omega, fun uh H3 huh S3 e3 => ?_⟩
      have e3 : H3 uh = some (.lst ((he.map (·.1)).map V.int)) := e3
      have e23 := S3 _ _ e2
      have S13 := same_tr S1 (same_tr S2 S3)
      have hx3 := S13 _ _ hx
      refine ⟨ul, hd, uh, _, _, _, rfl, SqL.of e23, SqL.of hx3, SqL.of e3, fun D hD => ?_⟩
      refine lc_it (Zip3.walk_zip3 (by rw [List.length_map, List.length_map, List.length_map]; omega) (by rw [List.length_map, List.length_map, List.length_map, List.length_map]; omega)) (LcP D H3 fun i => some (V.bl (btw le he x i))) (LcP.start hD) (fun _ _ _ h => ⟨SqL.of (h.2 _ _ e23), SqL.of (h.2 _ _ hx3), SqL.of (h.2 _ _ e3)⟩) ?_ ?_
      · rintro i y H4 H5 hi B ⟨T0, x0, y0, z0, hx0, hy0, hz0, rfl, hT0, rfl⟩
        rw [List.length_map, List.length_map] at hi
        have il : i < (le.map (·.1)).length := by rw [List.length_map]; exact hi
        have ih : i < (he.map (·.1)).length := by rw [List.length_map]; omega
        have ix : i < x.length := by omega
        rw [List.getElem?_map, List.getElem?_eq_getElem il] at hx0
        rw [List.getElem?_map, List.getElem?_eq_getElem ix] at hy0
        rw [List.getElem?_map, List.getElem?_eq_getElem ih] at hz0
        cases hx0
        cases hy0
        cases hz0
        have eb : btw le he x i = (decide ((le.map (·.1))[i] ≤ x[i]) && decide (x[i] ≤ (he.map (·.1))[i])) := by
          unfold btw
          rw [getD_of il, getD_of ix, getD_of ih]
        generalize (le.map (·.1))[i] = a at hT0 B eb ⊢
        generalize (he.map (·.1))[i] = b at hT0 B eb ⊢
        generalize x[i] = c at hT0 B eb ⊢
        have sT := same_new (o := .tup [V.int a, V.int c, V.int b]) hT0
        refine ⟨T0, _, rfl, SqT.of upd_same, rfl, _, _, rfl, _, _, rfl, _, _, rfl, rfl, rfl, _, rfl, _, rfl, _, _, rfl, rfl, _, rfl, ite2 (fun q => ?_) (fun q => ?_)⟩
        · have q : a ≤ c := of_decide_eq_true q
          refine ⟨_, rfl, _, _, rfl, rfl, B.push hD sT ?_ (by omega)⟩
          rw [eb, decide_eq_true q, Bool.true_and]
        · have q : ¬ a ≤ c := fun z => q (decide_eq_true z)
          refine B.push hD sT ?_ (by omega)
          rw [eb, decide_eq_false q, Bool.false_and]
      rintro H4 ⟨b1, S4⟩
      rw [List.length_map, List.length_map, l1, ← xn] at b1
      have ef : (List.range x.length).filterMap (fun i => some (V.bl (btw le he x i))) = ((List.range x.length).map (btw le he x)).map V.bl := by
        rw [List.map_map]
        simp [List.filterMap_eq_map, Function.comp_def]
      rw [ef] at b1
      exact ⟨D, _, rfl, SqL.of b1, k _ (same_tr S13 S4)⟩
end
end Law

/-! The rows of the law: trials drawn, made, judged. -/
namespace Law
open PySem PySem.Spec PyProof.Rows L2 Sup ItSeq
abbrev sTrs : Stmt := top 63
abbrev sTrl : Stmt := top 64
abbrev sBig : Stmt := top 65
abbrev sTrw : Stmt := top 66
abbrev sAgr : Stmt := top 69
abbrev sSay : Stmt := top 70
abbrev Tr := TRow
def rowV (q : Tr) : List V := [.int q.1, .int q.2.1, .bl q.2.2]
def RowsT (H : Hp) (ts : List Addr) (rows : List Tr) : Prop := ts.length = rows.length ∧ ∀ (i : Nat) (t : Addr) (q : Tr), ts[i]? = some t → rows[i]? = some q → H t = some (.tup (rowV q))
theorem RowsT.same {H H' : Hp} {ts : List Addr} {rows : List Tr} (h : RowsT H ts rows) (s : Same H H') : RowsT H' ts rows := ⟨h.1, fun i t q e1 e2 => s _ _ (h.2 i t q e1 e2)⟩
theorem RowsT.sameB {H H' : Hp} {b l : Addr} {ts : List Addr} {rows : List Tr} (h : RowsT H ts rows) (B : Box H b l) (s : SameB b H H') : RowsT H' ts rows := ⟨h.1, fun i t q e1 e2 => s _ _ (B.neT (h.2 i t q e1 e2)) (h.2 i t q e1 e2)⟩
theorem RowsT.keep {H H' : Hp} {ts : List Addr} {rows : List Tr} (h : RowsT H ts rows) (s : ∀ c xs, H c = some (.tup xs) → H' c = some (.tup xs)) : RowsT H' ts rows := ⟨h.1, fun i t q e1 e2 => s _ _ (h.2 i t q e1 e2)⟩
theorem RowsT.snoc {H : Hp} {ts : List Addr} {rows : List Tr} {t : Addr} {q : Tr} (h : RowsT H ts rows) (e : H t = some (.tup (rowV q))) : RowsT H (ts ++ [t]) (rows ++ [q]) := by
  refine ⟨by rw [List.length_append, List.length_append, h.1]; rfl, fun i u z e1 e2 => ?_⟩
  by_cases c : i < ts.length
  · rw [List.getElem?_append_left c] at e1
    rw [List.getElem?_append_left (by rw [← h.1]; exact c)] at e2
    exact h.2 i u z e1 e2
  · rw [List.getElem?_append_right (by omega)] at e1
    rw [List.getElem?_append_right (by rw [← h.1]; omega), ← h.1] at e2
    have i0 : i - ts.length = 0 := by
      have := (List.getElem?_eq_some_iff.mp e1).1
      simp at this
      omega
    rw [i0] at e1 e2
    cases e1
    cases e2
    exact e
theorem Box.neNs0 {H : Hp} {b l c : Addr} {xs : List Int} (B : Box H b l) (h : H c = some (.lst (xs.map V.int))) : c ≠ b := fun z => by
  obtain ⟨ns, i, q, s, h1, _⟩ := B
  rw [z, h1] at h
  have e := HO.lst.inj (Option.some.inj h)
  cases xs with
  | nil => cases e
  | cons n ns => cases e
def Near (n : Nat) (q : Tr) : Prop := 0 ≤ q.1 ∧ q.1 < n ∧ q.2.1.natAbs ≤ 10 ^ 31
def spTrs : Sp := fun vs H Q _ => ∃ (b l c : Addr) (xs : List Int) (n tall : Int), vs = [.ref b, .ref c, .int n, .int tall] ∧ Box H b l ∧ H c = some (.lst (xs.map V.int)) ∧ 0 < xs.length ∧ xs.length ≤ 24 ∧ (∀ x ∈ xs, x.natAbs ≤ 10 ^ 30) ∧ 0 ≤ n ∧ n ≤ 60 ∧ 0 ≤ tall ∧ tall ≤ 10 ^ 20 ∧
  ∀ (D : Addr) (ts : List Addr) (rows : List Tr) (H' : Hp), H D = none → H' D = some (.lst (ts.map V.ref)) → RowsT H' ts rows → rows.length = n.toNat → (∀ q ∈ rows, Near xs.length q) → Box H' b l → SameB b H H' → Q (.ref D) H'
def RwAt (H : Hp) (p : Addr) (rows : List TRow) : Prop := ∃ ts : List Addr, H p = some (.lst (ts.map V.ref)) ∧ RowsT H ts rows
theorem RwAt.same {H H' : Hp} {p : Addr} {rows : List TRow} (h : RwAt H p rows) (s : Same H H') : RwAt H' p rows := by
  obtain ⟨ts, h1, h2⟩ := h
  exact ⟨ts, s _ _ h1, h2.same s⟩
theorem RwAt.draw {H H' : Hp} {p b l : Addr} {rows : List TRow} (h : RwAt H p rows) (B : Box H b l) (s : SameB b H H') : RwAt H' p rows := by
  obtain ⟨ts, h1, h2⟩ := h
  exact ⟨ts, s _ _ (B.neL3 h1) h1, h2.sameB B s⟩
def spTrl (CT : Addr) : Sp := fun vs H Q _ => ∃ (a : Addr) (rows : List TRow), vs = [.ref a] ∧ RwAt H a rows ∧ rows.length ≤ 900 ∧
  ∀ (D : Addr) (H' : Hp), H D = none → TrisAt CT H' D rows → Same H H' → Q (.ref D) H'
def trueR (hs : List Int) (r : TRow) : TRow := (r.1, r.2.1, decide (hs.getD r.1.toNat 0 ≤ r.2.1))
def spTrw : Sp := fun vs H Q _ => ∃ (a t : Addr) (rows : List TRow) (hs : List Int), vs = [.ref a, .ref t] ∧ RwAt H a rows ∧ H t = some (.lst (hs.map V.int)) ∧ rows.length ≤ 900 ∧ (∀ r ∈ rows, 0 ≤ r.1 ∧ r.1 < hs.length) ∧
  ∀ (D : Addr) (H' : Hp), H D = none → RwAt H' D (rows.map (trueR hs)) → Same H H' → Q (.ref D) H'
/-- heights agree with a row, with rows -/
def agR (x : List Int) (r : TRow) : Bool := decide (x.getD r.1.toNat 0 ≤ r.2.1) == r.2.2
def agB (x : List Int) (rows : List TRow) : Bool := rows.all (agR x)
def spAgr : Sp := fun vs H Q _ => ∃ (h a : Addr) (x : List Int) (rows : List TRow), vs = [.ref h, .ref a] ∧ H h = some (.lst (x.map V.int)) ∧ RwAt H a rows ∧ (∀ r ∈ rows, 0 ≤ r.1 ∧ r.1 < x.length) ∧ ∀ H', Same H H' → Q (.bl (agB x rows)) H'
def spSay : Sp := fun vs H Q _ => ∃ a b : Bool, vs = [.bl a, .bl b] ∧ Q (.bl (decide (a = b))) H
structure LTxt (mg : Str → Option Value) (CT fT : Addr) : Prop where
  tri : mg "Trial" = some (.ref CT)
  take : mg "_law_take" = some (.ref fT)
  b_len : mg "len" = none
  b_range : mg "range" = none
section
variable {P : Program} {w : World} {K : PySem.W.Frag} {mg : Str → Option Value} {base : Heap} {CT fT : Addr}
theorem scTrs : FnScope ["_law_box_here", "_law_truth_here", "_law_count", "_law_tall", "_law_rows", "_law_k", "_law_place", "_law_height", "_law_wide", "_law_reached"] ["_law_box_here", "_law_truth_here", "_law_count", "_law_tall"] (defScope sTrs) := ⟨rfl, rfl, rfl, by decide +kernel, rfl, by decide +kernel, by decide +kernel⟩
theorem ok_trs {f : Addr} {fd fdT : FuncData} (F : Fun K "_law_tries" "_law_tries" sTrs f fd) (GT : FnOk P w K mg base CX0 1 fT fdT ["_law_box_here", "_law_size"] spTake) (FT : Fun K "_law_take" "_law_take" sTake fT fdT) (bT : Binds K fdT ["_law_box_here", "_law_size"] []) (T : LTxt mg CT fT) :
    FnOk P w K mg base CX0 2 f fd ["_law_box_here", "_law_truth_here", "_law_count", "_law_tall"] spTrs := by
  refine F.ok scTrs (fun vs H Q E h => ?_) (fun cdv A outer s H vs Q E hr h => ?_)
  · obtain ⟨b, l, c, xs, n, tall, rfl, _⟩ := h
    rfl
  · obtain ⟨b, l, c, xs, n, tall, rfl, B, hc, x0, x24, hxs, n0, n60, t0, t20, k⟩ := h
    have hr1 : Room 1 _ := hr
    refine ⟨_, (pss_cons (ps_set (i := 4) scTrs.nd rfl (Or.inl rfl) (pe_lst pa_nil))
      (pss_cons (ps_for PassesOwn.never rfl (pi_range1 (by rfl) T.b_range (pa_cons (pv 2) pa_nil)) (pg_name (i := 5) scTrs.nd rfl (Or.inl rfl)) (pss_cons (ps_set (i := 6) scTrs.nd rfl (Or.inl rfl) (pe_call GT hr1 rfl T.take FT.kp bT .nil pass0 (pa_cons (pv 0) (pa_cons (pe_callB call_len_seq (by rfl) T.b_len PySem.boot_len (pa_cons (pv 1) pa_nil)) pa_nil))))
      (pss_cons (ps_set (i := 7) scTrs.nd rfl (Or.inl rfl) (pe_op op_sub (pe_op op_add (pe_ix ix_list (pv 1) (pv 6) (fun _ _ => rfl)) (pe_call GT hr1 rfl T.take FT.kp bT .nil pass0 (pa_cons (pv 0) (pa_cons pe_int pa_nil)))) pe_int))
      (pss_cons (ps_set (i := 8) scTrs.nd rfl (Or.inl rfl) (pe_op op_sub (pe_call GT hr1 rfl T.take FT.kp bT .nil pass0 (pa_cons (pv 0) (pa_cons (pe_op op_add (pv 3) pe_int) pa_nil))) pe_int))
      (C8.pss_cut (ps_if (pt_cmpR op_eq (pe_call GT hr1 rfl T.take FT.kp bT .nil pass0 (pa_cons (pv 0) (pa_cons pe_int pa_nil))) pe_int (nomark _)) (pss_one (ps_set (i := 7) scTrs.nd rfl (Or.inl rfl) (pv 8))) pss_nil)
      (pss_cons (ps_set (i := 9) scTrs.nd rfl (Or.inl rfl) (pe_cmpR op_le (pe_ix ix_list (pv 1) (pv 6) (fun _ _ => rfl)) (pv 7) (nomark _)))
      (C8.pss_cut (ps_if (pt_cmpR op_eq (pe_call GT hr1 rfl T.take FT.kp bT .nil pass0 (pa_cons (pv 0) (pa_cons pe_int pa_nil))) pe_int (nomark _)) (pss_one (ps_set (i := 9) scTrs.nd rfl (Or.inl rfl) (pe_not (pv 9)))) pss_nil)
      (pss_one (ps_expr (pe_bm PySem.F.plainAttrs_list PySem.F.slot_list_append PySem.F.type_list_append mt_append (pv 4) (pa_cons (pe_tup (pa_cons (pv 6) (pa_cons (pv 7) (pa_cons (pv 9) pa_nil)))) pa_nil)))))))))))
      (pss_one (ps_ret (pv 4))))), ?_⟩
    refine ⟨by show 0 ≤ sizeLine; decide, fun D hD => ?_⟩
    have B1 := B.at (o := .lst []) (B.free hD)
    have nDb := (B.free hD).1
    have nDl := (B.free hD).2
    have nDc : D ≠ c := fun z => by rw [z, hc] at hD; cases hD
    refine ⟨_, rfl, n, rfl, by omega, by omega, for_range (lo := 0) (n := n.toNat) (fun i σ' H' => ∃ (v5 v6 v7 v8 v9 : Option V) (ts : List Addr) (rows : List Tr), σ' = [some (.ref b), some (.ref c), some (.int n), some (.int tall), some (.ref D), v5, v6, v7, v8, v9] ∧
      H' D = some (.lst (ts.map V.ref)) ∧ RowsT H' ts rows ∧ rows.length = i ∧ (∀ q ∈ rows, Near xs.length q) ∧ Box H' b l ∧ SameB b H H')
      ⟨none, none, none, none, none, [], [], rfl, upd_same, ⟨rfl, fun i t q e => nomatch e⟩, rfl, (fun _ h => nomatch h), B1, fun x o nx e => same_new hD _ _ e⟩ ?_ ?_⟩
    · rintro i σ' H' hi ⟨v5, v6, v7, v8, v9, ts, rows, rfl, eD, hT, rl, hN, B2, s2⟩
      have ncb := B.neNs0 hc
      have hc2 := s2 _ _ ncb hc
      refine ⟨_, rfl, _, rfl, c, _, rfl, .inl (SqL.of hc2), b, l, _, rfl, B2, by rw [List.length_map]; omega, size_fit (by rw [List.length_map]; omega) (by rw [List.length_map]; omega), fun p H3 p0 p1 B3 k3 => ?_⟩
      rw [List.length_map] at p1
      have s3 := s2.trans (SameB.of k3)
      have hc3 := s3 _ _ ncb hc
      obtain ⟨z, hz⟩ : ∃ z, xs[p.toNat]? = some z := ⟨_, List.getElem?_eq_getElem (by omega)⟩
      have hz' : atI (xs.map V.int) p = some (V.int z) := by
        obtain ⟨m, rfl⟩ := Int.eq_ofNat_of_zero_le p0
        exact atI_nat (by rw [List.getElem?_map]; simp at hz; rw [hz]; rfl)
      have hzb := hxs z (List.mem_of_getElem? hz)
      refine ⟨_, rfl, _, rfl, c, _, _, _, rfl, rfl, SqL.of hc3, hz', _, rfl, b, l, _, rfl, B3, by decide, by decide, fun g H4 g0 g1 B4 k4 => ⟨_, _, rfl, rfl, _, _, rfl, rfl, ?_⟩⟩
      have s4 := s3.trans (SameB.of k4)
      refine ⟨_, rfl, _, rfl, _, _, rfl, rfl, b, l, _, rfl, B4, by omega, size_fit (by omega) (by omega), fun wd H5 w0 w1 B5 k5 => ⟨_, _, rfl, rfl, ?_⟩⟩
      have s5 := s4.trans (SameB.of k5)
      have eD5 := (k5 D (Ne.symm nDb)).trans ((k4 D (Ne.symm nDb)).trans ((k3 D (Ne.symm nDb)).trans eD))
      have hT5 := ((hT.sameB B2 (SameB.of k3)).sameB B3 (SameB.of k4)).sameB B4 (SameB.of k5)
      refine ⟨fun σ'' H'' => ∃ hh : Int, σ'' = [some (.ref b), some (.ref c), some (.int n), some (.int tall), some (.ref D), some (.int (0 + (i : Int))), some (.int p), some (.int hh), some (.int (wd - 1)), v9] ∧ hh.natAbs ≤ 10 ^ 31 ∧
        H'' D = some (.lst (ts.map V.ref)) ∧ RowsT H'' ts rows ∧ Box H'' b l ∧ SameB b H H'', ?_, ?_⟩
      · refine ⟨_, rfl, b, l, _, rfl, B5, by decide, by decide, fun y H6 y0 y1 B6 k6 => ⟨rfl, _, rfl, ?_⟩⟩
        have s6 := s5.trans (SameB.of k6)
        have eD6 := (k6 D (Ne.symm nDb)).trans eD5
        have hT6 := hT5.sameB B5 (SameB.of k6)
        refine ite2 (fun _ => ?_) fun _ => ?_
        · exact ⟨_, rfl, wd - 1, rfl, by omega, eD6, hT6, B6, s6⟩
        · exact ⟨z + g - 2, rfl, by omega, eD6, hT6, B6, s6⟩
      rintro σ'' H6 ⟨hh, rfl, hh31, eD6, hT6, B6, s6⟩
      have hc6 := s6 _ _ ncb hc
      refine ⟨_, rfl, _, rfl, c, _, _, _, rfl, rfl, SqL.of hc6, hz', _, rfl, _, _, rfl, rfl, ?_⟩
      refine ⟨fun σ'' H'' => ∃ r : Bool, σ'' = [some (.ref b), some (.ref c), some (.int n), some (.int tall), some (.ref D), some (.int (0 + (i : Int))), some (.int p), some (.int hh), some (.int (wd - 1)), some (.bl r)] ∧
        H'' D = some (.lst (ts.map V.ref)) ∧ RowsT H'' ts rows ∧ Box H'' b l ∧ SameB b H H'', ?_, ?_⟩
      · refine ⟨_, rfl, b, l, _, rfl, B6, by decide, by decide, fun y H7 y0 y1 B7 k7 => ⟨rfl, _, rfl, ?_⟩⟩
        have s7 := s6.trans (SameB.of k7)
        have eD7 := (k7 D (Ne.symm nDb)).trans eD6
        have hT7 := hT6.sameB B6 (SameB.of k7)
        refine ite2 (fun _ => ?_) fun _ => ?_
        · exact ⟨_, rfl, _, rfl, _, rfl, eD7, hT7, B7, s7⟩
        · exact ⟨_, rfl, eD7, hT7, B7, s7⟩
      rintro σ'' H7 ⟨r, rfl, eD7, hT7, B7, s7⟩
      refine ⟨_, rfl, .inl ⟨rfl, _, SqL.of eD7⟩, _, rfl, _, rfl, _, rfl, by show 3 ≤ sizeLine; decide, fun t ht => ?_⟩
      have S8 := same_new (o := .tup [V.int p, V.int hh, V.bl r]) ht
      have e8 : upd H7 t (.tup [V.int p, V.int hh, V.bl r]) t = some (.tup (rowV (p, hh, r))) := upd_same
      have rlt := hT.1
      refine ⟨D, _, _, rfl, rfl, S8 _ _ eD7, small1000 (by rw [List.length_map]; omega), ?_⟩
      have kt : ∀ x ys, upd H7 t (.tup [V.int p, V.int hh, V.bl r]) x = some (.tup ys) → upd (upd H7 t (.tup [V.int p, V.int hh, V.bl r])) D (.lst (ts.map V.ref ++ [V.ref t])) x = some (.tup ys) := fun x ys e => by
        rw [upd_ne (fun z => by rw [z, S8 _ _ eD7] at e; cases e)]
        exact e
      refine ⟨_, _, _, _, _, ts ++ [t], rows ++ [(p, hh, r)], rfl, ?_, ((hT7.same S8).snoc e8).keep kt, by rw [List.length_append, rl]; rfl, fun q hq => ?_, ?_, ?_⟩
      · rw [upd_same, List.map_append]
        rfl
      · rcases List.mem_append.mp hq with hq | hq
        · exact hN q hq
        · rw [List.mem_singleton] at hq
          subst hq
          exact ⟨p0, p1, hh31⟩
      · exact (B7.same S8).at ⟨nDb, nDl⟩
      · intro x o nx e
        rw [upd_ne (ne_of_none e hD)]
        exact S8 _ _ (s7 x o nx e)
    · rintro σ' H' ⟨v5, v6, v7, v8, v9, ts, rows, rfl, eD, hT, rl, hN, B2, s2⟩
      exact ⟨_, rfl, k D ts rows H' hD eD hT rl hN B2 s2⟩
theorem scTrl : FnScope ["_law_rows", "_law_row"] ["_law_rows"] (defScope sTrl) := ⟨rfl, rfl, rfl, by decide +kernel, rfl, by decide +kernel, by decide +kernel⟩
theorem ok_trl {f fI : Addr} {fd : FuncData} (F : Fun K "_law_trials" "_law_trials" sTrl f fd) (MK : Mk K CT fI) (GI : FnR P w K mg base CX0 1 fI (spTini CT)) (T : LTxt mg CT fT) : FnOk P w K mg base CX0 3 f fd ["_law_rows"] (spTrl CT) := by
  refine F.ok scTrl (fun vs H Q E h => ?_) (fun cdv A outer s H vs Q E hr h => ?_)
  · obtain ⟨a, rows, rfl, _⟩ := h
    rfl
  · obtain ⟨a, rows, rfl, ⟨ts, ha, hT⟩, h900, k⟩ := h
    have hr2 : Room 2 _ := hr
    refine ⟨_, (pss_one (ps_ret (pe_lc (own := [("_law_row", 1)]) (g := gName 1) (tt := tYes) (by rfl) scTrl.nd (pi_list (pv 0)) (blkOk_by (own := [("_law_row", 1)]) (N := ["_law_rows", "_law_row"]) (sc := defScope sTrl) (by decide +kernel)) (fun _ _ _ _ _ => pg_name (i := 1) scTrl.nd rfl (Or.inl rfl)) (fun _ _ _ _ _ => pts_nil)
        (fun _ _ _ _ _ => (Own.pe_makeS (E := fun _ => E0) MK GI hr2 rfl T.tri (passS pass0) (pa_cons (pe_ix (r := rIxT K) ix_tup (pv 1) pe_int (fun _ _ => rfl)) (pa_cons (pe_ix (r := rIxT K) ix_tup (pv 1) pe_int (fun _ _ => rfl)) (pa_cons (pe_ix (r := rIxT K) ix_tup (pv 1) pe_int (fun _ _ => rfl)) pa_nil)))))))), ?_⟩
    refine ⟨_, rfl, a, rfl, ⟨_, SqL.of ha⟩, fun D hD => ?_⟩
    have nD : D ≠ a := fun z => by rw [z, ha] at hD; cases hD
    refine lc_list (K := K) (a := a) (xs := ts.map V.ref) (fun i H' => ∃ us : List Addr, H' D = some (.lst (us.map V.ref)) ∧ us.length = i ∧ (∀ (j : Nat) (u : Addr) (q : Tr), us[j]? = some u → rows[j]? = some q → Tri CT H' u q.1 q.2.1 q.2.2) ∧ Same H H')
      ⟨[], upd_same, rfl, (fun _ _ _ h => nomatch h), same_new hD⟩ (fun i H' _ p => by obtain ⟨_, _, _, _, S⟩ := p; exact SqL.of (S _ _ ha)) ?_ ?_
    · rintro i y H' hi ⟨us, eD, ul, hU, S⟩
      rw [List.getElem?_map] at hi
      obtain ⟨t, ht, rfl⟩ : ∃ t, ts[i]? = some t ∧ y = V.ref t := by
        cases e : ts[i]? with
        | none => rw [e] at hi; cases hi
        | some t => rw [e] at hi; exact ⟨t, rfl, (Option.some.inj hi).symm⟩
      have hit := (List.getElem?_eq_some_iff.mp ht).1
      obtain ⟨q, hq⟩ : ∃ q, rows[i]? = some q := ⟨_, List.getElem?_eq_getElem (by rw [← hT.1]; exact hit)⟩
      have et := S _ _ (hT.2 i t q ht hq)
      refine ⟨rfl, _, rfl, t, _, _, _, rfl, rfl, SqT.of et, rfl, _, rfl, t, _, _, _, rfl, rfl, SqT.of et, rfl, _, rfl, t, _, _, _, rfl, rfl, SqT.of et, rfl, ?_⟩
      refine mk_tri fun u H2 hu S2 hU2 => ?_
      have hil := hT.1
      have nu : u ≠ D := fun z => by rw [z, eD] at hu; cases hu
      refine ⟨_, S2 _ _ eD, small1000 (by rw [List.length_map]; omega), us ++ [u], ?_, by rw [List.length_append, ul]; rfl, fun j v q' e1 e2 => ?_, fun x o e => ?_⟩
      · rw [upd_same, List.map_append]
        rfl
      · have kp : ∀ {v : Addr} {p h : Int} {r : Bool}, Tri CT H2 v p h r → Tri CT (upd H2 D (.lst (us.map V.ref ++ [V.ref u]))) v p h r := fun ⟨dx, fs, g1, g2⟩ => ⟨dx, fs, by rw [upd_ne (fun z => by rw [z, S2 _ _ eD] at g1; cases g1)]; exact g1, g2⟩
        by_cases c : j < us.length
        · rw [List.getElem?_append_left c] at e1
          exact kp ((hU j v q' e1 e2).same S2)
        · rw [List.getElem?_append_right (by omega)] at e1
          have j0 : j - us.length = 0 := by
            have := (List.getElem?_eq_some_iff.mp e1).1
            simp at this
            omega
          rw [j0] at e1
          have ej : j = i := by omega
          rw [ej, hq] at e2
          cases e1
          cases e2
          exact kp hU2
      · rw [upd_ne (ne_of_none e hD)]
        exact S2 _ _ (S _ _ e)
    · rintro H' ⟨us, eD, ul, hU, S⟩
      rw [List.length_map] at ul
      exact k D H' hD ⟨us, eD, ul.trans hT.1, hU⟩ S
theorem scTrw : FnScope ["_law_rows", "_law_truth_here", "_law_row"] ["_law_rows", "_law_truth_here"] (defScope sTrw) := ⟨rfl, rfl, rfl, by decide +kernel, rfl, by decide +kernel, by decide +kernel⟩
theorem ok_trw {f : Addr} {fd : FuncData} (F : Fun K "_law_true" "_law_true" sTrw f fd) : FnOk P w K mg base CX0 1 f fd ["_law_rows", "_law_truth_here"] spTrw := by
  refine F.ok scTrw (fun vs H Q E h => ?_) (fun cdv A outer s H vs Q E hr h => ?_)
  · obtain ⟨a, t, rows, hs, rfl, _⟩ := h
    rfl
  · obtain ⟨a, tr, rows, hs, rfl, ⟨ts, ha, hT⟩, ht, h900, hin, k⟩ := h
    refine ⟨_, (pss_one (ps_ret (pe_lc (own := [("_law_row", 2)]) (g := gName 2) (tt := tYes) (by rfl) scTrw.nd (pi_list (pv 0)) (blkOk_by (own := [("_law_row", 2)]) (N := ["_law_rows", "_law_truth_here", "_law_row"]) (sc := defScope sTrw) (by decide +kernel)) (fun _ _ _ _ _ => pg_name (i := 2) scTrw.nd rfl (Or.inl rfl)) (fun _ _ _ _ _ => pts_nil)
        (fun _ _ _ _ _ => (pe_tup (pa_cons (pe_ix (r := rIxT K) ix_tup (pv 2) pe_int (fun _ _ => rfl)) (pa_cons (pe_ix (r := rIxT K) ix_tup (pv 2) pe_int (fun _ _ => rfl)) (pa_cons (pe_cmpR op_le (pe_ix (r := rIxL K) ix_list (pv 1) (pe_ix (r := rIxT K) ix_tup (pv 2) pe_int (fun _ _ => rfl)) (fun _ _ => rfl)) (pe_ix (r := rIxT K) ix_tup (pv 2) pe_int (fun _ _ => rfl)) (nomark _)) pa_nil)))))))), ?_⟩
    refine ⟨_, rfl, a, rfl, ⟨_, SqL.of ha⟩, fun D hD => ?_⟩
    have nD : D ≠ a := fun z => by rw [z, ha] at hD; cases hD
    refine lc_list (K := K) (a := a) (xs := ts.map V.ref) (fun i H' => ∃ us : List Addr, H' D = some (.lst (us.map V.ref)) ∧ RowsT H' us ((rows.take i).map (trueR hs)) ∧ Same H H')
      ⟨[], upd_same, ⟨rfl, (fun _ _ _ h => nomatch h)⟩, same_new hD⟩ (fun i H' _ p => by obtain ⟨_, _, _, S⟩ := p; exact SqL.of (S _ _ ha)) ?_ ?_
    · rintro i y H' hi ⟨us, eD, hU, S⟩
      rw [List.getElem?_map] at hi
      obtain ⟨t, ht', rfl⟩ : ∃ t, ts[i]? = some t ∧ y = V.ref t := by
        cases e : ts[i]? with
        | none => rw [e] at hi; cases hi
        | some t => rw [e] at hi; exact ⟨t, rfl, (Option.some.inj hi).symm⟩
      have hit := (List.getElem?_eq_some_iff.mp ht').1
      have hil := hT.1
      obtain ⟨q, hq⟩ : ∃ q, rows[i]? = some q := ⟨_, List.getElem?_eq_getElem (by rw [← hT.1]; exact hit)⟩
      have et := S _ _ (hT.2 i t q ht' hq)
      obtain ⟨q0, q1⟩ := hin q (List.mem_of_getElem? hq)
      obtain ⟨z, hz⟩ : ∃ z, hs[q.1.toNat]? = some z := ⟨_, List.getElem?_eq_getElem (by omega)⟩
      have hz' : atI (hs.map V.int) q.1 = some (V.int z) := by
        obtain ⟨m, em⟩ := Int.eq_ofNat_of_zero_le q0
        rw [em] at hz ⊢
        exact atI_nat (by rw [List.getElem?_map]; simp at hz; rw [hz]; rfl)
      have ez : hs.getD q.1.toNat 0 = z := by rw [List.getD_eq_getElem?_getD, hz]; rfl
      refine ⟨rfl, _, rfl, t, _, _, _, rfl, rfl, SqT.of et, rfl, _, rfl, t, _, _, _, rfl, rfl, SqT.of et, rfl, _, rfl, _, rfl, t, _, _, _, rfl, rfl, SqT.of et, rfl, tr, _, _, _, rfl, rfl, SqL.of (S _ _ ht), hz', _, rfl, t, _, _, _, rfl, rfl, SqT.of et, rfl, _, _, rfl, rfl, by show 3 ≤ sizeLine; decide, fun u hu => ?_⟩
      have S8 := same_new (o := .tup [V.int q.1, V.int q.2.1, V.bl (decide (z ≤ q.2.1))]) hu
      have e8 : upd H' u (.tup [V.int q.1, V.int q.2.1, V.bl (decide (z ≤ q.2.1))]) u = some (.tup (rowV (trueR hs q))) := by
        rw [upd_same]
        unfold trueR rowV
        rw [ez]
      have ul := hU.1
      rw [List.length_map, List.length_take] at ul
      have eD8 := S8 _ _ eD
      have hU8 := hU.same S8
      generalize upd H' u (.tup [V.int q.1, V.int q.2.1, V.bl (decide (z ≤ q.2.1))]) = H8 at S8 e8 eD8 hU8
      have kt : ∀ x ys, H8 x = some (.tup ys) → upd H8 D (.lst (us.map V.ref ++ [V.ref u])) x = some (.tup ys) := fun x ys e => by
        rw [upd_ne (fun z => by rw [z, eD8] at e; cases e)]
        exact e
      refine ⟨_, eD8, small1000 (by rw [List.length_map]; omega), us ++ [u], ?_, ?_, fun x o e => ?_⟩
      · rw [upd_same, List.map_append]
        rfl
      · rw [List.take_succ, hq, List.map_append]
        exact (hU8.snoc e8).keep kt
      · rw [upd_ne (ne_of_none e hD)]
        exact S8 _ _ (S _ _ e)
    · rintro H' ⟨us, eD, hU, S⟩
      rw [List.length_map, hT.1, List.take_length] at hU
      exact k D H' hD ⟨us, eD, hU⟩ S
theorem scAgr : FnScope ["_law_heights", "_law_rows", "_law_place", "_law_height", "_law_reached"] ["_law_heights", "_law_rows"] (defScope sAgr) := ⟨rfl, rfl, rfl, by decide +kernel, rfl, by decide +kernel, by decide +kernel⟩
set_option maxHeartbeats 0 in
theorem ok_agr {f : Addr} {fd : FuncData} (F : Fun K "_law_agrees" "_law_agrees" sAgr f fd) : FnOk P w K mg base CX0 1 f fd ["_law_heights", "_law_rows"] spAgr := by
  refine F.ok scAgr (fun vs H Q E h => ?_) (fun cdv A outer s H vs Q E hr h => ?_)
  · obtain ⟨h, a, x, rows, rfl, _⟩ := h
    rfl
  · obtain ⟨h, a, x, rows, rfl, hx, ⟨ts, ha, hT⟩, hin, k⟩ := h
    refine ⟨_, (pss_cons (ps_for PassesOwn.never rfl (pi_list (pv 1)) (pg_tup (by rfl) (pgs_cons (pg_name (i := 2) scAgr.nd rfl (Or.inl rfl)) (pgs_cons (pg_name (i := 3) scAgr.nd rfl (Or.inl rfl)) (pgs_cons (pg_name (i := 4) scAgr.nd rfl (Or.inl rfl)) pgs_nil)))) (pss_one (ps_if (pt_cmpR op_ne (pe_cmpR op_le (pe_ix ix_list (pv 0) (pv 2) (fun _ _ => rfl)) (pv 3) (nomark _)) (pv 4) (nomark _)) (pss_one (ps_ret pe_bl)) pss_nil)))
      (pss_one (ps_ret pe_bl))), ?_⟩
    have hil := hT.1
    refine ⟨_, rfl, a, rfl, ⟨_, SqL.of ha⟩, ?_⟩
    refine for_it (walk_list (xs := ts.map V.ref)) (fun i σ' H' => ∃ v2 v3 v4 : Option V, σ' = [some (.ref h), some (.ref a), v2, v3, v4] ∧ H' = H ∧ agB x (rows.take i) = true)
      ⟨_, _, _, rfl, rfl, rfl⟩ (fun i σ' H' _ h => by obtain ⟨_, _, _, _, rfl, _⟩ := h; exact SqL.of ha) ?_ ?_
    · rintro i y σ' H2 H3 hi ⟨v2, v3, v4, rfl, rfl, ft⟩ ⟨rfl, hy⟩
      rw [List.length_map] at hi
      rw [List.getElem?_map, List.getElem?_eq_getElem hi] at hy
      cases hy
      obtain ⟨q, hq⟩ : ∃ e, rows[i]? = some e := ⟨_, List.getElem?_eq_getElem (by omega)⟩
      have et := hT.2 i _ q (List.getElem?_eq_getElem hi) hq
      obtain ⟨q0, q1⟩ := hin q (List.mem_of_getElem? hq)
      obtain ⟨z, hz⟩ : ∃ z, x[q.1.toNat]? = some z := ⟨_, List.getElem?_eq_getElem (by omega)⟩
      have hz' : atI (x.map V.int) q.1 = some (V.int z) := by
        obtain ⟨m, em⟩ := Int.eq_ofNat_of_zero_le q0
        rw [em] at hz ⊢
        exact atI_nat (by rw [List.getElem?_map]; simp at hz; rw [hz]; rfl)
      have ez : x.getD q.1.toNat 0 = z := by rw [List.getD_eq_getElem?_getD, hz]; rfl
      refine ⟨_, _, rfl, SqT.of et, rfl, _, _, rfl, _, _, rfl, _, _, rfl, rfl, ?_⟩
      have eq : agR x q = (decide (z ≤ q.2.1) == q.2.2) := by unfold agR; rw [ez]
      obtain ⟨d, hd⟩ : ∃ d, decide (z ≤ q.2.1) = d := ⟨_, rfl⟩
      have eb : agB x (rows.take (i + 1)) = agR x q := by
        unfold agB at ft ⊢
        rw [List.take_succ, hq, List.all_append, ft]
        simp
      refine ⟨_, rfl, _, rfl, h, _, _, _, rfl, rfl, SqL.of hx, hz', _, rfl, _, _, rfl, rfl, _, rfl, ?_⟩
      refine ⟨rfl, _, rfl, ite2 (fun c => ?_) (fun c => ?_)⟩
      · have ef : agB x rows = false := by
          cases e : agB x rows with
          | false => rfl
          | true =>
            have := List.all_eq_true.mp e q (List.mem_of_getElem? hq)
            rw [eq, hd] at this
            have c : (!decide (V.bl (decide (z ≤ q.2.1)) = V.bl q.2.2)) = true := c
            rw [hd] at c
            revert this c
            cases d <;> cases q.2.2 <;> simp
        exact ef ▸ k _ same_rfl
      · refine ⟨_, _, _, rfl, rfl, ?_⟩
        rw [eb, eq, hd]
        have c : ¬ (!decide (V.bl (decide (z ≤ q.2.1)) = V.bl q.2.2)) = true := c
        rw [hd] at c
        revert c
        cases d <;> cases q.2.2 <;> simp
    rintro σ' H2 ⟨v2, v3, v4, rfl, rfl, ft⟩
    rw [List.length_map, hil, List.take_length] at ft
    exact ft ▸ k _ same_rfl
theorem scSay : FnScope ["_law_told", "_law_due"] ["_law_told", "_law_due"] (defScope sSay) := ⟨rfl, rfl, rfl, by decide +kernel, rfl, by decide +kernel, by decide +kernel⟩
theorem ok_say {f : Addr} {fd : FuncData} (F : Fun K "_law_says" "_law_says" sSay f fd) : FnOk P w K mg base CX0 1 f fd ["_law_told", "_law_due"] spSay := by
  refine F.ok scSay (fun vs H Q E h => ?_) (fun cdv A outer s H vs Q E hr h => ?_)
  · obtain ⟨a, b, rfl, _⟩ := h
    rfl
  · obtain ⟨a, b, rfl, k⟩ := h
    refine ⟨_, (pss_cons (ps_if (pt_val (pv 1)) (pss_one (ps_ret (pe_cmpR op_isBl (pv 0) pe_bl (nomark _)))) pss_nil)
      (pss_one (ps_ret (pe_cmpR op_isBl (pv 0) pe_bl (nomark _))))), ?_⟩
    cases b with
    | true =>
      refine ⟨_, rfl, _, rfl, if_t rfl ⟨_, rfl, _, _, rfl, rfl, ?_⟩⟩
      exact k
    | false =>
      refine ⟨_, rfl, _, rfl, if_f rfl ⟨_, rfl, _, _, rfl, rfl, ?_⟩⟩
      exact k
end
end Law

/-! What the law draws. -/
namespace Law
open PySem PySem.Spec PyProof.Rows L2 Sup ItSeq
theorem Spec.small {tall many : Int} {ws : List Wal} {hs : List Int} (S : Spec tall many ws hs) : ∀ x ∈ hs, 0 ≤ x ∧ x ≤ tall := fun x hx => by
  obtain ⟨i, hi⟩ := List.getElem?_of_mem hx
  have il := (List.getElem?_eq_some_iff.mp hi).1
  have len := S.fits.len
  have tp := tops_places ws
  obtain ⟨t, ht⟩ : ∃ t, (topsOf ws)[i]? = some t := ⟨_, List.getElem?_eq_getElem (by omega)⟩
  obtain ⟨g1, g2⟩ := S.fits.top i t x ht hi
  obtain ⟨w, hw, h1⟩ := List.mem_flatMap.mp (List.mem_of_getElem? ht)
  have := (S.num w hw).1.2
  rw [List.eq_of_mem_replicate h1] at g2
  exact ⟨g1, by omega⟩
structure BgTxt (mg : Str → Option Value) (fT fSc fLk fTr : Addr) : Prop where
  take : mg "_law_take" = some (.ref fT)
  spec : mg "_law_spec" = some (.ref fSc)
  links : mg "_law_links" = some (.ref fLk)
  tries : mg "_law_tries" = some (.ref fTr)
  b_len : mg "len" = none
/-- what is drawn: walls, links, a shape, rows of trials -/
structure Drawn (K : PySem.W.Frag) (many count : Int) (H : Hp) (p q t a : Addr) (ws : List Wal) (ls : List Lnk) (hs : List Int) (rows : List TRow) : Prop where
  W : WalsAt K H p ws
  L : LnksAt K H q ls
  T : H t = some (.lst (hs.map V.int))
  R : RwAt H a rows
  mny : (rows.length : Int) ≤ count + 1
  near : ∀ r ∈ rows, Near hs.length r
  spec : ∃ tall : Int, 0 ≤ tall ∧ tall ≤ 10 ^ 15 ∧ Spec tall many ws hs
  few : ls.length ≤ 2
  link : ∀ x ∈ ls, LinkOk hs x
def spBig (K : PySem.W.Frag) : Sp := fun vs H Q _ => ∃ (b l : Addr) (many count : Int), vs = [.ref b, .int many, .int count] ∧ Box H b l ∧ 1 ≤ many ∧ many ≤ 20 ∧ 0 ≤ count ∧ count ≤ 50 ∧
  ∀ (u p q t a : Addr) (ws : List Wal) (ls : List Lnk) (hs : List Int) (rows : List TRow) (H' : Hp), H' u = some (.tup [.ref p, .ref q, .ref t, .ref a]) → Drawn K many count H' p q t a ws ls hs rows → Box H' b l → SameB b H H' → Q (.ref u) H'
section
variable {P : Program} {w : World} {K : PySem.W.Frag} {mg : Str → Option Value} {base : Heap} {CT fT fSc fLk fTr : Addr}
theorem scBig : FnScope ["_law_box_here", "_law_many", "_law_count", "_law_tall", "_law_shuts", "_law_truth_here", "_law_links_here", "_law_rows"] ["_law_box_here", "_law_many", "_law_count"] (defScope sBig) := ⟨rfl, rfl, rfl, by decide +kernel, rfl, by decide +kernel, by decide +kernel⟩
set_option maxHeartbeats 0 in
theorem ok_big {f : Addr} {fd fdT fdSc fdLk fdTr : FuncData} (F : Fun K "_law_big" "_law_big" sBig f fd)
    (GT : FnOk P w K mg base CX0 1 fT fdT ["_law_box_here", "_law_size"] spTake) (FT : Fun K "_law_take" "_law_take" sTake fT fdT) (bT : Binds K fdT ["_law_box_here", "_law_size"] [])
    (GSc : FnOk P w K mg base CX0 3 fSc fdSc ["_law_box_here", "_law_many", "_law_tall"] (spSpc K)) (FSc : Fun K "_law_spec" "_law_spec" sSpc fSc fdSc) (bSc : Binds K fdSc ["_law_box_here", "_law_many", "_law_tall"] [])
    (GLk : FnOk P w K mg base CX0 2 fLk fdLk ["_law_box_here", "_law_truth_here", "_law_room"] (spLkL K)) (FLk : Fun K "_law_links" "_law_links" sLkL fLk fdLk) (bLk : Binds K fdLk ["_law_box_here", "_law_truth_here", "_law_room"] [])
    (GTr : FnOk P w K mg base CX0 2 fTr fdTr ["_law_box_here", "_law_truth_here", "_law_count", "_law_tall"] spTrs) (FTr : Fun K "_law_tries" "_law_tries" sTrs fTr fdTr) (bTr : Binds K fdTr ["_law_box_here", "_law_truth_here", "_law_count", "_law_tall"] [])
    (T : BgTxt mg fT fSc fLk fTr) : FnOk P w K mg base CX0 4 f fd ["_law_box_here", "_law_many", "_law_count"] (spBig K) := by
  refine F.ok scBig (fun vs H Q E h => ?_) (fun cdv A outer s H vs Q E hr h => ?_)
  · obtain ⟨b, l, many, count, rfl, _⟩ := h
    rfl
  · obtain ⟨b, l, many, count, rfl, B1, m1, m20, c0, c50, k⟩ := h
    have hr3 : Room 3 _ := hr.mono (by decide)
    have hr2 : Room 2 _ := hr.mono (by decide)
    have hr1 : Room 1 _ := hr.mono (by decide)
    refine ⟨_, (pss_cons (ps_set (i := 3) scBig.nd rfl (Or.inl rfl) (pe_ix ix_list (pe_lst (pa_cons pe_int (pa_cons (pe_op op_pow pe_int pe_int) pa_nil))) (pe_call GT hr1 rfl T.take FT.kp bT .nil pass0 (pa_cons (pv 0) (pa_cons pe_int pa_nil))) (fun _ _ => rfl)))
      (pss_cons (ps_asg (pe_call GSc hr3 rfl T.spec FSc.kp bSc .nil pass0 (pa_cons (pv 0) (pa_cons (pv 1) (pa_cons (pv 3) pa_nil)))) (pg_tup (by rfl) (pgs_cons (pg_name (i := 4) scBig.nd rfl (Or.inl rfl)) (pgs_cons (pg_name (i := 5) scBig.nd rfl (Or.inl rfl)) pgs_nil))))
      (pss_cons (ps_set (i := 6) scBig.nd rfl (Or.inl rfl) (pe_call GLk hr2 rfl T.links FLk.kp bLk .nil pass0 (pa_cons (pv 0) (pa_cons (pv 5) (pa_cons (pe_ix ix_list (pe_lst (pa_cons pe_int (pa_cons (pe_op op_pow pe_int pe_int) pa_nil))) (pe_call GT hr1 rfl T.take FT.kp bT .nil pass0 (pa_cons (pv 0) (pa_cons pe_int pa_nil))) (fun _ _ => rfl)) pa_nil)))))
      (pss_cons (ps_set (i := 7) scBig.nd rfl (Or.inl rfl) (pe_call GTr hr2 rfl T.tries FTr.kp bTr .nil pass0 (pa_cons (pv 0) (pa_cons (pv 5) (pa_cons (pv 2) (pa_cons (pv 3) pa_nil))))))
      (C8.pss_cut (ps_if (PW.pt (pw_and (pt_cmpR op_gt (pe_callB call_len_seq (by rfl) T.b_len PySem.boot_len (pa_cons (pv 7) pa_nil)) pe_int (nomark _)) (pw_and1 (pt_cmpR op_eq (pe_call GT hr1 rfl T.take FT.kp bT .nil pass0 (pa_cons (pv 0) (pa_cons pe_int pa_nil))) pe_int (nomark _))))) (pss_one (ps_expr (pe_bm PySem.F.plainAttrs_list PySem.F.slot_list_append PySem.F.type_list_append mt_append (pv 7) (pa_cons (pe_ix ix_list (pv 7) (pe_call GT hr1 rfl T.take FT.kp bT .nil pass0 (pa_cons (pv 0) (pa_cons (pe_callB call_len_seq (by rfl) T.b_len PySem.boot_len (pa_cons (pv 7) pa_nil)) pa_nil))) (fun _ _ => rfl)) pa_nil)))) pss_nil)
      (pss_one (ps_ret (pe_tup (pa_cons (pv 4) (pa_cons (pv 6) (pa_cons (pv 5) (pa_cons (pv 7) pa_nil)))))))))))), ?_⟩
    have szf : ∀ {z : Int}, 0 ≤ z → z ≤ 1000 → z.natAbs < 2 ^ 8000 := fun {z} a b => Nat.lt_of_le_of_lt (show z.natAbs ≤ 1000 by omega) (by decide +kernel)
    refine ⟨_, _, rfl, rfl, pow_ok (by decide), by show 2 ≤ sizeLine; decide, fun lq hlq => ?_⟩
    have nlb := Ne.symm (B1.free hlq).1
    have s2 := same_new (o := .lst [V.int 9, V.int (10 ^ (15 : Int).toNat)]) hlq
    have e2 : upd H lq (.lst [V.int 9, V.int (10 ^ (15 : Int).toNat)]) lq = some (.lst [V.int 9, V.int (10 ^ (15 : Int).toNat)]) := upd_same
    have B2 := B1.same s2
    generalize upd H lq (.lst [V.int 9, V.int (10 ^ (15 : Int).toNat)]) = H2 at e2 B2 s2
    refine ⟨_, rfl, b, l, _, rfl, B2, by decide, by decide, fun r H3 r0 r1 B3 k3 => ?_⟩
    have S3 := (SameB.of_same s2 (b := b)).trans (SameB.of k3)
    obtain ⟨tall, ht, t0, t1⟩ : ∃ tall : Int, atI [V.int 9, V.int (10 ^ (15 : Int).toNat)] r = some (.int tall) ∧ 0 ≤ tall ∧ tall ≤ 10 ^ 15 := by
      have : r = 0 ∨ r = 1 := by omega
      rcases this with rfl | rfl
      · exact ⟨9, rfl, by decide, by decide⟩
      · exact ⟨_, rfl, by decide, by decide⟩
    refine ⟨lq, _, r, _, rfl, rfl, SqL.of ((k3 lq nlb).trans e2), ht, ?_⟩
    clear ht r0 r1 k3 B2 e2 s2 nlb hlq B1
    refine ⟨_, rfl, _, rfl, _, rfl, b, l, _, _, rfl, B3, m1, m20, t0, t1, fun u p t ws hs H4 hu np nt npt W4 T4 B4 S4 Sp => ?_⟩
    refine ⟨_, _, rfl, SqT.of hu, rfl, _, _, rfl, _, _, rfl, rfl, ?_⟩
    have S4 := S3.trans S4
    have hl := Sp.fits.len
    have p1 := Sp.one
    have p6 := Sp.most
    clear hu S3 np nt B3
    refine ⟨_, rfl, _, rfl, _, _, rfl, rfl, pow_ok (by decide), by show 2 ≤ sizeLine; decide, fun lq hlq => ?_⟩
    have nlb := Ne.symm (B4.free hlq).1
    have s5 := same_new (o := .lst [V.int 4, V.int (10 ^ (12 : Int).toNat)]) hlq
    have e5 : upd H4 lq (.lst [V.int 4, V.int (10 ^ (12 : Int).toNat)]) lq = some (.lst [V.int 4, V.int (10 ^ (12 : Int).toNat)]) := upd_same
    have B5 := B4.same s5
    have W5 := W4.same s5
    have T5 := s5 _ _ T4
    generalize upd H4 lq (.lst [V.int 4, V.int (10 ^ (12 : Int).toNat)]) = H5 at e5 B5 W5 T5 s5
    refine ⟨_, rfl, b, l, _, rfl, B5, by decide, by decide, fun r H6 r0 r1 B6 k6 => ?_⟩
    have S6 := (S4.trans (SameB.of_same s5)).trans (SameB.of k6)
    obtain ⟨room, hro, m0, m1⟩ : ∃ room : Int, atI [V.int 4, V.int (10 ^ (12 : Int).toNat)] r = some (.int room) ∧ 1 ≤ room ∧ room ≤ 10 ^ 15 := by
      have : r = 0 ∨ r = 1 := by omega
      rcases this with rfl | rfl
      · exact ⟨4, rfl, by decide, by decide⟩
      · exact ⟨_, rfl, by decide, by decide⟩
    have W6 := W5.sameB B5 (SameB.of k6)
    have T6 := (SameB.of k6) _ _ (B5.neZ T5) T5
    refine ⟨lq, _, r, _, rfl, rfl, SqL.of ((k6 lq nlb).trans e5), hro, ?_⟩
    clear hro r0 r1 k6 B5 e5 s5 nlb hlq B4 W5 T5 W4 T4 S4
    refine ⟨b, l, t, hs, room, rfl, B6, T6, by omega, by omega, m0, m1, fun q ls H7 nq L7 ll lk B7 S7 => ?_⟩
    have W7 := W6.sameB B6 S7
    have T7 := S7 _ _ (B6.neZ T6) T6
    have S7 := S6.trans S7
    clear W6 T6 B6 S6 nq
    refine ⟨_, rfl, _, rfl, _, rfl, _, rfl, b, l, t, hs, count, tall, rfl, B7, T7, by omega, by omega, fun x hx => (by have := Sp.small x hx; omega), c0, by omega, t0, by omega, fun D ts rows H8 hD e8 R8 rl near B8 S8 => ?_⟩
    have W8 := W7.sameB B7 S8
    have L8 := L7.sameB B7 S8
    have T8 := S8 _ _ (B7.neZ T7) T7
    have nDb := (B7.free hD)
    have S9 := S7.trans S8
    refine ⟨fun σ' H' => ∃ rows : List TRow, σ' = [some (.ref b), some (.int many), some (.int count), some (.int tall), some (.ref p), some (.ref t), some (.ref q), some (.ref D)] ∧ Drawn K many count H' p q t D ws ls hs rows ∧ Box H' b l ∧ SameB b H H', ?_, ?_⟩
    · have dr : Drawn K many count H8 p q t D ws ls hs rows := ⟨W8, L8, T8, ⟨ts, e8, R8⟩, by omega, near, ⟨tall, t0, t1, Sp⟩, ll, lk⟩
      refine ⟨_, rfl, D, _, rfl, .inl (SqL.of e8), _, _, rfl, rfl, _, rfl, ite2 (fun c => ?_) (fun c => ?_)⟩
      rotate_left
      · exact ⟨rows, rfl, dr, B8, S9⟩
      have c : 0 < ts.length := by
        have := of_decide_eq_true c
        rw [List.length_map] at this
        omega
      have rt := R8.1
      refine ⟨_, rfl, b, l, _, rfl, B8, by decide, by decide, fun y H9 y0 y1 B9 k9 => ⟨rfl, _, rfl, ?_⟩⟩
      have W9 := W8.sameB B8 (SameB.of k9)
      have L9 := L8.sameB B8 (SameB.of k9)
      have T9 := (SameB.of k9) _ _ (B8.neZ T8) T8
      have e9 := (k9 D (Ne.symm nDb.1)).trans e8
      have R9 := R8.sameB B8 (SameB.of k9)
      have S10 := S9.trans (SameB.of k9)
      refine ite2 (fun _ => ?_) fun _ => ?_
      rotate_left
      · exact ⟨rows, rfl, ⟨W9, L9, T9, ⟨ts, e9, R9⟩, by omega, near, ⟨tall, t0, t1, Sp⟩, ll, lk⟩, B9, S10⟩
      refine ⟨_, rfl, .inl ⟨rfl, _, SqL.of e9⟩, _, rfl, _, rfl, _, rfl, D, _, rfl, .inl (SqL.of e9), b, l, _, rfl, B9, by rw [List.length_map]; omega, szf (by omega) (by rw [List.length_map]; omega), fun ix H10 i0 i1 B10 k10 => ?_⟩
      rw [List.length_map] at i1
      obtain ⟨m, rfl⟩ : ∃ m : Nat, ix = (m : Int) := ⟨ix.toNat, by omega⟩
      have hm : m < ts.length := by omega
      have e10 := (k10 D (Ne.symm nDb.1)).trans e9
      have R10 := R9.sameB B9 (SameB.of k10)
      obtain ⟨qr, hqr⟩ : ∃ e, rows[m]? = some e := ⟨_, List.getElem?_eq_getElem (by omega)⟩
      have et := R10.2 m _ qr (List.getElem?_eq_getElem hm) hqr
      have S710 := (S8.trans (SameB.of k9)).trans (SameB.of k10)
      refine ⟨D, _, _, _, rfl, rfl, SqL.of e10, atI_nat (by rw [List.getElem?_map, List.getElem?_eq_getElem hm]; rfl), D, _, _, rfl, rfl, e10, small1000 (by rw [List.length_map]; omega), ?_⟩
      have SF : SameB b H7 (upd H10 D (.lst (ts.map V.ref ++ [V.ref ts[m]]))) := fun c o nc e => by
        rw [upd_ne (ne_of_none e hD)]
        exact S710 c o nc e
      have kt : ∀ x ys, H10 x = some (.tup ys) → upd H10 D (.lst (ts.map V.ref ++ [V.ref ts[m]])) x = some (.tup ys) := fun x ys e => by
        rw [upd_ne (fun z => by rw [z, e10] at e; cases e)]
        exact e
      refine ⟨rows ++ [qr], rfl, ⟨W7.sameB B7 SF, L7.sameB B7 SF, SF _ _ (B7.neZ T7) T7, ⟨ts ++ [ts[m]], by rw [upd_same, List.map_append]; rfl, (R10.snoc et).keep kt⟩, by rw [List.length_append]; show ((rows.length + 1 : Nat) : Int) ≤ _; omega, fun r hr => ?_, ⟨tall, t0, t1, Sp⟩, ll, lk⟩, B10.at nDb, S7.trans SF⟩
      rcases List.mem_append.mp hr with hr | hr
      · exact near r hr
      · rw [List.mem_singleton] at hr
        subst hr
        exact near _ (List.mem_of_getElem? hqr)
    rintro σ' H11 ⟨rows, rfl, dr, B11, S11⟩
    refine ⟨_, rfl, _, rfl, _, rfl, _, rfl, by show 4 ≤ sizeLine; decide, fun u hu => ?_⟩
    have s12 := same_new (o := .tup [V.ref p, V.ref q, V.ref t, V.ref D]) hu
    exact k u p q t D ws ls hs rows _ upd_same ⟨dr.W.same s12, dr.L.same s12, s12 _ _ dr.T, dr.R.same s12, dr.mny, dr.near, dr.spec, dr.few, dr.link⟩ (B11.same s12) (S11.trans (SameB.of_same s12))
end
end Law

/-! Making the site, reading lists. -/
namespace Law
open PySem PySem.Spec PyProof.Rows L2 Sup
theorem WalsIn.same {K : PySem.W.Frag} {H H' : Hp} {p : Addr} {ws : List Wal} (h : WalsIn K H p ws) (s : Same H H') : WalsIn K H' p ws := by
  obtain ⟨ts, h1, h2, h3⟩ := h
  exact ⟨ts, h1.same s, h2, fun i t w e1 e2 => (h3 i t w e1 e2).same s⟩
theorem LnksIn.same {K : PySem.W.Frag} {H H' : Hp} {p : Addr} {ls : List Lnk} (h : LnksIn K H p ls) (s : Same H H') : LnksIn K H' p ls := by
  obtain ⟨ts, h1, h2, h3⟩ := h
  exact ⟨ts, h1.same s, h2, fun i t w e1 e2 => sqT_same (h3 i t w e1 e2) s⟩
theorem WalsAt.in_ {K : PySem.W.Frag} {H : Hp} {p : Addr} {ws : List Wal} (h : WalsAt K H p ws) : WalsIn K H p ws := by
  obtain ⟨ts, h1, h2, h3⟩ := h
  exact ⟨ts, .inl (SqL.of h1), h2, h3⟩
theorem LnksAt.in_ {K : PySem.W.Frag} {H : Hp} {p : Addr} {ls : List Lnk} (h : LnksAt K H p ls) : LnksIn K H p ls := by
  obtain ⟨ts, h1, h2, h3⟩ := h
  exact ⟨ts, .inl (SqL.of h1), h2, h3⟩
theorem mk_site3 {K : PySem.W.Frag} {C : Errs} {CS pw pk : Addr} {ws : List Wal} {ls : List Lnk} {E : XK} {H1 : Hp} {Q : VK} (hW : WalsIn K H1 pw ws) (hL : LnksIn K H1 pk ls) (l1 : ws.length ≤ 100) (l2 : ls.length ≤ 60) (fW : ∀ w ∈ ws, WFit w) (fL : ∀ l ∈ ls, LFit l)
    (hn : rowsDue [] ws = none) (c : places ws ≤ 24) (hl : linksDue (places ws : Nat) ls = none) (hs : ∃ pi : Int → Int, ∀ e ∈ toldOf ws ls, pi e.2.1 - pi e.1 ≤ e.2.2)
    (ok : ∀ (r : Addr) (H' : Hp), H1 r = none → Same H1 H' → SiteAt K CS ws ls H' r → Q (.ref r) H') : Own.MkS CS (spSini2 K C CS) E [.ref pw, .ref pk] H1 Q := by
  refine ⟨fun x dx nx ndx nn => ?_⟩
  have s0 : Same H1 (upd (upd H1 dx (.own x)) x (.ins CS dx [])) := fun b o e => by
    rw [upd_ne (ne_of_none e nx), upd_ne (ne_of_none e ndx)]
    exact e
  have sb : ∀ {H'}, SameB x (upd (upd H1 dx (.own x)) x (.ins CS dx [])) H' → Same H1 H' := fun {H'} s b o e => s _ _ (ne_of_none e nx) (s0 _ _ e)
  refine ⟨x, dx, pw, pk, ws, ls, rfl, upd_same, hW.same s0, hL.same s0, l1, l2, by omega, fW, fL, fun b hb => (by rw [hn] at hb; cases hb), fun _ => ⟨fun c2 => absurd c2 (by omega), fun _ => ⟨fun z hz => (by rw [hl] at hz; cases hz), fun _ => ⟨fun _ H' s k => ⟨rfl, ?_⟩, fun sh => absurd hs sh⟩⟩⟩⟩
  exact ok x H' nx (sb s) (k H' ⟨fun _ _ e => e, fun _ _ _ e => e, fun _ _ e => e, fun _ _ _ e => e⟩)
theorem rows_none : ∀ (ws : List Wal) (acc : List Str), (∀ w ∈ ws, badN w.1 = false ∧ numDue w.2.1 w.2.2.1 w.2.2.2 = none) → (ws.map (·.1)).Nodup → (∀ w ∈ ws, acc.contains w.1 = false) → rowsDue acc ws = none
  | [], _, _, _, _ => rfl
  | w :: ws, acc, h, nd, ha => by
    obtain ⟨b1, b2⟩ := h w List.mem_cons_self
    unfold rowsDue
    rw [if_neg (by rw [b1]; decide), if_neg (by rw [ha w List.mem_cons_self]; decide), b2]
    rw [List.map_cons, List.nodup_cons] at nd
    refine rows_none ws (acc ++ [w.1]) (fun v hv => h v (List.mem_cons_of_mem _ hv)) nd.2 fun v hv => ?_
    have h1 := ha v (List.mem_cons_of_mem _ hv)
    cases e : (acc ++ [w.1]).contains v.1 with
    | false => rfl
    | true =>
      rw [List.contains_iff_mem] at e
      rcases List.mem_append.mp e with e | e
      · rw [← List.contains_iff_mem, h1] at e
        cases e
      · rw [List.mem_singleton] at e
        exact absurd (List.mem_map.mpr ⟨v, hv, e⟩) nd.1
theorem num_none {tp sl : Int} {spans : List Int} (h0 : 0 ≤ tp) (h1 : 0 ≤ sl) (h2 : ∀ x ∈ spans, 1 ≤ x) : numDue tp sl spans = none := by
  unfold numDue
  rw [if_neg (by omega), if_neg (by omega)]
  refine List.find?_eq_none.mpr fun x hx => ?_
  have := h2 x hx
  simp
  omega
/-- the law's sites are made -/
theorem Spec.rows {tall many : Int} {ws : List Wal} {hs : List Int} (S : Spec tall many ws hs) : rowsDue [] ws = none := by
  refine rows_none ws [] (fun w hw => ⟨?_, ?_⟩) ?_ fun w hw => rfl
  · have hm : w.1 ∈ ws.map (·.1) := List.mem_map.mpr ⟨w, hw, rfl⟩
    rw [S.names] at hm
    have hm := List.mem_of_mem_take hm
    have key : ∀ y ∈ names3, badN y = false := by decide +kernel
    exact key _ hm
  · obtain ⟨⟨a, _⟩, ⟨b, _⟩, c⟩ := S.num w hw
    exact num_none a b fun x hx => (c x hx).1
  · rw [S.names]
    exact (show names3.Nodup by decide +kernel).sublist (List.take_sublist _ _)
theorem links_none {n : Int} {ls : List Lnk} (h : ∀ l ∈ ls, (0 ≤ l.1 ∧ l.1 < n) ∧ (0 ≤ l.2.1 ∧ l.2.1 < n) ∧ l.2.1 ≠ l.1) : linksDue n ls = none := by
  unfold linksDue
  refine List.findSome?_eq_none_iff.mpr fun l hl => ?_
  obtain ⟨a, b, c⟩ := h l hl
  unfold linkDue
  rw [if_neg (fun z => z a), if_neg (fun z => z.elim (fun y => y b) c)]
theorem Spec.shape {tall many : Int} {ws : List Wal} {hs : List Int} {ls : List Lnk} (S : Spec tall many ws hs) (hL : ∀ x ∈ ls, LinkOk hs x) : ∀ e ∈ toldOf ws ls, pot hs e.2.1 - pot hs e.1 ≤ e.2.2 := fun e he => by
  have hl := told_sub he
  unfold limsOf at hl
  have len := S.fits.len
  have tp := tops_places ws
  rcases List.mem_append.mp hl with hl | hl
  · rcases List.mem_append.mp hl with hl | hl
    · obtain ⟨i, t, h1, h2⟩ := ground_mem (topsOf ws) 0 hl
      rw [Int.zero_add] at h2
      have il := (List.getElem?_eq_some_iff.mp h1).1
      obtain ⟨x, hx⟩ : ∃ x, hs[i]? = some x := ⟨_, List.getElem?_eq_getElem (by omega)⟩
      obtain ⟨g1, g2⟩ := S.fits.top i t x h1 hx
      have p0 : pot hs (-1) = 0 := rfl
      have p1 : pot hs (i : Int) = x := by
        rw [pot_nat, List.getD_eq_getElem?_getD, hx]
        rfl
      rcases h2 with rfl | rfl
      · show pot hs (i : Int) - pot hs (-1) ≤ t
        omega
      · show pot hs (-1) - pot hs (i : Int) ≤ 0
        omega
    · exact S.fits.slope e hl
  · obtain ⟨l, hl', h⟩ := link_mem hl
    have k := hL l hl'
    have k1 := k.lo
    have k2 := k.hi
    rcases h with rfl | rfl
    · exact k2
    · show pot hs l.1 - pot hs l.2.1 ≤ -l.2.2.1
      omega
theorem int_ok (n : Int) : PyData.canLay0 (.int n) = true := by simp only [PyData.canLay0]
theorem shaped_int (n : Int) : SeqAt.shaped (.int n) = true := by
  unfold SeqAt.shaped
  rw [int_ok n]
  simp [PyData.depth]
theorem ok_ints : ∀ ns : List Int, PyData.canLayAll0 (ns.map PyData.int) = true
  | [] => by simp only [List.map_nil, PyData.canLayAll0]
  | n :: ns => by
    rw [List.map_cons]
    simp only [PyData.canLayAll0]
    rw [Bool.and_eq_true]
    exact ⟨int_ok n, ok_ints ns⟩
theorem deep_ints : ∀ ns : List Int, PyData.depthAll (ns.map PyData.int) = 0
  | [] => by simp [PyData.depthAll]
  | n :: ns => by
    rw [List.map_cons]
    simp [PyData.depthAll, PyData.depth, deep_ints ns]
theorem shaped_ints (ns : List Int) : SeqAt.shaped (.list (ns.map PyData.int)) = true := by
  unfold SeqAt.shaped
  have e : PyData.canLay0 (.list (ns.map PyData.int)) = true := by
    simp only [PyData.canLay0]
    exact ok_ints ns
  rw [e]
  simp [PyData.depth, deep_ints]
theorem dp_ints {K : PySem.W.Frag} {H : Hp} : ∀ xs : List Int, DpAll K H (xs.map V.int) (xs.map PyData.int)
  | [] => .nil
  | x :: xs => .cons (.int x) (dp_ints xs)
theorem ne_same {K : PySem.W.Frag} {H : Hp} {a b : Addr} {xs : List Int} {Q : VK} (h1 : H a = some (.lst (xs.map V.int))) (h2 : H b = some (.lst (xs.map V.int))) (q : Q (.bl false) H) : rNeD K (.ref a) (.ref b) H Q :=
  ⟨_, _, .lst (SqL.of h1) (dp_ints xs), .lst (SqL.of h2) (dp_ints xs), shaped_ints xs, shaped_ints xs, by rw [eqv_rfl (shaped_ints xs)]; exact q⟩
theorem nodes_none {ws : List Wal} {a b : Int} (ha : -1 ≤ a ∧ a < (places ws : Nat)) (hb : -1 ≤ b ∧ b < (places ws : Nat)) : nodesDue ws a b = none := by
  unfold nodesDue nodeB
  rw [decide_eq_true ha, decide_eq_true hb]
  rfl
theorem nodes_bad1 {ws : List Wal} {a b : Int} (ha : ¬ (-1 ≤ a ∧ a < (places ws : Nat))) : nodesDue ws a b = some a := by
  unfold nodesDue nodeB
  rw [decide_eq_false ha]
  rfl
theorem nodes_bad2 {ws : List Wal} {a b : Int} (ha : -1 ≤ a ∧ a < (places ws : Nat)) (hb : ¬ (-1 ≤ b ∧ b < (places ws : Nat))) : nodesDue ws a b = some b := by
  unfold nodesDue nodeB
  rw [decide_eq_true ha, decide_eq_false hb]
  rfl
theorem SiteAt.draw {K : PySem.W.Frag} {CS r b l : Addr} {ws : List Wal} {ls : List Lnk} {H H' : Hp} (h : SiteAt K CS ws ls H r) (B : Box H b l) (s : SameB b H H') : SiteAt K CS ws ls H' r := by
  obtain ⟨dx, fs, pr, pl, ps, pd, pt, h0, ⟨a1, a2⟩, ⟨b1, b2⟩, ⟨c1, c2⟩, ⟨d1, d2⟩, ⟨e1, e2⟩, f1, g1, ptd, plm, t1, t2, m1, m2⟩ := h
  obtain ⟨_, _, _, _, q, _⟩ := id B
  refine ⟨dx, fs, pr, pl, ps, pd, pt, s _ _ (fun z => by rw [z, q] at h0; cases h0) h0, ⟨a1, a2.sameB B s⟩, ⟨b1, b2.sameB B s⟩, ⟨c1, ?_⟩, ⟨d1, ?_⟩, ⟨e1, s _ _ (B.neZ e2) e2⟩, f1, g1, ptd, plm, t1, s _ _ (fun z => by rw [z, q] at t2; cases t2) t2, m1, ?_⟩
  · obtain ⟨ts, x1, x2, x3⟩ := c2
    exact ⟨ts, s _ _ (B.neL3 x1) x1, x2, fun i t y L y1 y2 => s _ _ (B.neT (x3 i t y L y1 y2)) (x3 i t y L y1 y2)⟩
  · obtain ⟨kv, x1, x2⟩ := d2
    exact ⟨kv, s _ _ (fun z => by rw [z, q] at x1; cases x1) x1, x2⟩
  · obtain ⟨ts, x1, x2, x3⟩ := m2
    exact ⟨ts, s _ _ (B.neL3 x1) x1, x2, fun i t row y1 y2 => s _ _ (B.neZ (x3 i t row y1 y2)) (x3 i t row y1 y2)⟩
theorem steps_nodes {ws : List Wal} {ls : List Lnk} (h : linksDue (places ws : Nat) ls = none) : inNodes (places ws) (stepsOf ws ls) := fun e he => by
  obtain ⟨x, hx, h1, _⟩ := told_less (steps_lims.mp he)
  have g := told_nodes h x hx
  have y := like_iff.mp h1
  rw [y.1, y.2] at g
  exact g
theorem told_few {ws : List Wal} {ls : List Lnk} (h1 : places ws ≤ 24) (h2 : ls.length ≤ 60) : (toldOf ws ls).length ≤ 900 := by
  have a := fold_len (limsOf ws ls) []
  have b := lims_len ws ls
  have a : (toldOf ws ls).length ≤ 0 + (limsOf ws ls).length := a
  omega
/-- what is left of a list but its last -/
def butLast (x : List Int) : List Int := List.take (HT.sIx x.length x.length (some (-1)) - HT.sIx x.length 0 none) (List.drop (HT.sIx x.length 0 none) x)
theorem cut_last (x : List Int) : cutV (x.map V.int) none (some (-1)) = (butLast x).map V.int := by
  unfold cutV butLast
  rw [List.length_map, List.map_take, List.map_drop]
theorem len_last {x : List Int} (h1 : 1 ≤ x.length) (h3 : x.length ≤ 6) : (butLast x).length ≠ x.length ∧ (butLast x).length ≤ 6 := by
  have key : (butLast x).length = x.length - 1 := by
    unfold butLast
    rw [List.length_take, List.length_drop]
    rcases (by omega : x.length = 1 ∨ x.length = 2 ∨ x.length = 3 ∨ x.length = 4 ∨ x.length = 5 ∨ x.length = 6) with e | e | e | e | e | e <;> rw [e] <;> rfl
  omega
theorem shape_not {ws : List Wal} {ls : List Lnk} {x : List Int} (h : x.length ≠ places ws) : shapeB ws ls x = false := by
  unfold shapeB
  rw [decide_eq_false h]
  rfl
theorem shape_is {ws : List Wal} {ls : List Lnk} {x : List Int} (h : x.length = places ws) : shapeB ws ls x = fitsB (stepsOf ws ls) x := by
  unfold shapeB
  rw [decide_eq_true h, fits_told]
  rfl
theorem TabAt.draw {H H' : Hp} {p b l : Addr} {M : List (List Int)} (h : TabAt H p M) (B : Box H b l) (s : SameB b H H') : TabAt H' p M := by
  obtain ⟨ts, x1, x2, x3⟩ := h
  exact ⟨ts, s _ _ (B.neL3 x1) x1, x2, fun i t row y1 y2 => s _ _ (B.neZ (x3 i t row y1 y2)) (x3 i t row y1 y2)⟩
theorem LimsAt.draw {H H' : Hp} {p b l : Addr} {M : List Edge} (h : LimsAt H p M) (B : Box H b l) (s : SameB b H H') : LimsAt H' p M := by
  obtain ⟨ts, x1, x2, x3⟩ := h
  exact ⟨ts, s _ _ (B.neL3 x1) x1, x2, fun i t row y1 y2 => s _ _ (B.neT (x3 i t row y1 y2)) (x3 i t row y1 y2)⟩
end Law

/-! Bounds, heights and trials: what agrees lies between; a list cleared behind a site. -/
namespace Law
open PySem PySem.Spec PyProof.Rows L2 Sup
section
variable {ws : List Wal} {ls : List Lnk} {rows : List TRow} {x : List Int}
theorem pot_get {i : Nat} (h : i < x.length) : pot x (i : Int) = x[i] := by
  rw [pot_nat, getD_of h]
theorem agR_at {r : TRow} (h : agB x rows = true) (hr : r ∈ rows) : (decide (x.getD r.1.toNat 0 ≤ r.2.1)) = r.2.2 := by
  have := List.all_eq_true.mp h r hr
  unfold agR at this
  exact eq_of_beq this
theorem pot_row {p : Int} (h0 : 0 ≤ p) : pot x p = x.getD p.toNat 0 := by
  obtain ⟨m, rfl⟩ := Int.eq_ofNat_of_zero_le h0
  rw [pot_nat]
  rfl
theorem low_le (S : Shaped ws ls) (hx : fitsB (stepsOf ws ls) x = true) (ha : agB x rows = true) (hin : inPl ws rows) {p : Int} (hp : 0 ≤ p ∧ p < (places ws : Nat)) {e : Edge} (L : LowE (limOf ws ls) rows p e) : e.1 ≤ pot x p := by
  have p0 : pot x (-1) = 0 := rfl
  rcases L.one with ⟨_, _, h⟩ | ⟨n, r, h1, h2, _, _, h⟩
  · have := lim_max S hx (a := p) (b := -1) ⟨by omega, hp.2⟩ ⟨by omega, by omega⟩
    omega
  · have hr := List.mem_of_getElem? h1
    obtain ⟨r0, r1⟩ := hin r hr
    have := lim_max S hx (a := p) (b := r.1) ⟨by omega, hp.2⟩ ⟨by omega, r1⟩
    have ag := agR_at ha hr
    rw [h2, ← pot_row r0] at ag
    have := of_decide_eq_false ag
    omega
theorem le_high (S : Shaped ws ls) (hx : fitsB (stepsOf ws ls) x = true) (ha : agB x rows = true) (hin : inPl ws rows) {p : Int} (hp : 0 ≤ p ∧ p < (places ws : Nat)) {e : Edge} (L : HighE (limOf ws ls) rows p e) : pot x p ≤ e.1 := by
  have p0 : pot x (-1) = 0 := rfl
  rcases L.one with ⟨_, _, h⟩ | ⟨n, r, h1, h2, _, _, h⟩
  · have := lim_max S hx (a := -1) (b := p) ⟨by omega, by omega⟩ ⟨by omega, hp.2⟩
    omega
  · have hr := List.mem_of_getElem? h1
    obtain ⟨r0, r1⟩ := hin r hr
    have := lim_max S hx (a := r.1) (b := p) ⟨by omega, r1⟩ ⟨by omega, hp.2⟩
    have ag := agR_at ha hr
    rw [h2, ← pot_row r0] at ag
    have := of_decide_eq_true ag
    omega
theorem compat (S : Shaped ws ls) (hx : fitsB (stepsOf ws ls) x = true) (ha : agB x rows = true) (hin : inPl ws rows) : Compat (limOf ws ls) rows (places ws) := fun i e e' hi L L' => by
  have a := low_le S hx ha hin (p := (i : Int)) ⟨by omega, by omega⟩ L
  have b := le_high S hx ha hin (p := (i : Int)) ⟨by omega, by omega⟩ L'
  omega
theorem in_agrees (S : Shaped ws ls) (hx : fitsB (stepsOf ws ls) x = true) (hin : inPl ws rows) (xn : x.length = places ws) {le he : List Edge} (eo : EdgesOk (limOf ws ls) rows (places ws) le he) : inB le he x = agB x rows := by
  have key : ∀ i, i < x.length → ∃ e e', LowE (limOf ws ls) rows i e ∧ HighE (limOf ws ls) rows i e' ∧ btw le he x i = (decide (e.1 ≤ pot x (i : Int)) && decide (pot x (i : Int) ≤ e'.1)) := fun i hi => by
    have i1 : i < le.length := by rw [eo.l1]; omega
    have i2 : i < he.length := by rw [eo.l2]; omega
    have g1 := eo.low i _ (List.getElem?_eq_getElem i1)
    have g2 := eo.high i _ (List.getElem?_eq_getElem i2)
    refine ⟨_, _, g1, g2, ?_⟩
    unfold btw
    rw [getD_of (by rw [List.length_map]; exact i1), getD_of hi, getD_of (by rw [List.length_map]; exact i2), pot_get hi, List.getElem_map, List.getElem_map]
  cases ha : agB x rows with
  | true =>
    unfold inB
    rw [List.all_map, List.all_eq_true]
    intro i hi
    have hi := List.mem_range.mp hi
    obtain ⟨e, e', L, L', eb⟩ := key i hi
    show btw le he x i = true
    rw [eb, decide_eq_true (low_le S hx ha hin ⟨by omega, by omega⟩ L), decide_eq_true (le_high S hx ha hin ⟨by omega, by omega⟩ L')]
    rfl
  | false =>
    cases hb : inB le he x with
    | false => rfl
    | true =>
      exfalso
      have : agB x rows = true := by
        unfold agB
        rw [List.all_eq_true]
        intro r hr
        obtain ⟨r0, r1⟩ := hin r hr
        unfold inB at hb
        rw [List.all_map, List.all_eq_true] at hb
        obtain ⟨m, em⟩ := Int.eq_ofNat_of_zero_le r0
        have em : r.1 = (m : Int) := em
        have hm : m < x.length := by omega
        obtain ⟨e, e', L, L', eb⟩ := key m hm
        have hbm : btw le he x m = true := hb m (List.mem_range.mpr hm)
        rw [eb, Bool.and_eq_true] at hbm
        have c1 := of_decide_eq_true hbm.1
        have c2 := of_decide_eq_true hbm.2
        have sf := lim_self S (a := r.1) ⟨by omega, r1⟩
        unfold agR
        rw [← pot_row r0, em, beq_iff_eq]
        cases q : r.2.2 with
        | true =>
          have := L'.all r hr q
          rw [← em, sf] at this
          rw [← em]
          rw [← em] at c1 c2
          exact decide_eq_true (by omega)
        | false =>
          have := L.all r hr q
          rw [← em, sf] at this
          rw [← em]
          rw [← em] at c1 c2
          exact decide_eq_false (by omega)
      rw [this] at ha
      cases ha
/-- the rows that the truth tells agree with it -/
theorem true_agrees (hs : List Int) (rows : List TRow) : agB hs (rows.map (trueR hs)) = true := by
  unfold agB
  rw [List.all_map, List.all_eq_true]
  intro r _
  show agR hs (trueR hs r) = true
  unfold agR trueR
  simp
end
theorem clear_id {H : Hp} {D : Addr} (h : H D = some (.lst [])) : upd H D (.lst []) = H := by
  funext c
  by_cases q : c = D
  · rw [q, upd_same, h]
  · rw [upd_ne q]
theorem BndAt.off {CB CT o r D : Addr} {le he : List Edge} {rows : List TRow} {H H' : Hp} (h : BndAt CB H o r le he) (hT : TrisAt CT H D rows) (n1 : 1 ≤ le.length) (n2 : 1 ≤ he.length) (s : SameB D H H') : BndAt CB H' o r le he := by
  obtain ⟨dx, fs, pl, ph, h0, a, b, c, d, L1, L2⟩ := h
  obtain ⟨ts, t1, t2, t3⟩ := hT
  have off : ∀ {p : Addr} {es : List Edge}, LimsAt H p es → 1 ≤ es.length → LimsAt H' p es := fun {p es} L n => by
    obtain ⟨us, u1, u2, u3⟩ := L
    have np : p ≠ D := fun z => by
      rw [z, t1] at u1
      have e := HO.lst.inj (Option.some.inj u1)
      have l := congrArg List.length e
      rw [List.length_map, List.length_map] at l
      have h0 : 0 < ts.length := by omega
      obtain ⟨dx, fs, g, _⟩ := t3 0 _ _ (List.getElem?_eq_getElem h0) (List.getElem?_eq_getElem (show 0 < rows.length by omega))
      have g2 := u3 0 _ _ (List.getElem?_eq_getElem (show 0 < us.length by omega)) (List.getElem?_eq_getElem (show 0 < es.length by omega))
      have e0 : (ts.map V.ref)[0]? = (us.map V.ref)[0]? := by rw [e]
      rw [List.getElem?_map, List.getElem?_map, List.getElem?_eq_getElem h0, List.getElem?_eq_getElem (show 0 < us.length by omega)] at e0
      have e1 : ts[0] = us[0] := V.ref.inj (Option.some.inj e0)
      rw [e1, g2] at g
      cases g
    exact ⟨us, s _ _ np u1, u2, fun i t e e1 e2 => s _ _ (fun z => by have q := u3 i t e e1 e2; rw [z, t1] at q; cases q) (u3 i t e e1 e2)⟩
  exact ⟨dx, fs, pl, ph, s _ _ (fun z => by rw [z, t1] at h0; cases h0) h0, a, b, c, d, off L1 n1, off L2 n2⟩
theorem BndAt.draw {CB o r b l : Addr} {le he : List Edge} {H H' : Hp} (h : BndAt CB H o r le he) (B : Box H b l) (s : SameB b H H') : BndAt CB H' o r le he := by
  obtain ⟨dx, fs, pl, ph, h0, a, b1, c, d, L1, L2⟩ := h
  obtain ⟨_, _, _, _, q, _⟩ := id B
  exact ⟨dx, fs, pl, ph, s _ _ (fun z => by rw [z, q] at h0; cases h0) h0, a, b1, c, d, L1.draw B s, L2.draw B s⟩
theorem SiteF.draw {K : PySem.W.Frag} {CS r b l : Addr} {ws : List Wal} {ls : List Lnk} {H H' : Hp} (h : SiteF K CS ws ls H r) (B : Box H b l) (s : SameB b H H') : SiteF K CS ws ls H' r := by
  obtain ⟨dx, fs, ptd, h0, a, b1, c, d⟩ := h
  obtain ⟨_, _, _, _, q, _⟩ := id B
  exact ⟨dx, fs, ptd, s _ _ (fun z => by rw [z, q] at h0; cases h0) h0, a, b1, c, s _ _ (fun z => by rw [z, q] at d; cases d) d⟩
end Law

/-! The law. -/
namespace Law
open PySem PySem.Spec PyProof.Rows L2 Sup
abbrev sLaw : Stmt := top 71
def spLaw (K : PySem.W.Frag) : Sp := fun vs H Q _ => ∃ (a : Addr) (ns : List Int), vs = [.ref a] ∧ SqL K H a (ns.map V.int) ∧ ns.length ≤ 63 ∧ ∀ H', Q (.bl true) H'
structure LwTxt (mg : Str → Option Value) (CS CB fB fT fBg fTw fSt fTl fLF fAg fSa : Addr) : Prop where
  box : mg "_law_box" = some (.ref fB)
  take : mg "_law_take" = some (.ref fT)
  big : mg "_law_big" = some (.ref fBg)
  true : mg "_law_true" = some (.ref fTw)
  steps : mg "_law_steps" = some (.ref fSt)
  trials : mg "_law_trials" = some (.ref fTl)
  fits : mg "_law_fits" = some (.ref fLF)
  agrees : mg "_law_agrees" = some (.ref fAg)
  says : mg "_law_says" = some (.ref fSa)
  site : mg "Site" = some (.ref CS)
  bounds : mg "Bounds" = some (.ref CB)
  b_len : mg "len" = none
  b_list : mg "list" = none
section
variable {P : Program} {w : World} {K : PySem.W.Frag} {mg : Str → Option Value} {base : Heap} {C : Errs} {CS CT CB : Addr}
theorem scLaw : FnScope ["_law_script", "_law_box_here", "_law_shuts", "_law_links_here", "_law_truth_here", "_law_rows", "_law_steps_here", "_law_trials_here", "_law_site", "_law_bounds", "_law_lists", "_law_heights", "_law_changed", "_law_at", "_law_near", "_law_wide", "_law_kept", "_law_due"] ["_law_script"] (defScope sLaw) := ⟨rfl, rfl, rfl, by decide +kernel, rfl, by decide +kernel, by decide +kernel⟩
set_option maxHeartbeats 0 in
theorem ok_law {f fB fT fBg fTw fSt fTl fLF fAg fSa fSi fFi fBi fLo fHi fCo : Addr} {fd fdB fdT fdBg fdTw fdSt fdTl fdLF fdAg fdSa : FuncData} (F : Fun K "law" "law" sLaw f fd) (T : LwTxt mg CS CB fB fT fBg fTw fSt fTl fLF fAg fSa)
    (GB : FnOk P w K mg base CX0 1 fB fdB ["_law_script"] (spBox K)) (FB : Fun K "_law_box" "_law_box" sBox fB fdB) (bB : Binds K fdB ["_law_script"] [])
    (GT : FnOk P w K mg base CX0 1 fT fdT ["_law_box_here", "_law_size"] spTake) (FT : Fun K "_law_take" "_law_take" sTake fT fdT) (bT : Binds K fdT ["_law_box_here", "_law_size"] [])
    (GBg : FnOk P w K mg base CX0 4 fBg fdBg ["_law_box_here", "_law_many", "_law_count"] (spBig K)) (FBg : Fun K "_law_big" "_law_big" sBig fBg fdBg) (bBg : Binds K fdBg ["_law_box_here", "_law_many", "_law_count"] [])
    (GTw : FnOk P w K mg base CX0 1 fTw fdTw ["_law_rows", "_law_truth_here"] spTrw) (FTw : Fun K "_law_true" "_law_true" sTrw fTw fdTw) (bTw : Binds K fdTw ["_law_rows", "_law_truth_here"] [])
    (GSt : FnOk P w K mg base CX0 1 fSt fdSt ["_law_shuts", "_law_links_here"] (spStp K)) (FSt : Fun K "_law_steps" "_law_steps" sStp fSt fdSt) (bSt : Binds K fdSt ["_law_shuts", "_law_links_here"] [])
    (GTl : FnOk P w K mg base CX0 3 fTl fdTl ["_law_rows"] (spTrl CT)) (FTl : Fun K "_law_trials" "_law_trials" sTrl fTl fdTl) (bTl : Binds K fdTl ["_law_rows"] [])
    (GLF : FnOk P w K mg base CX0 1 fLF fdLF ["_law_steps_here", "_law_heights"] spLFi) (FLF : Fun K "_law_fits" "_law_fits" sLFi fLF fdLF) (bLF : Binds K fdLF ["_law_steps_here", "_law_heights"] [])
    (GAg : FnOk P w K mg base CX0 1 fAg fdAg ["_law_heights", "_law_rows"] spAgr) (FAg : Fun K "_law_agrees" "_law_agrees" sAgr fAg fdAg) (bAg : Binds K fdAg ["_law_heights", "_law_rows"] [])
    (GSa : FnOk P w K mg base CX0 1 fSa fdSa ["_law_told", "_law_due"] spSay) (FSa : Fun K "_law_says" "_law_says" sSay fSa fdSa) (bSa : Binds K fdSa ["_law_told", "_law_due"] [])
    (GSi : FnR P w K mg base (L2.CX P w) 7 fSi (spSini2 K C CS)) (MK : Mk K CS fSi) (GFi : FnR P w K mg base CX0 1 fFi (spSfi K CS)) (MFi : Meth K CS "fits" fFi) (cl : Cls K CS)
    (GBi : FnR P w K mg base CX0 8 fBi (spBini K CS CT CB)) (MKB : Mk K CB fBi) (GLo : FnR P w K mg base CX0 2 fLo (spBlo CB fun le _ => le)) (MLo : Meth K CB "lows" fLo) (GHi : FnR P w K mg base CX0 2 fHi (spBlo CB fun _ he => he)) (MHi : Meth K CB "highs" fHi)
    (GCo : FnR P w K mg base CX0 3 fCo (spBcon K CS CB)) (hsC : PySem.W.findIn K (.ref CB) "__contains__" = some (some (.ref fCo))) (hfC : PySem.W.isFn K (.ref fCo) = true) (clB : Cls K CB) : FnOk P w K mg base CX0 10 f fd ["_law_script"] (spLaw K) := by
  refine F.ok scLaw (fun vs H Q E h => ?_) (fun cdv A outer s H vs Q E hr h => ?_)
  · obtain ⟨a, ns, rfl, _⟩ := h
    rfl
  · obtain ⟨a, ns, rfl, h1, h2, h3⟩ := h
    have hr9 : Room 9 _ := hr
    have hr8 : Room 8 _ := hr.mono (by decide)
    have hr4 : Room 4 _ := hr.mono (by decide)
    have hr3 : Room 3 _ := hr.mono (by decide)
    have hr2 : Room 2 _ := hr.mono (by decide)
    have hr1 : Room 1 _ := hr.mono (by decide)
    refine ⟨_, (pss_cons (ps_set (i := 1) scLaw.nd rfl (Or.inl rfl) (pe_call GB hr1 rfl T.box FB.kp bB .nil pass0 (pa_cons (pv 0) pa_nil)))
      (pss_cons (ps_asg (pe_call GBg hr4 rfl T.big FBg.kp bBg .nil pass0 (pa_cons (pv 1) (pa_cons pe_int (pa_cons (pe_call GT hr1 rfl T.take FT.kp bT .nil pass0 (pa_cons (pv 1) (pa_cons pe_int pa_nil))) pa_nil)))) (pg_tup (by rfl) (pgs_cons (pg_name (i := 2) scLaw.nd rfl (Or.inl rfl)) (pgs_cons (pg_name (i := 3) scLaw.nd rfl (Or.inl rfl)) (pgs_cons (pg_name (i := 4) scLaw.nd rfl (Or.inl rfl)) (pgs_cons (pg_name (i := 5) scLaw.nd rfl (Or.inl rfl)) pgs_nil))))))
      (pss_cons (ps_set (i := 5) scLaw.nd rfl (Or.inl rfl) (pe_call GTw hr1 rfl T.true FTw.kp bTw .nil pass0 (pa_cons (pv 5) (pa_cons (pv 4) pa_nil))))
      (pss_cons (ps_set (i := 6) scLaw.nd rfl (Or.inl rfl) (pe_call GSt hr1 rfl T.steps FSt.kp bSt .nil pass0 (pa_cons (pv 2) (pa_cons (pv 3) pa_nil))))
      (pss_cons (ps_set (i := 7) scLaw.nd rfl (Or.inl rfl) (pe_call GTl hr3 rfl T.trials FTl.kp bTl .nil pass0 (pa_cons (pv 5) pa_nil)))
      (pss_cons (ps_set (i := 8) scLaw.nd rfl (Or.inl rfl) (Own.pe_makeS (E := fun _ => E0) MK GSi hr8 rfl T.site (passS passL) (pa_cons (pv 2) (pa_cons (pv 3) pa_nil))))
      (pss_cons (ps_set (i := 9) scLaw.nd rfl (Or.inl rfl) (Own.pe_makeS (E := fun _ => E0) MKB GBi hr9 rfl T.bounds (passS pass0) (pa_cons (pv 8) (pa_cons (pv 7) pa_nil))))
      (pss_cons (ps_expr (pe_bm0 PySem.F.plainAttrs_list PySem.F.slot_list_clear PySem.F.type_list_clear mt_clear (pv 7)))
      (pss_cons (ps_set (i := 10) scLaw.nd rfl (Or.inl rfl) (pe_lst (pa_cons (pv 4) (pa_cons (Own.pe_methW0 (E := fun _ => E0) (pv 9) clB MLo GLo hr2 (passS pass0)) (pa_cons (Own.pe_methW0 (E := fun _ => E0) (pv 9) clB MHi GHi hr2 (passS pass0)) pa_nil)))))
      (pss_cons (ps_for PassesOwn.never rfl (pi_list (pe_op op_cat (pv 10) (pv 10))) (pg_name (i := 11) scLaw.nd rfl (Or.inl rfl)) (pss_cons (ps_set (i := 12) scLaw.nd rfl (Or.inl rfl) (pe_callTy call_list_of (by rfl) T.b_list (by decide +kernel) (pa_cons (pv 11) pa_nil)))
      (C8.pss_cut (ps_if (pt_cmpR op_gt (pe_call GT hr1 rfl T.take FT.kp bT .nil pass0 (pa_cons (pv 1) (pa_cons pe_int pa_nil))) pe_int (nomark _)) (pss_cons (ps_set (i := 13) scLaw.nd rfl (Or.inl rfl) (pe_call GT hr1 rfl T.take FT.kp bT .nil pass0 (pa_cons (pv 1) (pa_cons (pe_callB call_len_seq (by rfl) T.b_len PySem.boot_len (pa_cons (pv 4) pa_nil)) pa_nil))))
      (pss_cons (ps_set (i := 14) scLaw.nd rfl (Or.inl rfl) (pe_op op_sub (pe_op op_add (pe_ix ix_list (pv 12) (pv 13) (fun _ _ => rfl)) (pe_call GT hr1 rfl T.take FT.kp bT .nil pass0 (pa_cons (pv 1) (pa_cons pe_int pa_nil)))) pe_int))
      (pss_cons (ps_set (i := 15) scLaw.nd rfl (Or.inl rfl) (pe_call GT hr1 rfl T.take FT.kp bT .nil pass0 (pa_cons (pv 1) (pa_cons (pe_op op_pow pe_int pe_int) pa_nil))))
      (pss_one (ps_asg (pe_ix ix_list (pe_lst (pa_cons (pv 14) (pa_cons (pv 15) pa_nil))) (pe_call GT hr1 rfl T.take FT.kp bT .nil pass0 (pa_cons (pv 1) (pa_cons pe_int pa_nil))) (fun _ _ => rfl)) (pg_sub (pv 12) (pv 13) set_list)))))) pss_nil)
      (pss_cons (ps_set (i := 16) scLaw.nd rfl (Or.inl rfl) (pe_callTy call_list_of (by rfl) T.b_list (by decide +kernel) (pa_cons (pv 12) pa_nil)))
      (C8.pss_cut (ps_set (i := 17) scLaw.nd rfl (Or.inl rfl) (pe_and (pe_call GLF hr1 rfl T.fits FLF.kp bLF .nil pass0 (pa_cons (pv 6) (pa_cons (pv 12) pa_nil))) (pe_one (pe_call GAg hr1 rfl T.agrees FAg.kp bAg .nil pass0 (pa_cons (pv 12) (pa_cons (pv 5) pa_nil))))))
      (pss_cons (ps_if (PW.pt (pw_or (pt_not (pt_val (pe_call GSa hr1 rfl T.says FSa.kp bSa .nil pass0 (pa_cons (pe_cmpR (Own.op_inO GCo hsC hfC hr3 pass0) (pv 12) (pv 9) rfl) (pa_cons (pv 17) pa_nil))))) (pw_or1 (pt_cmpR (op_neD hr.units) (pv 12) (pv 16) (nomark _))))) (pss_one (ps_ret pe_bl)) pss_nil)
      (pss_cons (ps_if (pt_not (pt_val (pe_call GSa hr1 rfl T.says FSa.kp bSa .nil pass0 (pa_cons (Own.pe_methW (E := fun _ => E0) (pv 8) cl MFi GFi hr1 (passS pass0) (pa_cons (pv 12) pa_nil)) (pa_cons (pe_call GLF hr1 rfl T.fits FLF.kp bLF .nil pass0 (pa_cons (pv 6) (pa_cons (pv 12) pa_nil))) pa_nil))))) (pss_one (ps_ret pe_bl)) pss_nil)
      (pss_one (ps_if (PW.pt (pw_or (pt_cmpR (Own.op_inO GCo hsC hfC hr3 pass0) (pe_op op_cat (pv 12) (pe_lst (pa_cons pe_int pa_nil))) (pv 9) rfl) (pw_or1 (pt_cmpR (Own.op_inO GCo hsC hfC hr3 pass0) (pe_slice sl_list (pv 12) po_none (po_some (pe_un un_neg pe_int))) (pv 9) rfl)))) (pss_one (ps_ret pe_bl)) pss_nil)))))))))
      (pss_one (ps_ret (pe_call GSa hr1 rfl T.says FSa.kp bSa .nil pass0 (pa_cons (pe_cmpR (Own.op_inO GCo hsC hfC hr3 pass0) (pv 4) (pv 9) rfl) (pa_cons pe_bl pa_nil))))))))))))))), ?_⟩
    have szf : ∀ {z : Int}, 0 ≤ z → z ≤ 1000 → z.natAbs < 2 ^ 8000 := fun {z} a b => Nat.lt_of_le_of_lt (show z.natAbs ≤ 1000 by omega) (by decide +kernel)
    refine ⟨_, rfl, a, ns, rfl, h1, h2, fun b l H1 B1 nb nl s1 => ?_⟩
    clear s1 nb nl
    refine ⟨_, rfl, _, rfl, b, l, _, rfl, B1, by decide, by decide, fun cnt H2 c0 c1 B2 k2 => ⟨b, l, _, _, rfl, B2, by decide, by decide, c0, by omega, fun u p q t a' ws ls hs rows H3 hu dr B3 S3 => ?_⟩⟩
    clear k2 B1 B2 S3
    refine ⟨_, _, rfl, SqT.of hu, rfl, _, _, rfl, _, _, rfl, _, _, rfl, _, _, rfl, rfl, ?_⟩
    obtain ⟨tall, t0, t1, Sp⟩ := dr.spec
    have lk := dr.link
    have ll := dr.few
    have rm := dr.mny
    have hl := Sp.fits.len
    have p1 := Sp.one
    have p6 := Sp.most
    have w3 : ws.length ≤ 3 := by
      have := congrArg List.length Sp.names
      rw [List.length_map, List.length_take] at this
      have : ws.length = min ws.length 3 := this
      omega
    have szw : ∀ z : Int, 0 ≤ z → z ≤ 10 ^ 17 → Sz z := fun z a b => Nat.lt_of_le_of_lt (show z.natAbs ≤ 10 ^ 17 by omega) (by decide +kernel)
    have szn : ∀ z : Int, -100 ≤ z → z ≤ 100 → Sz z := fun z a b => Nat.lt_of_le_of_lt (show z.natAbs ≤ 100 by omega) (by decide +kernel)
    have hld : linksDue (places ws : Nat) ls = none := links_none fun x hx => by
      have k := lk x hx
      rw [← hl]
      exact ⟨k.f, k.s, k.ne⟩
    have hsh : Shaped ws ls := ⟨⟨pot hs, Sp.shape lk⟩, hld, by omega⟩
    have fitT : fitsB (stepsOf ws ls) hs = true := by
      rw [← fits_told]
      exact fits_iff.mpr (Sp.shape lk)
    have fz : ∀ w ∈ ws, Sz w.2.2.1 ∧ ∀ x ∈ w.2.2.2, Sz x := fun w hw => by
      obtain ⟨_, ⟨a, b⟩, c⟩ := Sp.num w hw
      exact ⟨szw _ a (by omega), fun x hx => szw _ (by have := (c x hx).1; omega) (by have := (c x hx).2; omega)⟩
    have few : (toldOf ws ls).length ≤ 900 := told_few (by omega) (by omega)
    have stn := steps_nodes hld
    have fit3 : ∀ y ∈ names3, Fit y := by
      intro y hy
      simp only [names3, List.mem_cons, List.not_mem_nil, or_false] at hy
      rcases hy with rfl | rfl | rfl
      · exact ⟨by decide +kernel, by decide +kernel⟩
      · exact ⟨by decide +kernel, by decide +kernel⟩
      · exact ⟨by decide +kernel, by decide +kernel⟩
    have hin0 : ∀ r ∈ rows, 0 ≤ r.1 ∧ r.1 < hs.length := fun r hr => ⟨(dr.near r hr).1, (dr.near r hr).2.1⟩
    have W3 := dr.W
    have L3 := dr.L
    have T3 := dr.T
    have hn : ((hs.length : Nat) : Int) = (places ws : Nat) := by omega
    -- the rows that the truth tells
    refine ⟨_, rfl, _, rfl, a', t, rows, hs, rfl, dr.R, T3, by omega, hin0, fun D1 H4 n4 R4 S4 => ?_⟩
    have ag := true_agrees hs rows
    have hin : inPl ws (rows.map (trueR hs)) := fun r hr => by
      obtain ⟨r', hr', rfl⟩ := List.mem_map.mp hr
      have := hin0 r' hr'
      rw [hn] at this
      exact this
    have rm4 : (rows.map (trueR hs)).length ≤ 20 := by rw [List.length_map]; omega
    generalize rows.map (trueR hs) = rws at R4 ag hin rm4
    refine ⟨_, rfl, _, rfl, p, q, ws, ls, rfl, W3.same S4, L3.same S4, by omega, by omega, fz, fun st H5 nst S5 LS => ?_⟩
    have S45 := same_tr S4 S5
    have W5 := W3.same S45
    have L5 := L3.same S45
    have T5 := S45 _ _ T3
    have B5 := B3.same S45
    have R5 := R4.same S5
    clear dr W3 L3 T3 B3 R4 S45 S4 S5 n4 nst hin0 hu rm
    refine ⟨_, rfl, D1, rws, rfl, R5, by omega, fun D2 H6 n6 T6 S6 => ?_⟩
    refine ⟨_, rfl, _, rfl, mk_site3 (W5.same S6).in_ (L5.same S6).in_ (by omega) (by omega) (fun w hw => ?_) (fun x hx => ?_) Sp.rows (by omega) hld hsh.sh fun site H7 nr S7 hS => ?_⟩
    · obtain ⟨⟨a, b⟩, _, _⟩ := Sp.num w hw
      refine ⟨fit3 _ ?_, szw _ a (by omega), (fz w hw).1, (fz w hw).2⟩
      have hm : w.1 ∈ ws.map (·.1) := List.mem_map.mpr ⟨w, hw, rfl⟩
      rw [Sp.names] at hm
      exact List.mem_of_mem_take hm
    · have k := lk x hx
      exact ⟨szn _ (by have := k.f; omega) (by have := k.f; omega), szn _ (by have := k.s; omega) (by have := k.s; omega)⟩
    refine ⟨_, rfl, _, rfl, mk_bnd hS (T6.same S7) hin (by omega) (compat hsh fitT ag hin) fun bn le he H8 nbn S8 hB eo => ?_⟩
    have T8 := (T6.same S7).same S8
    obtain ⟨us, hD, -, -⟩ := id T8
    refine ⟨_, rfl, .inl ⟨rfl, _, SqL.of hD⟩, D2, _, rfl, rfl, hD, ?_⟩
    have n1 := eo.l1
    have n2 := eo.l2
    have sD : SameB D2 H8 (upd H8 D2 (.lst [])) := fun c o nc e => (upd_ne nc).trans e
    have SF : Same H5 (upd H8 D2 (.lst [])) := fun c o e => by
      rw [upd_ne (ne_of_none e n6)]
      exact S8 _ _ (S7 _ _ (S6 _ _ e))
    have hF := (hS.f.same S8).off hD sD
    have hB9 := hB.off T8 (by omega) (by omega) sD
    have T9 := SF _ _ T5
    have B9 := B5.same SF
    have R9 := R5.same SF
    have LS9 := LS.same SF
    generalize upd H8 D2 (.lst []) = H9 at hF hB9 T9 B9 R9 LS9
    clear SF sD hD us T8 hB nbn S8 hS nr S7 T6 S6 n6 W5 L5 T5 B5 R5 LS
    obtain ⟨dxB, fsB, pl, ph, h0B, fB1, fB2, fB3, fB4, LB1, LB2⟩ := id hB9
    refine ⟨_, rfl, _, rfl, bn, dxB, fsB, rfl, h0B, fB4 _ (by decide), bn, site, le, he, rfl, hB9, by omega, by omega, fun lo H10 nlo S10 e10 => ?_⟩
    refine ⟨_, rfl, bn, dxB, fsB, rfl, S10 _ _ h0B, fB4 _ (by decide), bn, site, le, he, rfl, hB9.same S10, by omega, by omega, fun hi H11 nhi S11 e11 => ?_⟩
    refine ⟨by show 3 ≤ sizeLine; decide, fun lp hlp => ?_⟩
    have S911 := same_tr (same_tr S10 S11) (same_new (o := .lst [V.ref t, V.ref lo, V.ref hi]) hlp)
    have e12 : upd H11 lp (.lst [V.ref t, V.ref lo, V.ref hi]) lp = some (.lst [V.ref t, V.ref lo, V.ref hi]) := upd_same
    have eT : upd H11 lp (.lst [V.ref t, V.ref lo, V.ref hi]) t = some (.lst (hs.map V.int)) := S911 _ _ T9
    have e10 : upd H11 lp (.lst [V.ref t, V.ref lo, V.ref hi]) lo = some (.lst ((le.map (·.1)).map V.int)) := same_new hlp _ _ (S11 _ _ e10)
    have e11 : upd H11 lp (.lst [V.ref t, V.ref lo, V.ref hi]) hi = some (.lst ((he.map (·.1)).map V.int)) := same_new hlp _ _ e11
    generalize upd H11 lp (.lst [V.ref t, V.ref lo, V.ref hi]) = H12 at S911 e12 eT e10 e11
    refine ⟨_, rfl, _, rfl, lp, lp, _, _, rfl, rfl, e12, e12, Nat.le_of_lt (small1000 (by show 6 ≤ 1000; decide)), fun lv hlv => ?_⟩
    have s13 := same_new (o := .lst ([V.ref t, V.ref lo, V.ref hi] ++ [V.ref t, V.ref lo, V.ref hi])) hlv
    have S913 := same_tr S911 s13
    have hx6 : ∀ y ∈ [t, lo, hi, t, lo, hi], ∃ x : List Int, x.length = places ws ∧ upd H12 lv (.lst ([V.ref t, V.ref lo, V.ref hi] ++ [V.ref t, V.ref lo, V.ref hi])) y = some (.lst (x.map V.int)) := fun y hy => by
      have h : y = t ∨ y = lo ∨ y = hi := by
        simp only [List.mem_cons, List.not_mem_nil, or_false] at hy
        rcases hy with h | h | h | h | h | h
        · exact .inl h
        · exact .inr (.inl h)
        · exact .inr (.inr h)
        · exact .inl h
        · exact .inr (.inl h)
        · exact .inr (.inr h)
      rcases h with rfl | rfl | rfl
      · exact ⟨hs, by omega, s13 _ _ eT⟩
      · exact ⟨_, by rw [List.length_map, n1], s13 _ _ e10⟩
      · exact ⟨_, by rw [List.length_map, n2], s13 _ _ e11⟩
    have e13 : upd H12 lv (.lst ([V.ref t, V.ref lo, V.ref hi] ++ [V.ref t, V.ref lo, V.ref hi])) lv = some (.lst ([t, lo, hi, t, lo, hi].map V.ref)) := upd_same
    have hF := hF.same S913
    have hB13 := hB9.same S913
    have T13 := S913 _ _ T9
    have B13 := B9.same S913
    have R13 := R9.same S913
    have LS13 := LS9.same S913
    generalize [t, lo, hi, t, lo, hi] = six at hx6 e13
    generalize upd H12 lv (.lst ([V.ref t, V.ref lo, V.ref hi] ++ [V.ref t, V.ref lo, V.ref hi])) = H13 at hx6 e13 hF hB13 T13 B13 R13 LS13
    clear S913 s13 hlv e11 e10 eT e12 S911 hlp nhi S11 nlo S10 h0B fB1 fB2 fB3 fB4 LB1 LB2 hB9 T9 B9 R9 LS9
    refine ⟨lv, rfl, ⟨_, SqL.of e13⟩, ?_⟩
    let σ0 : List (Option V) → L2.St := fun vs => [some (.ref a), some (.ref b), some (.ref p), some (.ref q), some (.ref t), some (.ref D1), some (.ref st), some (.ref D2), some (.ref site), some (.ref bn), some (.ref lp)] ++ vs
    refine for_it (walk_list (xs := six.map V.ref)) (fun i σ' H' => ∃ v11 v12 v13 v14 v15 v16 v17 : Option V, σ' = σ0 [v11, v12, v13, v14, v15, v16, v17] ∧ Box H' b l ∧ SameB b H13 H')
      ⟨_, _, _, _, _, _, _, rfl, B13, fun _ _ _ e => e⟩ (fun i σ' H' _ h => by obtain ⟨_, _, _, _, _, _, _, _, _, s⟩ := h; exact SqL.of (s _ _ (B13.neL3 e13) e13)) ?_ ?_
    · rintro i y σ' H14 H15 hi ⟨v11, v12, v13, v14, v15, v16, v17, rfl, B14, S14⟩ ⟨rfl, hy⟩
      rw [List.length_map] at hi
      rw [List.getElem?_map, List.getElem?_eq_getElem hi] at hy
      cases hy
      obtain ⟨x, xn, z0⟩ := hx6 _ (List.getElem_mem hi)
      generalize six[i] = hd at z0 ⊢
      have z1 := S14 _ _ (B13.neZ z0) z0
      -- a copy
      refine ⟨_, rfl, hd, _, rfl, .inl (SqL.of z1), fun ca hca => ?_⟩
      have fca := B14.free hca
      have nca : ca ≠ b := Ne.symm fca.1
      have ca0 : H13 ca = none := back_none S14 hca nca
      have s15 := same_new (o := .lst (x.map V.int)) hca
      have c15 : upd H15 ca (.lst (x.map V.int)) ca = some (.lst (x.map V.int)) := upd_same
      have B15 := B14.same s15
      have S15 := S14.trans (SameB.of_same s15)
      generalize upd H15 ca (.lst (x.map V.int)) = H16 at s15 c15 B15 S15
      -- one height changed, or none
      refine ⟨fun σ' H' => ∃ (y : List Int) (v13 v14 v15 : Option V), σ' = σ0 [some (.ref hd), some (.ref ca), v13, v14, v15, v16, v17] ∧ H' ca = some (.lst (y.map V.int)) ∧ y.length = places ws ∧ Box H' b l ∧ SameB b H13 H', ?_, ?_⟩
      · refine ⟨_, rfl, b, l, _, rfl, B15, by decide, by decide, fun r H17 r0 r1 B17 k17 => ⟨_, _, rfl, rfl, _, rfl, ite2 (fun _ => ?_) (fun _ => ?_)⟩⟩
        rotate_left
        · exact ⟨x, v13, v14, v15, rfl, (k17 ca nca).trans c15, xn, B17, S15.trans (SameB.of k17)⟩
        have S17 := S15.trans (SameB.of k17)
        have c17 := (k17 ca nca).trans c15
        have T17 := S17 _ _ (B13.neZ T13) T13
        refine ⟨_, rfl, _, rfl, t, _, rfl, .inl (SqL.of T17), b, l, _, rfl, B17, by rw [List.length_map]; omega, szf (by omega) (by rw [List.length_map]; omega), fun ati H18 a0 a1 B18 k18 => ?_⟩
        rw [List.length_map] at a1
        obtain ⟨m, rfl⟩ : ∃ m : Nat, ati = (m : Int) := ⟨ati.toNat, by omega⟩
        have hm : m < x.length := by omega
        have c18 := (k18 ca nca).trans c17
        have S18 := S17.trans (SameB.of k18)
        have atx : atI (x.map V.int) (m : Int) = some (.int x[m]) := atI_nat (by rw [List.getElem?_map, List.getElem?_eq_getElem hm]; rfl)
        have ixn : ixN (x.map V.int).length (m : Int) = some m := by rw [List.length_map, ixN, if_pos (Int.natCast_nonneg _), if_pos (by omega)]; rfl
        refine ⟨_, rfl, _, rfl, ca, _, _, _, rfl, rfl, SqL.of c18, atx, _, rfl, b, l, _, rfl, B18, by decide, by decide, fun r2 H19 _ _ B19 k19 => ⟨_, _, rfl, rfl, _, _, rfl, rfl, ?_⟩⟩
        have c19 := (k19 ca nca).trans c18
        have S19 := S18.trans (SameB.of k19)
        refine ⟨_, rfl, _, _, rfl, rfl, pow_ok (by decide), b, l, _, rfl, B19, by decide, by decide +kernel, fun wd H20 _ _ B20 k20 => ?_⟩
        have c20 := (k20 ca nca).trans c19
        have S20 := S19.trans (SameB.of k20)
        obtain ⟨nr, hnr⟩ : ∃ v : Int, x[m] + r2 - 4 = v := ⟨_, rfl⟩
        refine ⟨_, rfl, _, rfl, by show 2 ≤ sizeLine; decide, fun lq hlq => ?_⟩
        have nlb := Ne.symm (B20.free hlq).1
        have s21 := same_new (o := .lst [V.int (x[m] + r2 - 4), V.int wd]) hlq
        have e21 : upd H20 lq (.lst [V.int (x[m] + r2 - 4), V.int wd]) lq = some (.lst [V.int (x[m] + r2 - 4), V.int wd]) := upd_same
        have B21 := B20.same s21
        have c21 := s21 _ _ c20
        have S21 := S20.trans (SameB.of_same s21)
        refine ⟨_, rfl, b, l, _, rfl, B21, by decide, by decide, fun r3 H22 q0 q1 B22 k22 => ?_⟩
        obtain ⟨v, hv⟩ : ∃ v, atI [V.int (x[m] + r2 - 4), V.int wd] r3 = some (.int v) := by
          have : r3 = 0 ∨ r3 = 1 := by omega
          rcases this with rfl | rfl
          · exact ⟨_, rfl⟩
          · exact ⟨_, rfl⟩
        have S22 := S21.trans (SameB.of k22)
        refine ⟨lq, _, r3, _, rfl, rfl, SqL.of ((k22 lq nlb).trans e21), hv, _, rfl, _, rfl, ca, _, _, m, rfl, rfl, (k22 ca nca).trans c21, ixn, ?_⟩
        refine ⟨x.set m v, _, _, _, rfl, by rw [upd_same, List.map_set], by rw [List.length_set, xn], B22.at fca, fun c o nc e => ?_⟩
        rw [upd_ne (fun z => by rw [z, ca0] at e; cases e)]
        exact S22 c o nc e
      rintro σ' H17 ⟨y, v13, v14, v15, rfl, c17, yn, B17, S17⟩
      clear S15 B15 c15 s15 hca z1 z0
      refine ⟨_, rfl, ca, _, rfl, .inl (SqL.of c17), fun ka hka => ?_⟩
      have s18 := same_new (o := .lst (y.map V.int)) hka
      have k18 : upd H17 ka (.lst (y.map V.int)) ka = some (.lst (y.map V.int)) := upd_same
      have c18 := s18 _ _ c17
      have B18 := B17.same s18
      have S18 := S17.trans (SameB.of_same s18)
      generalize upd H17 ka (.lst (y.map V.int)) = H18 at k18 c18 B18 S18
      have LS18 := LS13.draw B13 S18
      have R18 := R13.draw B13 S18
      have hB18 := hB13.draw B13 S18
      have hF18 := hF.draw B13 S18
      have stn' : inNodes y.length (stepsOf ws ls) := by rw [yn]; exact stn
      -- what is due
      refine ⟨fun σ' H' => σ' = σ0 [some (.ref hd), some (.ref ca), v13, v14, v15, some (.ref ka), some (.bl (fitsB (stepsOf ws ls) y && agB y rws))] ∧ Same H18 H', ?_, ?_⟩
      · refine ⟨_, rfl, _, rfl, st, ca, stepsOf ws ls, y, rfl, LS18, c18, stn', by omega, fun H19 s19 => ⟨_, rfl, ?_⟩⟩
        cases hf : fitsB (stepsOf ws ls) y with
        | false =>
          refine if_f rfl ?_
          exact ⟨rfl, s19⟩
        | true =>
          refine if_t rfl ?_
          refine ⟨_, rfl, _, rfl, ca, D1, y, rws, rfl, s19 _ _ c18, R18.same s19, (fun r hr => by have := hin r hr; rw [yn]; exact this), fun H20 s20 => ?_⟩
          exact ⟨rfl, same_tr s19 s20⟩
      rintro σ' H19 ⟨rfl, s19⟩
      obtain ⟨dxB, fsB, pl, ph, h0B, -, -, -, -, -, -⟩ := id hB18
      obtain ⟨dxS, fsS, ptd, h0S, f1S, g1S, -, -⟩ := id hF18
      have due : (shapeB ws ls y && inB le he y) = (fitsB (stepsOf ws ls) y && agB y rws) := by
        rw [shape_is yn]
        cases hf : fitsB (stepsOf ws ls) y with
        | false => rfl
        | true => rw [in_agrees hsh hf hin yn eo]
      have es : shapeB ws ls y = fitsB (stepsOf ws ls) y := shape_is yn
      refine ⟨_, rfl, _, rfl, bn, dxB, fsB, rfl, s19 _ _ h0B, bn, ca, site, ws, ls, le, he, y, rfl, hB18.same s19, hF18.same s19, s19 _ _ c18, by omega, hld, few, n1, n2, fun H20 s20 => ⟨_, rfl, _, rfl, _, _, rfl, ?_⟩⟩
      have s20 := same_tr s19 s20
      refine ⟨_, rfl, if_f (by rw [due]; simp) ?_⟩
      refine ⟨_, rfl, _, rfl, ne_same (xs := y) (s20 _ _ c18) (s20 _ _ k18) ⟨_, rfl, if_f (by decide) ?_⟩⟩
      refine ⟨_, rfl, site, dxS, fsS, rfl, s20 _ _ h0S, g1S, _, rfl, site, ca, ws, ls, y, rfl, hF18.same s20, s20 _ _ c18, by omega, hld, few, fun H21 s21 => ?_⟩
      have s21 := same_tr s20 s21
      refine ⟨_, rfl, _, rfl, st, ca, stepsOf ws ls, y, rfl, LS18.same s21, s21 _ _ c18, stn', by omega, fun H22 s22 => ⟨_, _, rfl, _, rfl, if_f (by rw [es]; simp) ?_⟩⟩
      have s22 := same_tr s21 s22
      -- one place more, one place less
      refine ⟨_, rfl, by show 1 ≤ sizeLine; decide, fun z hz => ⟨ca, z, _, _, rfl, rfl, same_new hz _ _ (s22 _ _ c18), upd_same, Nat.le_of_lt (small1000 (by rw [List.length_map]; show y.length + 1 ≤ 1000; omega)), fun nv hnv => ?_⟩⟩
      have s23 := same_tr s22 (same_tr (same_new (o := .lst [V.int 0]) hz) (same_new (o := .lst (y.map V.int ++ [V.int 0])) hnv))
      have e23 : upd (upd H22 z (.lst [V.int 0])) nv (.lst (y.map V.int ++ [V.int 0])) nv = some (.lst ((y ++ [0]).map V.int)) := by
        rw [upd_same, List.map_append]
        rfl
      generalize upd (upd H22 z (.lst [V.int 0])) nv (.lst (y.map V.int ++ [V.int 0])) = H23 at s23 e23 ⊢
      have m1 : shapeB ws ls (y ++ [0]) = false := shape_not (by rw [List.length_append]; show y.length + 1 ≠ _; omega)
      refine ⟨_, rfl, bn, dxB, fsB, rfl, s23 _ _ h0B, bn, nv, site, ws, ls, le, he, y ++ [0], rfl, hB18.same s23, hF18.same s23, e23, by rw [List.length_append]; show y.length + 1 ≤ 100; omega, hld, few, n1, n2, fun H24 s24 => ⟨_, rfl, _, rfl, if_f (by rw [m1]; rfl) ?_⟩⟩
      have s24 := same_tr s23 s24
      obtain ⟨l1, l2⟩ := len_last (x := y) (by omega) (by omega)
      have m2 : shapeB ws ls (butLast y) = false := shape_not (by omega)
      refine ⟨_, rfl, _, rfl, _, rfl, ca, _, rfl, SqL.of (s24 _ _ c18), fun nw hnw => ?_⟩
      have ec : cutV (y.map V.int) none (some (-1)) = (butLast y).map V.int := cut_last y
      have s25 := same_tr s24 (same_new (o := .lst ((butLast y).map V.int)) hnw)
      have e25 : upd H24 nw (.lst ((butLast y).map V.int)) nw = some (.lst ((butLast y).map V.int)) := upd_same
      rw [ec]
      generalize upd H24 nw (.lst ((butLast y).map V.int)) = H25 at s25 e25 ⊢
      refine ⟨_, rfl, bn, dxB, fsB, rfl, s25 _ _ h0B, bn, nw, site, ws, ls, le, he, butLast y, rfl, hB18.same s25, hF18.same s25, e25, by omega, hld, few, n1, n2, fun H26 s26 => ⟨_, rfl, _, rfl, if_f (by rw [m2]; rfl) ?_⟩⟩
      have s26 := same_tr s25 s26
      exact ⟨_, _, _, _, _, _, _, rfl, B18.same s26, S18.trans (SameB.of_same s26)⟩
    rintro σ' H14 ⟨v11, v12, v13, v14, v15, v16, v17, rfl, B14, S14⟩
    have hB14 := hB13.draw B13 S14
    obtain ⟨dxB, fsB, pl, ph, h0B, -, -, -, -, -, -⟩ := id hB14
    refine ⟨_, rfl, _, rfl, bn, dxB, fsB, rfl, h0B, bn, t, site, ws, ls, le, he, hs, rfl, hB14, hF.draw B13 S14, S14 _ _ (B13.neZ T13) T13, by omega, hld, few, n1, n2, fun H15 S15 => ⟨_, rfl, _, _, rfl, ?_⟩⟩
    have e : (shapeB ws ls hs && inB le he hs) = true := by
      rw [shape_is (by omega), fitT, in_agrees hsh fitT hin (by omega) eo, ag]
      rfl
    rw [e]
    exact h3 _
end
end Law

namespace Law
open PySem PySem.Spec PyProof.Rows L2 Sup NdefX
abbrev sEN : Stmt := inClass (top 4) 0
abbrev sET : Stmt := inClass (top 5) 0
abbrev sEP : Stmt := inClass (top 6) 0
abbrev sEM : Stmt := inClass (top 7) 0
abbrev sES : Stmt := inClass (top 8) 0
theorem all_mk {P : Program} {w : World} {K : PySem.W.Frag} {h : Heap} {mg : Str → Option Value} {fa : Addr} (X : K.In h) (G : h.Ns mainGlobals mg) (hfa : mg "law" = some (.ref fa)) (htop : (P.main.scope.names.lookup ("super" : Str)).isSome = false)
    {fN : Addr} {odN anN : Option Addr} {slN : Array (Option Value)} {ocN kVN dcN pmN cdN ctN : Value}
    {fK : Addr} {odK anK : Option Addr} {slK : Array (Option Value)} {ocK kVK dcK pmK cdK ctK : Value}
    {fCr : Addr} {odCr anCr : Option Addr} {slCr : Array (Option Value)} {ocCr kVCr dcCr pmCr cdCr ctCr : Value}
    {fCu : Addr} {odCu anCu : Option Addr} {slCu : Array (Option Value)} {ocCu kVCu dcCu pmCu cdCu ctCu : Value}
    {fCl : Addr} {odCl anCl : Option Addr} {slCl : Array (Option Value)} {ocCl kVCl dcCl pmCl cdCl ctCl : Value}
    {fSo : Addr} {odSo anSo : Option Addr} {slSo : Array (Option Value)} {ocSo kVSo dcSo pmSo cdSo ctSo : Value}
    {fTo : Addr} {odTo anTo : Option Addr} {slTo : Array (Option Value)} {ocTo kVTo dcTo pmTo cdTo ctTo : Value}
    {fTd : Addr} {odTd anTd : Option Addr} {slTd : Array (Option Value)} {ocTd kVTd dcTd pmTd cdTd ctTd : Value}
    {fGr : Addr} {odGr anGr : Option Addr} {slGr : Array (Option Value)} {ocGr kVGr dcGr pmGr cdGr ctGr : Value}
    {fSl : Addr} {odSl anSl : Option Addr} {slSl : Array (Option Value)} {ocSl kVSl dcSl pmSl cdSl ctSl : Value}
    {fLk : Addr} {odLk anLk : Option Addr} {slLk : Array (Option Value)} {ocLk kVLk dcLk pmLk cdLk ctLk : Value}
    {fFi : Addr} {odFi anFi : Option Addr} {slFi : Array (Option Value)} {ocFi kVFi dcFi pmFi cdFi ctFi : Value}
    {fRb : Addr} {odRb anRb : Option Addr} {slRb : Array (Option Value)} {ocRb kVRb dcRb pmRb cdRb ctRb : Value}
    {fLs : Addr} {odLs anLs : Option Addr} {slLs : Array (Option Value)} {ocLs kVLs dcLs pmLs cdLs ctLs : Value}
    {fFs : Addr} {odFs anFs : Option Addr} {slFs : Array (Option Value)} {ocFs kVFs dcFs pmFs cdFs ctFs : Value}
    {fSb : Addr} {odSb anSb : Option Addr} {slSb : Array (Option Value)} {ocSb kVSb dcSb pmSb cdSb ctSb : Value}
    {fMi : Addr} {odMi anMi : Option Addr} {slMi : Array (Option Value)} {ocMi kVMi dcMi pmMi cdMi ctMi : Value}
    {DTMi : Addr} {xoMi : Value} {xdMi : Option Addr} {xsMi : Array (Option Value)} {xnMi : Nat} {aDf : Addr}
    {fMl : Addr} {odMl anMl : Option Addr} {slMl : Array (Option Value)} {ocMl kVMl dcMl pmMl cdMl ctMl : Value}
    {fMf : Addr} {odMf anMf : Option Addr} {slMf : Array (Option Value)} {ocMf kVMf dcMf pmMf cdMf ctMf : Value}
    {fMn : Addr} {odMn anMn : Option Addr} {slMn : Array (Option Value)} {ocMn kVMn dcMn pmMn cdMn ctMn : Value}
    {fMc : Addr} {odMc anMc : Option Addr} {slMc : Array (Option Value)} {ocMc kVMc dcMc pmMc cdMc ctMc : Value}
    {fTi : Addr} {odTi anTi : Option Addr} {slTi : Array (Option Value)} {ocTi kVTi dcTi pmTi cdTi ctTi : Value}
    {fPs : Addr} {odPs anPs : Option Addr} {slPs : Array (Option Value)} {ocPs kVPs dcPs pmPs cdPs ctPs : Value}
    {fFe : Addr} {odFe anFe : Option Addr} {slFe : Array (Option Value)} {ocFe kVFe dcFe pmFe cdFe ctFe : Value}
    {fHo : Addr} {odHo anHo : Option Addr} {slHo : Array (Option Value)} {ocHo kVHo dcHo pmHo cdHo ctHo : Value}
    {fLe : Addr} {odLe anLe : Option Addr} {slLe : Array (Option Value)} {ocLe kVLe dcLe pmLe cdLe ctLe : Value}
    {fHe : Addr} {odHe anHe : Option Addr} {slHe : Array (Option Value)} {ocHe kVHe dcHe pmHe cdHe ctHe : Value}
    {fBi : Addr} {odBi anBi : Option Addr} {slBi : Array (Option Value)} {ocBi kVBi dcBi pmBi cdBi ctBi : Value}
    {DTBi : Addr} {xoBi : Value} {xdBi : Option Addr} {xsBi : Array (Option Value)} {xnBi : Nat} {aDg : Addr}
    {fBl : Addr} {odBl anBl : Option Addr} {slBl : Array (Option Value)} {ocBl kVBl dcBl pmBl cdBl ctBl : Value}
    {fBh : Addr} {odBh anBh : Option Addr} {slBh : Array (Option Value)} {ocBh kVBh dcBh pmBh cdBh ctBh : Value}
    {fBc : Addr} {odBc anBc : Option Addr} {slBc : Array (Option Value)} {ocBc kVBc dcBc pmBc cdBc ctBc : Value}
    {fB : Addr} {odB anB : Option Addr} {slB : Array (Option Value)} {ocB kVB dcB pmB cdB ctB : Value}
    {fT : Addr} {odT anT : Option Addr} {slT : Array (Option Value)} {ocT kVT dcT pmT cdT ctT : Value}
    {fTr : Addr} {odTr anTr : Option Addr} {slTr : Array (Option Value)} {ocTr kVTr dcTr pmTr cdTr ctTr : Value}
    {fSn : Addr} {odSn anSn : Option Addr} {slSn : Array (Option Value)} {ocSn kVSn dcSn pmSn cdSn ctSn : Value}
    {fSc : Addr} {odSc anSc : Option Addr} {slSc : Array (Option Value)} {ocSc kVSc dcSc pmSc cdSc ctSc : Value}
    {fLq : Addr} {odLq anLq : Option Addr} {slLq : Array (Option Value)} {ocLq kVLq dcLq pmLq cdLq ctLq : Value}
    {fSt : Addr} {odSt anSt : Option Addr} {slSt : Array (Option Value)} {ocSt kVSt dcSt pmSt cdSt ctSt : Value}
    {fTs : Addr} {odTs anTs : Option Addr} {slTs : Array (Option Value)} {ocTs kVTs dcTs pmTs cdTs ctTs : Value}
    {fTl : Addr} {odTl anTl : Option Addr} {slTl : Array (Option Value)} {ocTl kVTl dcTl pmTl cdTl ctTl : Value}
    {fBg : Addr} {odBg anBg : Option Addr} {slBg : Array (Option Value)} {ocBg kVBg dcBg pmBg cdBg ctBg : Value}
    {fTw : Addr} {odTw anTw : Option Addr} {slTw : Array (Option Value)} {ocTw kVTw dcTw pmTw cdTw ctTw : Value}
    {fLF : Addr} {odLF anLF : Option Addr} {slLF : Array (Option Value)} {ocLF kVLF dcLF pmLF cdLF ctLF : Value}
    {fAg : Addr} {odAg anAg : Option Addr} {slAg : Array (Option Value)} {ocAg kVAg dcAg pmAg cdAg ctAg : Value}
    {fSa : Addr} {odSa anSa : Option Addr} {slSa : Array (Option Value)} {ocSa kVSa dcSa pmSa cdSa ctSa : Value}
    {fL : Addr} {odL anL : Option Addr} {slL : Array (Option Value)} {ocL kVL dcL pmL cdL ctL : Value}
    {CEB fiEB cdEB ccEB NEB : Addr} {nmEB qEB : Str} {bsEB bmEB : List Value} {snEB : List Str} {subEB : List Value} {abEB : Bool} {colEB : Option Bool} {ddEB : Option Addr} {m0EB m1EB m2EB m3EB m5EB : Option Value}
    {odEB anEB dkEB deEB : Option Addr} {slEB skEB seEB : Array (Option Value)} {ocEB kVEB dcEB pmEB ctEB ckEB ceEB : Value} {vkEB : Array Value} {flEB : Str} {tfEB : Tok}
    {CEN fiEN cdEN ccEN NEN : Addr} {nmEN qEN : Str} {bsEN bmEN : List Value} {snEN : List Str} {subEN : List Value} {abEN : Bool} {colEN : Option Bool} {ddEN : Option Addr} {m0EN m1EN m2EN m3EN m5EN : Option Value}
    {odEN anEN dkEN deEN : Option Addr} {slEN skEN seEN : Array (Option Value)} {ocEN kVEN dcEN pmEN ctEN ckEN ceEN : Value} {vkEN : Array Value} {flEN : Str} {tfEN : Tok}
    {CET fiET cdET ccET NET : Addr} {nmET qET : Str} {bsET bmET : List Value} {snET : List Str} {subET : List Value} {abET : Bool} {colET : Option Bool} {ddET : Option Addr} {m0ET m1ET m2ET m3ET m5ET : Option Value}
    {odET anET dkET deET : Option Addr} {slET skET seET : Array (Option Value)} {ocET kVET dcET pmET ctET ckET ceET : Value} {vkET : Array Value} {flET : Str} {tfET : Tok}
    {CEP fiEP cdEP ccEP NEP : Addr} {nmEP qEP : Str} {bsEP bmEP : List Value} {snEP : List Str} {subEP : List Value} {abEP : Bool} {colEP : Option Bool} {ddEP : Option Addr} {m0EP m1EP m2EP m3EP m5EP : Option Value}
    {odEP anEP dkEP deEP : Option Addr} {slEP skEP seEP : Array (Option Value)} {ocEP kVEP dcEP pmEP ctEP ckEP ceEP : Value} {vkEP : Array Value} {flEP : Str} {tfEP : Tok}
    {CEM fiEM cdEM ccEM NEM : Addr} {nmEM qEM : Str} {bsEM bmEM : List Value} {snEM : List Str} {subEM : List Value} {abEM : Bool} {colEM : Option Bool} {ddEM : Option Addr} {m0EM m1EM m2EM m3EM m5EM : Option Value}
    {odEM anEM dkEM deEM : Option Addr} {slEM skEM seEM : Array (Option Value)} {ocEM kVEM dcEM pmEM ctEM ckEM ceEM : Value} {vkEM : Array Value} {flEM : Str} {tfEM : Tok}
    {CES fiES cdES ccES NES : Addr} {nmES qES : Str} {bsES bmES : List Value} {snES : List Str} {subES : List Value} {abES : Bool} {colES : Option Bool} {ddES : Option Addr} {m0ES m1ES m2ES m3ES m5ES : Option Value}
    {odES anES dkES deES : Option Addr} {slES skES seES : Array (Option Value)} {ocES kVES dcES pmES ctES ckES ceES : Value} {vkES : Array Value} {flES : Str} {tfES : Tok}
    {CSite CTrial CBounds : Addr} {tkLT tkLG tkMP tkGR tkNT : Tok}
    (aCS : PySem.W.nsIn K mainGlobals "Site" = some (some (.ref CSite)))
    (aCT : PySem.W.nsIn K mainGlobals "Trial" = some (some (.ref CTrial)))
    (aCB : PySem.W.nsIn K mainGlobals "Bounds" = some (some (.ref CBounds)))
    (aN : PySem.W.nsIn K mainGlobals "check_name" = some (some (.ref fN)))
    (lN : K.lookup fN = some ⟨ocN, odN, .func (PySem.W.fnOf "check_name" "check_name" (defArgs sCkn) (defBody sCkn) (defScope sCkn) .none kVN dcN pmN anN cdN ctN), slN⟩)
    (cN : PySem.W.codeIn K cdN "check_name" = true)
    (kN : PySem.W.keepIn K (.ref fN) = true)
    (aK : PySem.W.nsIn K mainGlobals "check_not_negative" = some (some (.ref fK)))
    (lK : K.lookup fK = some ⟨ocK, odK, .func (PySem.W.fnOf "check_not_negative" "check_not_negative" (defArgs sChk) (defBody sChk) (defScope sChk) .none kVK dcK pmK anK cdK ctK), slK⟩)
    (cK : PySem.W.codeIn K cdK "check_not_negative" = true)
    (kK : PySem.W.keepIn K (.ref fK) = true)
    (aCr : PySem.W.nsIn K mainGlobals "_check_rows" = some (some (.ref fCr)))
    (lCr : K.lookup fCr = some ⟨ocCr, odCr, .func (PySem.W.fnOf "_check_rows" "_check_rows" (defArgs sCro) (defBody sCro) (defScope sCro) .none kVCr dcCr pmCr anCr cdCr ctCr), slCr⟩)
    (cCr : PySem.W.codeIn K cdCr "_check_rows" = true)
    (kCr : PySem.W.keepIn K (.ref fCr) = true)
    (aCu : PySem.W.nsIn K mainGlobals "_check_numbers" = some (some (.ref fCu)))
    (lCu : K.lookup fCu = some ⟨ocCu, odCu, .func (PySem.W.fnOf "_check_numbers" "_check_numbers" (defArgs sCnu) (defBody sCnu) (defScope sCnu) .none kVCu dcCu pmCu anCu cdCu ctCu), slCu⟩)
    (cCu : PySem.W.codeIn K cdCu "_check_numbers" = true)
    (kCu : PySem.W.keepIn K (.ref fCu) = true)
    (aCl : PySem.W.nsIn K mainGlobals "_check_links" = some (some (.ref fCl)))
    (lCl : K.lookup fCl = some ⟨ocCl, odCl, .func (PySem.W.fnOf "_check_links" "_check_links" (defArgs sCli) (defBody sCli) (defScope sCli) .none kVCl dcCl pmCl anCl cdCl ctCl), slCl⟩)
    (cCl : PySem.W.codeIn K cdCl "_check_links" = true)
    (kCl : PySem.W.keepIn K (.ref fCl) = true)
    (aSo : PySem.W.nsIn K mainGlobals "_spots_of" = some (some (.ref fSo)))
    (lSo : K.lookup fSo = some ⟨ocSo, odSo, .func (PySem.W.fnOf "_spots_of" "_spots_of" (defArgs sSpots) (defBody sSpots) (defScope sSpots) .none kVSo dcSo pmSo anSo cdSo ctSo), slSo⟩)
    (cSo : PySem.W.codeIn K cdSo "_spots_of" = true)
    (kSo : PySem.W.keepIn K (.ref fSo) = true)
    (aTo : PySem.W.nsIn K mainGlobals "_tops_of" = some (some (.ref fTo)))
    (lTo : K.lookup fTo = some ⟨ocTo, odTo, .func (PySem.W.fnOf "_tops_of" "_tops_of" (defArgs sTops) (defBody sTops) (defScope sTops) .none kVTo dcTo pmTo anTo cdTo ctTo), slTo⟩)
    (cTo : PySem.W.codeIn K cdTo "_tops_of" = true)
    (kTo : PySem.W.keepIn K (.ref fTo) = true)
    (aTd : PySem.W.nsIn K mainGlobals "_told_limits" = some (some (.ref fTd)))
    (lTd : K.lookup fTd = some ⟨ocTd, odTd, .func (PySem.W.fnOf "_told_limits" "_told_limits" (defArgs sTold) (defBody sTold) (defScope sTold) .none kVTd dcTd pmTd anTd cdTd ctTd), slTd⟩)
    (cTd : PySem.W.codeIn K cdTd "_told_limits" = true)
    (kTd : PySem.W.keepIn K (.ref fTd) = true)
    (aGr : PySem.W.nsIn K mainGlobals "_ground_limits" = some (some (.ref fGr)))
    (lGr : K.lookup fGr = some ⟨ocGr, odGr, .func (PySem.W.fnOf "_ground_limits" "_ground_limits" (defArgs sGrd) (defBody sGrd) (defScope sGrd) .none kVGr dcGr pmGr anGr cdGr ctGr), slGr⟩)
    (cGr : PySem.W.codeIn K cdGr "_ground_limits" = true)
    (kGr : PySem.W.keepIn K (.ref fGr) = true)
    (aSl : PySem.W.nsIn K mainGlobals "_slope_limits" = some (some (.ref fSl)))
    (lSl : K.lookup fSl = some ⟨ocSl, odSl, .func (PySem.W.fnOf "_slope_limits" "_slope_limits" (defArgs sSlp) (defBody sSlp) (defScope sSlp) .none kVSl dcSl pmSl anSl cdSl ctSl), slSl⟩)
    (cSl : PySem.W.codeIn K cdSl "_slope_limits" = true)
    (kSl : PySem.W.keepIn K (.ref fSl) = true)
    (aLk : PySem.W.nsIn K mainGlobals "_link_limits" = some (some (.ref fLk)))
    (lLk : K.lookup fLk = some ⟨ocLk, odLk, .func (PySem.W.fnOf "_link_limits" "_link_limits" (defArgs sLnk) (defBody sLnk) (defScope sLnk) .none kVLk dcLk pmLk anLk cdLk ctLk), slLk⟩)
    (cLk : PySem.W.codeIn K cdLk "_link_limits" = true)
    (kLk : PySem.W.keepIn K (.ref fLk) = true)
    (aFi : PySem.W.nsIn K mainGlobals "_find_ring" = some (some (.ref fFi)))
    (lFi : K.lookup fFi = some ⟨ocFi, odFi, .func (PySem.W.fnOf "_find_ring" "_find_ring" (defArgs sFnd) (defBody sFnd) (defScope sFnd) .none kVFi dcFi pmFi anFi cdFi ctFi), slFi⟩)
    (cFi : PySem.W.codeIn K cdFi "_find_ring" = true)
    (kFi : PySem.W.keepIn K (.ref fFi) = true)
    (aRb : PySem.W.nsIn K mainGlobals "_ring_behind" = some (some (.ref fRb)))
    (lRb : K.lookup fRb = some ⟨ocRb, odRb, .func (PySem.W.fnOf "_ring_behind" "_ring_behind" (defArgs sRgb) (defBody sRgb) (defScope sRgb) .none kVRb dcRb pmRb anRb cdRb ctRb), slRb⟩)
    (cRb : PySem.W.codeIn K cdRb "_ring_behind" = true)
    (kRb : PySem.W.keepIn K (.ref fRb) = true)
    (aLs : PySem.W.nsIn K mainGlobals "_least_sums" = some (some (.ref fLs)))
    (lLs : K.lookup fLs = some ⟨ocLs, odLs, .func (PySem.W.fnOf "_least_sums" "_least_sums" (defArgs sLst) (defBody sLst) (defScope sLst) .none kVLs dcLs pmLs anLs cdLs ctLs), slLs⟩)
    (cLs : PySem.W.codeIn K cdLs "_least_sums" = true)
    (kLs : PySem.W.keepIn K (.ref fLs) = true)
    (aFs : PySem.W.nsIn K mainGlobals "_first_sum" = some (some (.ref fFs)))
    (lFs : K.lookup fFs = some ⟨ocFs, odFs, .func (PySem.W.fnOf "_first_sum" "_first_sum" (defArgs sFst) (defBody sFst) (defScope sFst) .none kVFs dcFs pmFs anFs cdFs ctFs), slFs⟩)
    (cFs : PySem.W.codeIn K cdFs "_first_sum" = true)
    (kFs : PySem.W.keepIn K (.ref fFs) = true)
    (aSb : PySem.W.nsIn K mainGlobals "_sums_by" = some (some (.ref fSb)))
    (lSb : K.lookup fSb = some ⟨ocSb, odSb, .func (PySem.W.fnOf "_sums_by" "_sums_by" (defArgs sSby) (defBody sSby) (defScope sSby) .none kVSb dcSb pmSb anSb cdSb ctSb), slSb⟩)
    (cSb : PySem.W.codeIn K cdSb "_sums_by" = true)
    (kSb : PySem.W.keepIn K (.ref fSb) = true)
    (aMi : PySem.W.findIn K (.ref CSite) "__init__" = some (some (.ref fMi)))
    (lMi : K.lookup fMi = some ⟨ocMi, odMi, .func (PySem.W.fnOf "__init__" "Site.__init__" (defArgs sSini) (defBody sSini) (defScope sSini) (.ref DTMi) kVMi dcMi pmMi anMi cdMi ctMi), slMi⟩)
    (cMi : PySem.W.codeIn K cdMi "Site.__init__" = true)
    (kMi : PySem.W.keepIn K (.ref fMi) = true)
    (iMi : PySem.W.isFn K (.ref fMi) = true)
    (dMi : K.lookup DTMi = some ⟨xoMi, xdMi, .seq #[.ref aDf] xnMi, xsMi⟩)
    (aMl : PySem.W.findIn K (.ref CSite) "limit" = some (some (.ref fMl)))
    (lMl : K.lookup fMl = some ⟨ocMl, odMl, .func (PySem.W.fnOf "limit" "Site.limit" (defArgs sLim) (defBody sLim) (defScope sLim) .none kVMl dcMl pmMl anMl cdMl ctMl), slMl⟩)
    (cMl : PySem.W.codeIn K cdMl "Site.limit" = true)
    (kMl : PySem.W.keepIn K (.ref fMl) = true)
    (iMl : PySem.W.isFn K (.ref fMl) = true)
    (aMf : PySem.W.findIn K (.ref CSite) "fits" = some (some (.ref fMf)))
    (lMf : K.lookup fMf = some ⟨ocMf, odMf, .func (PySem.W.fnOf "fits" "Site.fits" (defArgs sSfi) (defBody sSfi) (defScope sSfi) .none kVMf dcMf pmMf anMf cdMf ctMf), slMf⟩)
    (cMf : PySem.W.codeIn K cdMf "Site.fits" = true)
    (kMf : PySem.W.keepIn K (.ref fMf) = true)
    (iMf : PySem.W.isFn K (.ref fMf) = true)
    (aMn : PySem.W.findIn K (.ref CSite) "check_nodes" = some (some (.ref fMn)))
    (lMn : K.lookup fMn = some ⟨ocMn, odMn, .func (PySem.W.fnOf "check_nodes" "Site.check_nodes" (defArgs sChn) (defBody sChn) (defScope sChn) .none kVMn dcMn pmMn anMn cdMn ctMn), slMn⟩)
    (cMn : PySem.W.codeIn K cdMn "Site.check_nodes" = true)
    (kMn : PySem.W.keepIn K (.ref fMn) = true)
    (iMn : PySem.W.isFn K (.ref fMn) = true)
    (aMc : PySem.W.findIn K (.ref CSite) "check_place" = some (some (.ref fMc)))
    (lMc : K.lookup fMc = some ⟨ocMc, odMc, .func (PySem.W.fnOf "check_place" "Site.check_place" (defArgs sCp) (defBody sCp) (defScope sCp) .none kVMc dcMc pmMc anMc cdMc ctMc), slMc⟩)
    (cMc : PySem.W.codeIn K cdMc "Site.check_place" = true)
    (kMc : PySem.W.keepIn K (.ref fMc) = true)
    (iMc : PySem.W.isFn K (.ref fMc) = true)
    (aTi : PySem.W.findIn K (.ref CTrial) "__init__" = some (some (.ref fTi)))
    (lTi : K.lookup fTi = some ⟨ocTi, odTi, .func (PySem.W.fnOf "__init__" "Trial.__init__" (defArgs sTini) (defBody sTini) (defScope sTini) .none kVTi dcTi pmTi anTi cdTi ctTi), slTi⟩)
    (cTi : PySem.W.codeIn K cdTi "Trial.__init__" = true)
    (kTi : PySem.W.keepIn K (.ref fTi) = true)
    (iTi : PySem.W.isFn K (.ref fTi) = true)
    (aPs : PySem.W.nsIn K mainGlobals "check_places" = some (some (.ref fPs)))
    (lPs : K.lookup fPs = some ⟨ocPs, odPs, .func (PySem.W.fnOf "check_places" "check_places" (defArgs sCps) (defBody sCps) (defScope sCps) .none kVPs dcPs pmPs anPs cdPs ctPs), slPs⟩)
    (cPs : PySem.W.codeIn K cdPs "check_places" = true)
    (kPs : PySem.W.keepIn K (.ref fPs) = true)
    (aFe : PySem.W.nsIn K mainGlobals "find_edges" = some (some (.ref fFe)))
    (lFe : K.lookup fFe = some ⟨ocFe, odFe, .func (PySem.W.fnOf "find_edges" "find_edges" (defArgs sFed) (defBody sFed) (defScope sFed) .none kVFe dcFe pmFe anFe cdFe ctFe), slFe⟩)
    (cFe : PySem.W.codeIn K cdFe "find_edges" = true)
    (kFe : PySem.W.keepIn K (.ref fFe) = true)
    (aHo : PySem.W.nsIn K mainGlobals "heights_of" = some (some (.ref fHo)))
    (lHo : K.lookup fHo = some ⟨ocHo, odHo, .func (PySem.W.fnOf "heights_of" "heights_of" (defArgs sHof) (defBody sHof) (defScope sHof) .none kVHo dcHo pmHo anHo cdHo ctHo), slHo⟩)
    (cHo : PySem.W.codeIn K cdHo "heights_of" = true)
    (kHo : PySem.W.keepIn K (.ref fHo) = true)
    (aLe : PySem.W.nsIn K mainGlobals "_low_edge" = some (some (.ref fLe)))
    (lLe : K.lookup fLe = some ⟨ocLe, odLe, .func (PySem.W.fnOf "_low_edge" "_low_edge" (defArgs sLed) (defBody sLed) (defScope sLed) .none kVLe dcLe pmLe anLe cdLe ctLe), slLe⟩)
    (cLe : PySem.W.codeIn K cdLe "_low_edge" = true)
    (kLe : PySem.W.keepIn K (.ref fLe) = true)
    (aHe : PySem.W.nsIn K mainGlobals "_high_edge" = some (some (.ref fHe)))
    (lHe : K.lookup fHe = some ⟨ocHe, odHe, .func (PySem.W.fnOf "_high_edge" "_high_edge" (defArgs sHed) (defBody sHed) (defScope sHed) .none kVHe dcHe pmHe anHe cdHe ctHe), slHe⟩)
    (cHe : PySem.W.codeIn K cdHe "_high_edge" = true)
    (kHe : PySem.W.keepIn K (.ref fHe) = true)
    (aBi : PySem.W.findIn K (.ref CBounds) "__init__" = some (some (.ref fBi)))
    (lBi : K.lookup fBi = some ⟨ocBi, odBi, .func (PySem.W.fnOf "__init__" "Bounds.__init__" (defArgs sBini) (defBody sBini) (defScope sBini) (.ref DTBi) kVBi dcBi pmBi anBi cdBi ctBi), slBi⟩)
    (cBi : PySem.W.codeIn K cdBi "Bounds.__init__" = true)
    (kBi : PySem.W.keepIn K (.ref fBi) = true)
    (iBi : PySem.W.isFn K (.ref fBi) = true)
    (dBi : K.lookup DTBi = some ⟨xoBi, xdBi, .seq #[.ref aDg] xnBi, xsBi⟩)
    (aBl : PySem.W.findIn K (.ref CBounds) "lows" = some (some (.ref fBl)))
    (lBl : K.lookup fBl = some ⟨ocBl, odBl, .func (PySem.W.fnOf "lows" "Bounds.lows" (defArgs sBlo) (defBody sBlo) (defScope sBlo) .none kVBl dcBl pmBl anBl cdBl ctBl), slBl⟩)
    (cBl : PySem.W.codeIn K cdBl "Bounds.lows" = true)
    (kBl : PySem.W.keepIn K (.ref fBl) = true)
    (iBl : PySem.W.isFn K (.ref fBl) = true)
    (aBh : PySem.W.findIn K (.ref CBounds) "highs" = some (some (.ref fBh)))
    (lBh : K.lookup fBh = some ⟨ocBh, odBh, .func (PySem.W.fnOf "highs" "Bounds.highs" (defArgs sBhi) (defBody sBhi) (defScope sBhi) .none kVBh dcBh pmBh anBh cdBh ctBh), slBh⟩)
    (cBh : PySem.W.codeIn K cdBh "Bounds.highs" = true)
    (kBh : PySem.W.keepIn K (.ref fBh) = true)
    (iBh : PySem.W.isFn K (.ref fBh) = true)
    (aBc : PySem.W.findIn K (.ref CBounds) "__contains__" = some (some (.ref fBc)))
    (lBc : K.lookup fBc = some ⟨ocBc, odBc, .func (PySem.W.fnOf "__contains__" "Bounds.__contains__" (defArgs sBcon) (defBody sBcon) (defScope sBcon) .none kVBc dcBc pmBc anBc cdBc ctBc), slBc⟩)
    (cBc : PySem.W.codeIn K cdBc "Bounds.__contains__" = true)
    (kBc : PySem.W.keepIn K (.ref fBc) = true)
    (iBc : PySem.W.isFn K (.ref fBc) = true)
    (aB : PySem.W.nsIn K mainGlobals "_law_box" = some (some (.ref fB)))
    (lB : K.lookup fB = some ⟨ocB, odB, .func (PySem.W.fnOf "_law_box" "_law_box" (defArgs sBox) (defBody sBox) (defScope sBox) .none kVB dcB pmB anB cdB ctB), slB⟩)
    (cB : PySem.W.codeIn K cdB "_law_box" = true)
    (kB : PySem.W.keepIn K (.ref fB) = true)
    (aT : PySem.W.nsIn K mainGlobals "_law_take" = some (some (.ref fT)))
    (lT : K.lookup fT = some ⟨ocT, odT, .func (PySem.W.fnOf "_law_take" "_law_take" (defArgs sTake) (defBody sTake) (defScope sTake) .none kVT dcT pmT anT cdT ctT), slT⟩)
    (cT : PySem.W.codeIn K cdT "_law_take" = true)
    (kT : PySem.W.keepIn K (.ref fT) = true)
    (aTr : PySem.W.nsIn K mainGlobals "_law_truth" = some (some (.ref fTr)))
    (lTr : K.lookup fTr = some ⟨ocTr, odTr, .func (PySem.W.fnOf "_law_truth" "_law_truth" (defArgs sTru) (defBody sTru) (defScope sTru) .none kVTr dcTr pmTr anTr cdTr ctTr), slTr⟩)
    (cTr : PySem.W.codeIn K cdTr "_law_truth" = true)
    (kTr : PySem.W.keepIn K (.ref fTr) = true)
    (aSn : PySem.W.nsIn K mainGlobals "_law_span" = some (some (.ref fSn)))
    (lSn : K.lookup fSn = some ⟨ocSn, odSn, .func (PySem.W.fnOf "_law_span" "_law_span" (defArgs sSpn) (defBody sSpn) (defScope sSpn) .none kVSn dcSn pmSn anSn cdSn ctSn), slSn⟩)
    (cSn : PySem.W.codeIn K cdSn "_law_span" = true)
    (kSn : PySem.W.keepIn K (.ref fSn) = true)
    (aSc : PySem.W.nsIn K mainGlobals "_law_spec" = some (some (.ref fSc)))
    (lSc : K.lookup fSc = some ⟨ocSc, odSc, .func (PySem.W.fnOf "_law_spec" "_law_spec" (defArgs sSpc) (defBody sSpc) (defScope sSpc) .none kVSc dcSc pmSc anSc cdSc ctSc), slSc⟩)
    (cSc : PySem.W.codeIn K cdSc "_law_spec" = true)
    (kSc : PySem.W.keepIn K (.ref fSc) = true)
    (aLq : PySem.W.nsIn K mainGlobals "_law_links" = some (some (.ref fLq)))
    (lLq : K.lookup fLq = some ⟨ocLq, odLq, .func (PySem.W.fnOf "_law_links" "_law_links" (defArgs sLkL) (defBody sLkL) (defScope sLkL) .none kVLq dcLq pmLq anLq cdLq ctLq), slLq⟩)
    (cLq : PySem.W.codeIn K cdLq "_law_links" = true)
    (kLq : PySem.W.keepIn K (.ref fLq) = true)
    (aSt : PySem.W.nsIn K mainGlobals "_law_steps" = some (some (.ref fSt)))
    (lSt : K.lookup fSt = some ⟨ocSt, odSt, .func (PySem.W.fnOf "_law_steps" "_law_steps" (defArgs sStp) (defBody sStp) (defScope sStp) .none kVSt dcSt pmSt anSt cdSt ctSt), slSt⟩)
    (cSt : PySem.W.codeIn K cdSt "_law_steps" = true)
    (kSt : PySem.W.keepIn K (.ref fSt) = true)
    (aTs : PySem.W.nsIn K mainGlobals "_law_tries" = some (some (.ref fTs)))
    (lTs : K.lookup fTs = some ⟨ocTs, odTs, .func (PySem.W.fnOf "_law_tries" "_law_tries" (defArgs sTrs) (defBody sTrs) (defScope sTrs) .none kVTs dcTs pmTs anTs cdTs ctTs), slTs⟩)
    (cTs : PySem.W.codeIn K cdTs "_law_tries" = true)
    (kTs : PySem.W.keepIn K (.ref fTs) = true)
    (aTl : PySem.W.nsIn K mainGlobals "_law_trials" = some (some (.ref fTl)))
    (lTl : K.lookup fTl = some ⟨ocTl, odTl, .func (PySem.W.fnOf "_law_trials" "_law_trials" (defArgs sTrl) (defBody sTrl) (defScope sTrl) .none kVTl dcTl pmTl anTl cdTl ctTl), slTl⟩)
    (cTl : PySem.W.codeIn K cdTl "_law_trials" = true)
    (kTl : PySem.W.keepIn K (.ref fTl) = true)
    (aBg : PySem.W.nsIn K mainGlobals "_law_big" = some (some (.ref fBg)))
    (lBg : K.lookup fBg = some ⟨ocBg, odBg, .func (PySem.W.fnOf "_law_big" "_law_big" (defArgs sBig) (defBody sBig) (defScope sBig) .none kVBg dcBg pmBg anBg cdBg ctBg), slBg⟩)
    (cBg : PySem.W.codeIn K cdBg "_law_big" = true)
    (kBg : PySem.W.keepIn K (.ref fBg) = true)
    (aTw : PySem.W.nsIn K mainGlobals "_law_true" = some (some (.ref fTw)))
    (lTw : K.lookup fTw = some ⟨ocTw, odTw, .func (PySem.W.fnOf "_law_true" "_law_true" (defArgs sTrw) (defBody sTrw) (defScope sTrw) .none kVTw dcTw pmTw anTw cdTw ctTw), slTw⟩)
    (cTw : PySem.W.codeIn K cdTw "_law_true" = true)
    (kTw : PySem.W.keepIn K (.ref fTw) = true)
    (aLF : PySem.W.nsIn K mainGlobals "_law_fits" = some (some (.ref fLF)))
    (lLF : K.lookup fLF = some ⟨ocLF, odLF, .func (PySem.W.fnOf "_law_fits" "_law_fits" (defArgs sLFi) (defBody sLFi) (defScope sLFi) .none kVLF dcLF pmLF anLF cdLF ctLF), slLF⟩)
    (cLF : PySem.W.codeIn K cdLF "_law_fits" = true)
    (kLF : PySem.W.keepIn K (.ref fLF) = true)
    (aAg : PySem.W.nsIn K mainGlobals "_law_agrees" = some (some (.ref fAg)))
    (lAg : K.lookup fAg = some ⟨ocAg, odAg, .func (PySem.W.fnOf "_law_agrees" "_law_agrees" (defArgs sAgr) (defBody sAgr) (defScope sAgr) .none kVAg dcAg pmAg anAg cdAg ctAg), slAg⟩)
    (cAg : PySem.W.codeIn K cdAg "_law_agrees" = true)
    (kAg : PySem.W.keepIn K (.ref fAg) = true)
    (aSa : PySem.W.nsIn K mainGlobals "_law_says" = some (some (.ref fSa)))
    (lSa : K.lookup fSa = some ⟨ocSa, odSa, .func (PySem.W.fnOf "_law_says" "_law_says" (defArgs sSay) (defBody sSay) (defScope sSay) .none kVSa dcSa pmSa anSa cdSa ctSa), slSa⟩)
    (cSa : PySem.W.codeIn K cdSa "_law_says" = true)
    (kSa : PySem.W.keepIn K (.ref fSa) = true)
    (aL : PySem.W.nsIn K mainGlobals "law" = some (some (.ref fL)))
    (lL : K.lookup fL = some ⟨ocL, odL, .func (PySem.W.fnOf "law" "law" (defArgs sLaw) (defBody sLaw) (defScope sLaw) .none kVL dcL pmL anL cdL ctL), slL⟩)
    (cL : PySem.W.codeIn K cdL "law" = true)
    (kL : PySem.W.keepIn K (.ref fL) = true)
    (opq : PySem.W.nsIn K cStatics "thirdparty.any" = some none)
    (nsup : PySem.W.nsIn K mainGlobals "super" = some none)
    (aEB : PySem.W.nsIn K mainGlobals "BadNumber" = some (some (.ref CEB)))
    (xEB : K.lookup CEB = some (excClassObj nmEB qEB CEB NEB bsEB bmEB true snEB subEB abEB colEB ddEB m0EB m1EB m2EB m3EB m5EB "ValueError.__new__"))
    (bvEB : PySem.HandSPX.refsVE bmEB = true)
    (saEB : PySem.W.findIn K (.ref CEB) "__setattr__" = some (some (.builtin "object.__setattr__")))
    (gaEB : PySem.W.findIn K (.ref CEB) "__getattribute__" = some (some (.builtin "BaseException.__getattribute__")))
    (ggEB : PySem.W.findIn K (.ref CEB) "__getattr__" = some none)
    (nbEB : PySem.W.findIn K (.ref CEB) "value" = some none)
    (iEB : PySem.W.findIn K (.ref CEB) "__init__" = some (some (.ref fiEB)))
    (tEB : PySem.W.typeIn K (.ref fiEB) = some (.type "function"))
    (lEB : K.lookup fiEB = some ⟨ocEB, odEB, .func (PySem.W.fnX "__init__" "BadNumber.__init__" (defArgs sErr) (defBody sErr) (defScope sErr) [("__class__", ccEB)] .none kVEB dcEB pmEB anEB (.ref cdEB) ctEB), slEB⟩)
    (coEB : PySem.W.codeIn K (.ref cdEB) "BadNumber.__init__" = true)
    (lkEB : K.lookup cdEB = some ⟨ckEB, dkEB, .fields vkEB, skEB⟩)
    (vkEBx : vkEB[2]? = some (.str flEB tfEB))
    (feEB : ((P.main.file : Str) == flEB) = true)
    (leEB : K.lookup ccEB = some ⟨ceEB, deEB, .cell (some (.ref CEB)), seEB⟩)
    (mrEB : PySem.W.mroIn K CEB (.ref CEB) = some true)
    (upEB : PySem.W.ks_superIn K CEB CEB "__init__" = some (some (.builtin "ValueError.__init__")))
    (svEB : PySem.W.subIn K (.ref CEB) (.type "ValueError") = some true)
    (kcEB : PySem.W.keepIn K (.ref CEB) = true)
    (ebEB : PySem.W.subIn K (.ref CEB) (.type "BaseException") = some true)
    (tyEB : PySem.W.typeIn K (.ref CEB) = some (.type "type"))
    (hdEB : PySem.W.hasDictIn K CEB = true)
    (ssEB : PySem.W.subIn K (.ref CEB) (.ref CEB) = some true)
    (aEN : PySem.W.nsIn K mainGlobals "BadName" = some (some (.ref CEN)))
    (xEN : K.lookup CEN = some (excClassObj nmEN qEN CEN NEN bsEN bmEN true snEN subEN abEN colEN ddEN m0EN m1EN m2EN m3EN m5EN "ValueError.__new__"))
    (bvEN : PySem.HandSPX.refsVE bmEN = true)
    (saEN : PySem.W.findIn K (.ref CEN) "__setattr__" = some (some (.builtin "object.__setattr__")))
    (gaEN : PySem.W.findIn K (.ref CEN) "__getattribute__" = some (some (.builtin "BaseException.__getattribute__")))
    (ggEN : PySem.W.findIn K (.ref CEN) "__getattr__" = some none)
    (nbEN : PySem.W.findIn K (.ref CEN) "name" = some none)
    (iEN : PySem.W.findIn K (.ref CEN) "__init__" = some (some (.ref fiEN)))
    (tEN : PySem.W.typeIn K (.ref fiEN) = some (.type "function"))
    (lEN : K.lookup fiEN = some ⟨ocEN, odEN, .func (PySem.W.fnX "__init__" "BadName.__init__" (defArgs sEN) (defBody sEN) (defScope sEN) [("__class__", ccEN)] .none kVEN dcEN pmEN anEN (.ref cdEN) ctEN), slEN⟩)
    (coEN : PySem.W.codeIn K (.ref cdEN) "BadName.__init__" = true)
    (lkEN : K.lookup cdEN = some ⟨ckEN, dkEN, .fields vkEN, skEN⟩)
    (vkENx : vkEN[2]? = some (.str flEN tfEN))
    (feEN : ((P.main.file : Str) == flEN) = true)
    (leEN : K.lookup ccEN = some ⟨ceEN, deEN, .cell (some (.ref CEN)), seEN⟩)
    (mrEN : PySem.W.mroIn K CEN (.ref CEN) = some true)
    (upEN : PySem.W.ks_superIn K CEN CEN "__init__" = some (some (.builtin "ValueError.__init__")))
    (svEN : PySem.W.subIn K (.ref CEN) (.type "ValueError") = some true)
    (kcEN : PySem.W.keepIn K (.ref CEN) = true)
    (ebEN : PySem.W.subIn K (.ref CEN) (.type "BaseException") = some true)
    (tyEN : PySem.W.typeIn K (.ref CEN) = some (.type "type"))
    (hdEN : PySem.W.hasDictIn K CEN = true)
    (ssEN : PySem.W.subIn K (.ref CEN) (.ref CEN) = some true)
    (aET : PySem.W.nsIn K mainGlobals "TakenName" = some (some (.ref CET)))
    (xET : K.lookup CET = some (excClassObj nmET qET CET NET bsET bmET true snET subET abET colET ddET m0ET m1ET m2ET m3ET m5ET "ValueError.__new__"))
    (bvET : PySem.HandSPX.refsVE bmET = true)
    (saET : PySem.W.findIn K (.ref CET) "__setattr__" = some (some (.builtin "object.__setattr__")))
    (gaET : PySem.W.findIn K (.ref CET) "__getattribute__" = some (some (.builtin "BaseException.__getattribute__")))
    (ggET : PySem.W.findIn K (.ref CET) "__getattr__" = some none)
    (nbET : PySem.W.findIn K (.ref CET) "name" = some none)
    (iET : PySem.W.findIn K (.ref CET) "__init__" = some (some (.ref fiET)))
    (tET : PySem.W.typeIn K (.ref fiET) = some (.type "function"))
    (lET : K.lookup fiET = some ⟨ocET, odET, .func (PySem.W.fnX "__init__" "TakenName.__init__" (defArgs sET) (defBody sET) (defScope sET) [("__class__", ccET)] .none kVET dcET pmET anET (.ref cdET) ctET), slET⟩)
    (coET : PySem.W.codeIn K (.ref cdET) "TakenName.__init__" = true)
    (lkET : K.lookup cdET = some ⟨ckET, dkET, .fields vkET, skET⟩)
    (vkETx : vkET[2]? = some (.str flET tfET))
    (feET : ((P.main.file : Str) == flET) = true)
    (leET : K.lookup ccET = some ⟨ceET, deET, .cell (some (.ref CET)), seET⟩)
    (mrET : PySem.W.mroIn K CET (.ref CET) = some true)
    (upET : PySem.W.ks_superIn K CET CET "__init__" = some (some (.builtin "ValueError.__init__")))
    (svET : PySem.W.subIn K (.ref CET) (.type "ValueError") = some true)
    (kcET : PySem.W.keepIn K (.ref CET) = true)
    (ebET : PySem.W.subIn K (.ref CET) (.type "BaseException") = some true)
    (tyET : PySem.W.typeIn K (.ref CET) = some (.type "type"))
    (hdET : PySem.W.hasDictIn K CET = true)
    (ssET : PySem.W.subIn K (.ref CET) (.ref CET) = some true)
    (aEP : PySem.W.nsIn K mainGlobals "NoPlace" = some (some (.ref CEP)))
    (xEP : K.lookup CEP = some (excClassObj nmEP qEP CEP NEP bsEP bmEP true snEP subEP abEP colEP ddEP m0EP m1EP m2EP m3EP m5EP "ValueError.__new__"))
    (bvEP : PySem.HandSPX.refsVE bmEP = true)
    (saEP : PySem.W.findIn K (.ref CEP) "__setattr__" = some (some (.builtin "object.__setattr__")))
    (gaEP : PySem.W.findIn K (.ref CEP) "__getattribute__" = some (some (.builtin "BaseException.__getattribute__")))
    (ggEP : PySem.W.findIn K (.ref CEP) "__getattr__" = some none)
    (nbEP : PySem.W.findIn K (.ref CEP) "place" = some none)
    (iEP : PySem.W.findIn K (.ref CEP) "__init__" = some (some (.ref fiEP)))
    (tEP : PySem.W.typeIn K (.ref fiEP) = some (.type "function"))
    (lEP : K.lookup fiEP = some ⟨ocEP, odEP, .func (PySem.W.fnX "__init__" "NoPlace.__init__" (defArgs sEP) (defBody sEP) (defScope sEP) [("__class__", ccEP)] .none kVEP dcEP pmEP anEP (.ref cdEP) ctEP), slEP⟩)
    (coEP : PySem.W.codeIn K (.ref cdEP) "NoPlace.__init__" = true)
    (lkEP : K.lookup cdEP = some ⟨ckEP, dkEP, .fields vkEP, skEP⟩)
    (vkEPx : vkEP[2]? = some (.str flEP tfEP))
    (feEP : ((P.main.file : Str) == flEP) = true)
    (leEP : K.lookup ccEP = some ⟨ceEP, deEP, .cell (some (.ref CEP)), seEP⟩)
    (mrEP : PySem.W.mroIn K CEP (.ref CEP) = some true)
    (upEP : PySem.W.ks_superIn K CEP CEP "__init__" = some (some (.builtin "ValueError.__init__")))
    (svEP : PySem.W.subIn K (.ref CEP) (.type "ValueError") = some true)
    (kcEP : PySem.W.keepIn K (.ref CEP) = true)
    (ebEP : PySem.W.subIn K (.ref CEP) (.type "BaseException") = some true)
    (tyEP : PySem.W.typeIn K (.ref CEP) = some (.type "type"))
    (hdEP : PySem.W.hasDictIn K CEP = true)
    (ssEP : PySem.W.subIn K (.ref CEP) (.ref CEP) = some true)
    (aEM : PySem.W.nsIn K mainGlobals "TooMany" = some (some (.ref CEM)))
    (xEM : K.lookup CEM = some (excClassObj nmEM qEM CEM NEM bsEM bmEM true snEM subEM abEM colEM ddEM m0EM m1EM m2EM m3EM m5EM "ValueError.__new__"))
    (bvEM : PySem.HandSPX.refsVE bmEM = true)
    (saEM : PySem.W.findIn K (.ref CEM) "__setattr__" = some (some (.builtin "object.__setattr__")))
    (gaEM : PySem.W.findIn K (.ref CEM) "__getattribute__" = some (some (.builtin "BaseException.__getattribute__")))
    (ggEM : PySem.W.findIn K (.ref CEM) "__getattr__" = some none)
    (nbEM : PySem.W.findIn K (.ref CEM) "count" = some none)
    (iEM : PySem.W.findIn K (.ref CEM) "__init__" = some (some (.ref fiEM)))
    (tEM : PySem.W.typeIn K (.ref fiEM) = some (.type "function"))
    (lEM : K.lookup fiEM = some ⟨ocEM, odEM, .func (PySem.W.fnX "__init__" "TooMany.__init__" (defArgs sEM) (defBody sEM) (defScope sEM) [("__class__", ccEM)] .none kVEM dcEM pmEM anEM (.ref cdEM) ctEM), slEM⟩)
    (coEM : PySem.W.codeIn K (.ref cdEM) "TooMany.__init__" = true)
    (lkEM : K.lookup cdEM = some ⟨ckEM, dkEM, .fields vkEM, skEM⟩)
    (vkEMx : vkEM[2]? = some (.str flEM tfEM))
    (feEM : ((P.main.file : Str) == flEM) = true)
    (leEM : K.lookup ccEM = some ⟨ceEM, deEM, .cell (some (.ref CEM)), seEM⟩)
    (mrEM : PySem.W.mroIn K CEM (.ref CEM) = some true)
    (upEM : PySem.W.ks_superIn K CEM CEM "__init__" = some (some (.builtin "ValueError.__init__")))
    (svEM : PySem.W.subIn K (.ref CEM) (.type "ValueError") = some true)
    (kcEM : PySem.W.keepIn K (.ref CEM) = true)
    (ebEM : PySem.W.subIn K (.ref CEM) (.type "BaseException") = some true)
    (tyEM : PySem.W.typeIn K (.ref CEM) = some (.type "type"))
    (hdEM : PySem.W.hasDictIn K CEM = true)
    (ssEM : PySem.W.subIn K (.ref CEM) (.ref CEM) = some true)
    (aES : PySem.W.nsIn K mainGlobals "NoSite" = some (some (.ref CES)))
    (xES : K.lookup CES = some (excClassObj nmES qES CES NES bsES bmES true snES subES abES colES ddES m0ES m1ES m2ES m3ES m5ES "ValueError.__new__"))
    (bvES : PySem.HandSPX.refsVE bmES = true)
    (saES : PySem.W.findIn K (.ref CES) "__setattr__" = some (some (.builtin "object.__setattr__")))
    (gaES : PySem.W.findIn K (.ref CES) "__getattribute__" = some (some (.builtin "BaseException.__getattribute__")))
    (ggES : PySem.W.findIn K (.ref CES) "__getattr__" = some none)
    (nbES : PySem.W.findIn K (.ref CES) "ring" = some none)
    (iES : PySem.W.findIn K (.ref CES) "__init__" = some (some (.ref fiES)))
    (tES : PySem.W.typeIn K (.ref fiES) = some (.type "function"))
    (lES : K.lookup fiES = some ⟨ocES, odES, .func (PySem.W.fnX "__init__" "NoSite.__init__" (defArgs sES) (defBody sES) (defScope sES) [("__class__", ccES)] .none kVES dcES pmES anES (.ref cdES) ctES), slES⟩)
    (coES : PySem.W.codeIn K (.ref cdES) "NoSite.__init__" = true)
    (lkES : K.lookup cdES = some ⟨ckES, dkES, .fields vkES, skES⟩)
    (vkESx : vkES[2]? = some (.str flES tfES))
    (feES : ((P.main.file : Str) == flES) = true)
    (leES : K.lookup ccES = some ⟨ceES, deES, .cell (some (.ref CES)), seES⟩)
    (mrES : PySem.W.mroIn K CES (.ref CES) = some true)
    (upES : PySem.W.ks_superIn K CES CES "__init__" = some (some (.builtin "ValueError.__init__")))
    (svES : PySem.W.subIn K (.ref CES) (.type "ValueError") = some true)
    (kcES : PySem.W.keepIn K (.ref CES) = true)
    (ebES : PySem.W.subIn K (.ref CES) (.type "BaseException") = some true)
    (tyES : PySem.W.typeIn K (.ref CES) = some (.type "type"))
    (hdES : PySem.W.hasDictIn K CES = true)
    (ssES : PySem.W.subIn K (.ref CES) (.ref CES) = some true)
    (n_len : PySem.W.nsIn K mainGlobals "len" = some none)
    (n_int : PySem.W.nsIn K mainGlobals "int" = some none)
    (n_bool : PySem.W.nsIn K mainGlobals "bool" = some none)
    (n_isinstance : PySem.W.nsIn K mainGlobals "isinstance" = some none)
    (n_range : PySem.W.nsIn K mainGlobals "range" = some none)
    (n_list : PySem.W.nsIn K mainGlobals "list" = some none)
    (n_tuple : PySem.W.nsIn K mainGlobals "tuple" = some none)
    (n_enumerate : PySem.W.nsIn K mainGlobals "enumerate" = some none)
    (n_zip : PySem.W.nsIn K mainGlobals "zip" = some none)
    (n_max : PySem.W.nsIn K mainGlobals "max" = some none)
    (n_min : PySem.W.nsIn K mainGlobals "min" = some none)
    (n_all : PySem.W.nsIn K mainGlobals "all" = some none)
    (n_any : PySem.W.nsIn K mainGlobals "any" = some none)
    (cPG : PySem.W.plainGet K CSite Str.empty = true)
    (cHD : PySem.W.hasDictIn K CSite = true)
    (cPO : PySem.W.plainOver K CSite = true)
    (cSA : PySem.W.findIn K (.ref CSite) "__setattr__" = some (some (.builtin "object.__setattr__")))
    (cN0 : PySem.W.findIn K (.ref CSite) "_rows" = some none)
    (cN1 : PySem.W.findIn K (.ref CSite) "_links" = some none)
    (cN2 : PySem.W.findIn K (.ref CSite) "_spots" = some none)
    (cN3 : PySem.W.findIn K (.ref CSite) "_places" = some none)
    (cN4 : PySem.W.findIn K (.ref CSite) "_tops" = some none)
    (cN5 : PySem.W.findIn K (.ref CSite) "size" = some none)
    (cN6 : PySem.W.findIn K (.ref CSite) "_told" = some none)
    (cN7 : PySem.W.findIn K (.ref CSite) "_limits" = some none)
    (cMK : PySem.W.makesIn K CSite = true)
    (cKP : PySem.W.keepIn K (.ref CSite) = true)
    (tLT : PySem.W.nsIn K mainGlobals "LETTERS" = some (some (.str letters tkLT)))
    (tLG : PySem.W.nsIn K mainGlobals "LONGEST_NAME" = some (some (.int 12 tkLG)))
    (tMP : PySem.W.nsIn K mainGlobals "MOST_PLACES" = some (some (.int 24 tkMP)))
    (tGR : PySem.W.nsIn K mainGlobals "GROUND" = some (some (.int (-1) tkGR)))
    (tPG : PySem.W.plainGet K CTrial Str.empty = true)
    (tHD : PySem.W.hasDictIn K CTrial = true)
    (tPO : PySem.W.plainOver K CTrial = true)
    (tSA : PySem.W.findIn K (.ref CTrial) "__setattr__" = some (some (.builtin "object.__setattr__")))
    (tMK : PySem.W.makesIn K CTrial = true)
    (tKP : PySem.W.keepIn K (.ref CTrial) = true)
    (tF0 : PySem.W.findIn K (.ref CTrial) "place" = some none)
    (tF1 : PySem.W.findIn K (.ref CTrial) "height" = some none)
    (tF2 : PySem.W.findIn K (.ref CTrial) "reached" = some none)
    (bPG : PySem.W.plainGet K CBounds Str.empty = true)
    (bHD : PySem.W.hasDictIn K CBounds = true)
    (bPO : PySem.W.plainOver K CBounds = true)
    (bSA : PySem.W.findIn K (.ref CBounds) "__setattr__" = some (some (.builtin "object.__setattr__")))
    (bMK : PySem.W.makesIn K CBounds = true)
    (bKP : PySem.W.keepIn K (.ref CBounds) = true)
    (bF0 : PySem.W.findIn K (.ref CBounds) "site" = some none)
    (bF1 : PySem.W.findIn K (.ref CBounds) "_low_edges" = some none)
    (bF2 : PySem.W.findIn K (.ref CBounds) "_high_edges" = some none)
    (tNT : PySem.W.nsIn K mainGlobals "NO_TRIAL" = some (some (.int (-1) tkNT))) :
    ∃ fd : FuncData, (∀ (s : Shared) (v : Value), BindsTo s fd ⟨[v], []⟩ [("_law_script", v)]) ∧ ∀ base : Heap, K.In base → base.Ns mainGlobals mg → FnOk P w K mg base CX0 10 fa fd ["_law_script"] (spLaw K) := by
  have e := hfa.symm.trans (PySem.W.mg_of X G aL)
  cases e
  have FN := fun_mk (st := sCkn) lN cN kN
  have bN := FN.binds (ps := ["name"]) fun _ _ _ _ _ _ us hl => match us, hl with | [_], _ => rfl
  have FK := fun_mk (st := sChk) lK cK kK
  have bK := FK.binds (ps := ["number"]) fun _ _ _ _ _ _ us hl => match us, hl with | [_], _ => rfl
  have FCr := fun_mk (st := sCro) lCr cCr kCr
  have bCr := FCr.binds (ps := ["rows"]) fun _ _ _ _ _ _ us hl => match us, hl with | [_], _ => rfl
  have FCu := fun_mk (st := sCnu) lCu cCu kCu
  have bCu := FCu.binds (ps := ["top", "slope", "spans"]) fun _ _ _ _ _ _ us hl => match us, hl with | [_, _, _], _ => rfl
  have FCl := fun_mk (st := sCli) lCl cCl kCl
  have bCl := FCl.binds (ps := ["links", "size"]) fun _ _ _ _ _ _ us hl => match us, hl with | [_, _], _ => rfl
  have FSo := fun_mk (st := sSpots) lSo cSo kSo
  have bSo := FSo.binds (ps := ["rows"]) fun _ _ _ _ _ _ us hl => match us, hl with | [_], _ => rfl
  have FTo := fun_mk (st := sTops) lTo cTo kTo
  have bTo := FTo.binds (ps := ["rows"]) fun _ _ _ _ _ _ us hl => match us, hl with | [_], _ => rfl
  have FTd := fun_mk (st := sTold) lTd cTd kTd
  have bTd := FTd.binds (ps := ["rows", "tops", "links"]) fun _ _ _ _ _ _ us hl => match us, hl with | [_, _, _], _ => rfl
  have FGr := fun_mk (st := sGrd) lGr cGr kGr
  have bGr := FGr.binds (ps := ["tops"]) fun _ _ _ _ _ _ us hl => match us, hl with | [_], _ => rfl
  have FSl := fun_mk (st := sSlp) lSl cSl kSl
  have bSl := FSl.binds (ps := ["rows"]) fun _ _ _ _ _ _ us hl => match us, hl with | [_], _ => rfl
  have FLk := fun_mk (st := sLnk) lLk cLk kLk
  have bLk := FLk.binds (ps := ["links"]) fun _ _ _ _ _ _ us hl => match us, hl with | [_], _ => rfl
  have FFi := fun_mk (st := sFnd) lFi cFi kFi
  have bFi := FFi.binds (ps := ["size", "told"]) fun _ _ _ _ _ _ us hl => match us, hl with | [_, _], _ => rfl
  have FRb := fun_mk (st := sRgb) lRb cRb kRb
  have bRb := FRb.binds (ps := ["node", "before"]) fun _ _ _ _ _ _ us hl => match us, hl with | [_, _], _ => rfl
  have FLs := fun_mk (st := sLst) lLs cLs kLs
  have bLs := FLs.binds (ps := ["size", "told"]) fun _ _ _ _ _ _ us hl => match us, hl with | [_, _], _ => rfl
  have FFs := fun_mk (st := sFst) lFs cFs kFs
  have bFs := FFs.binds (ps := ["told", "first", "second"]) fun _ _ _ _ _ _ us hl => match us, hl with | [_, _, _], _ => rfl
  have FSb := fun_mk (st := sSby) lSb cSb kSb
  have bSb := FSb.binds (ps := ["row", "step", "onward"]) fun _ _ _ _ _ _ us hl => match us, hl with | [_, _, _], _ => rfl
  have FMi : FunD K "__init__" "Site.__init__" (defArgs sSini) (defBody sSini) (defScope sSini) [.ref aDf] [] fMi _ := ⟨⟨ocMi, odMi, .ref DTMi, kVMi, dcMi, pmMi, anMi, cdMi, ctMi, slMi, rfl, lMi, cMi, .inr ⟨by simp, DTMi, _, [.ref aDf], xnMi, rfl, dMi, rfl, .cons (rfl) (.nil)⟩, .inl rfl⟩, kMi⟩
  obtain ⟨dsMi0, vdMi0, bMi0⟩ := FMi.binds1 (ps := ["self", "walls", "links"]) 2 0 (by simp) rfl fun T kV doc pm an cdv ct us its hu hi => match us, hu, its, hi with | [_, _], _, [_], _ => ⟨_, rfl, rfl⟩
  obtain ⟨dsMi1, vdMi1, bMi1⟩ := FMi.binds1 (ps := ["self", "walls", "links"]) 3 1 (by simp) rfl fun T kV doc pm an cdv ct us its hu hi => match us, hu, its, hi with | [_, _, _], _, [_], _ => ⟨_, rfl, rfl⟩
  cases vdMi1
  have FMl := fun_mk (st := sLim) lMl cMl kMl
  have bMl := FMl.binds (ps := ["self", "first", "second"]) fun _ _ _ _ _ _ us hl => match us, hl with | [_, _, _], _ => rfl
  have FMf := fun_mk (st := sSfi) lMf cMf kMf
  have bMf := FMf.binds (ps := ["self", "heights"]) fun _ _ _ _ _ _ us hl => match us, hl with | [_, _], _ => rfl
  have FMn := fun_mk (st := sChn) lMn cMn kMn
  have FMc := fun_mk (st := sCp) lMc cMc kMc
  have bMc := FMc.binds (ps := ["self", "place"]) fun _ _ _ _ _ _ us hl => match us, hl with | [_, _], _ => rfl
  have FTi := fun_mk (st := sTini) lTi cTi kTi
  have bTi := FTi.binds (ps := ["self", "place", "height", "reached"]) fun _ _ _ _ _ _ us hl => match us, hl with | [_, _, _, _], _ => rfl
  have FPs := fun_mk (st := sCps) lPs cPs kPs
  have bPs := FPs.binds (ps := ["site", "trials"]) fun _ _ _ _ _ _ us hl => match us, hl with | [_, _], _ => rfl
  have FFe := fun_mk (st := sFed) lFe cFe kFe
  have bFe := FFe.binds (ps := ["site", "trials"]) fun _ _ _ _ _ _ us hl => match us, hl with | [_, _], _ => rfl
  have FHo := fun_mk (st := sHof) lHo cHo kHo
  have bHo := FHo.binds (ps := ["edges"]) fun _ _ _ _ _ _ us hl => match us, hl with | [_], _ => rfl
  have FLe := fun_mk (st := sLed) lLe cLe kLe
  have bLe := FLe.binds (ps := ["site", "trials", "place"]) fun _ _ _ _ _ _ us hl => match us, hl with | [_, _, _], _ => rfl
  have FHe := fun_mk (st := sHed) lHe cHe kHe
  have bHe := FHe.binds (ps := ["site", "trials", "place"]) fun _ _ _ _ _ _ us hl => match us, hl with | [_, _, _], _ => rfl
  have FBi : FunD K "__init__" "Bounds.__init__" (defArgs sBini) (defBody sBini) (defScope sBini) [.ref aDg] [] fBi _ := ⟨⟨ocBi, odBi, .ref DTBi, kVBi, dcBi, pmBi, anBi, cdBi, ctBi, slBi, rfl, lBi, cBi, .inr ⟨by simp, DTBi, _, [.ref aDg], xnBi, rfl, dBi, rfl, .cons (rfl) (.nil)⟩, .inl rfl⟩, kBi⟩
  obtain ⟨dsBi0, vdBi0, bBi0⟩ := FBi.binds1 (ps := ["self", "site", "trials"]) 2 0 (by simp) rfl fun T kV doc pm an cdv ct us its hu hi => match us, hu, its, hi with | [_, _], _, [_], _ => ⟨_, rfl, rfl⟩
  obtain ⟨dsBi1, vdBi1, bBi1⟩ := FBi.binds1 (ps := ["self", "site", "trials"]) 3 1 (by simp) rfl fun T kV doc pm an cdv ct us its hu hi => match us, hu, its, hi with | [_, _, _], _, [_], _ => ⟨_, rfl, rfl⟩
  cases vdBi1
  have FBl := fun_mk (st := sBlo) lBl cBl kBl
  have bBl := FBl.binds (ps := ["self"]) fun _ _ _ _ _ _ us hl => match us, hl with | [_], _ => rfl
  have FBh := fun_mk (st := sBhi) lBh cBh kBh
  have bBh := FBh.binds (ps := ["self"]) fun _ _ _ _ _ _ us hl => match us, hl with | [_], _ => rfl
  have FBc := fun_mk (st := sBcon) lBc cBc kBc
  have bBc := FBc.binds (ps := ["self", "heights"]) fun _ _ _ _ _ _ us hl => match us, hl with | [_, _], _ => rfl
  have FB := fun_mk (st := sBox) lB cB kB
  have bB := FB.binds (ps := ["_law_script"]) fun _ _ _ _ _ _ us hl => match us, hl with | [_], _ => rfl
  have FT := fun_mk (st := sTake) lT cT kT
  have bT := FT.binds (ps := ["_law_box_here", "_law_size"]) fun _ _ _ _ _ _ us hl => match us, hl with | [_, _], _ => rfl
  have FTr := fun_mk (st := sTru) lTr cTr kTr
  have bTr := FTr.binds (ps := ["_law_box_here", "_law_top", "_law_slope", "_law_spans"]) fun _ _ _ _ _ _ us hl => match us, hl with | [_, _, _, _], _ => rfl
  have FSn := fun_mk (st := sSpn) lSn cSn kSn
  have bSn := FSn.binds (ps := ["_law_box_here", "_law_tall"]) fun _ _ _ _ _ _ us hl => match us, hl with | [_, _], _ => rfl
  have FSc := fun_mk (st := sSpc) lSc cSc kSc
  have bSc := FSc.binds (ps := ["_law_box_here", "_law_many", "_law_tall"]) fun _ _ _ _ _ _ us hl => match us, hl with | [_, _, _], _ => rfl
  have FLq := fun_mk (st := sLkL) lLq cLq kLq
  have bLq := FLq.binds (ps := ["_law_box_here", "_law_truth_here", "_law_room"]) fun _ _ _ _ _ _ us hl => match us, hl with | [_, _, _], _ => rfl
  have FSt := fun_mk (st := sStp) lSt cSt kSt
  have bSt := FSt.binds (ps := ["_law_shuts", "_law_links_here"]) fun _ _ _ _ _ _ us hl => match us, hl with | [_, _], _ => rfl
  have FTs := fun_mk (st := sTrs) lTs cTs kTs
  have bTs := FTs.binds (ps := ["_law_box_here", "_law_truth_here", "_law_count", "_law_tall"]) fun _ _ _ _ _ _ us hl => match us, hl with | [_, _, _, _], _ => rfl
  have FTl := fun_mk (st := sTrl) lTl cTl kTl
  have bTl := FTl.binds (ps := ["_law_rows"]) fun _ _ _ _ _ _ us hl => match us, hl with | [_], _ => rfl
  have FBg := fun_mk (st := sBig) lBg cBg kBg
  have bBg := FBg.binds (ps := ["_law_box_here", "_law_many", "_law_count"]) fun _ _ _ _ _ _ us hl => match us, hl with | [_, _, _], _ => rfl
  have FTw := fun_mk (st := sTrw) lTw cTw kTw
  have bTw := FTw.binds (ps := ["_law_rows", "_law_truth_here"]) fun _ _ _ _ _ _ us hl => match us, hl with | [_, _], _ => rfl
  have FLF := fun_mk (st := sLFi) lLF cLF kLF
  have bLF := FLF.binds (ps := ["_law_steps_here", "_law_heights"]) fun _ _ _ _ _ _ us hl => match us, hl with | [_, _], _ => rfl
  have FAg := fun_mk (st := sAgr) lAg cAg kAg
  have bAg := FAg.binds (ps := ["_law_heights", "_law_rows"]) fun _ _ _ _ _ _ us hl => match us, hl with | [_, _], _ => rfl
  have FSa := fun_mk (st := sSay) lSa cSa kSa
  have bSa := FSa.binds (ps := ["_law_told", "_law_due"]) fun _ _ _ _ _ _ us hl => match us, hl with | [_, _], _ => rfl
  have FL := fun_mk (st := sLaw) lL cL kL
  have bL := FL.binds (ps := ["_law_script"]) fun _ _ _ _ _ _ us hl => match us, hl with | [_], _ => rfl
  have OEB : OexC K CEB := ⟨⟨nmEB, qEB, NEB, bsEB, _, snEB, subEB, abEB, colEB, ddEB, m0EB, m1EB, m2EB, m3EB, m5EB, xEB, bvEB⟩, saEB, ebEB, tyEB, kcEB⟩
  have TEB : ErrTxt P K mg CEB fiEB cdEB ccEB "BadNumber.__init__" sErr := {
    oex := OEB
    iC := iEB
    tI := tEB
    fn := ⟨_, _, _, _, _, _, _, _, lEB⟩
    code := coEB
    file := ⟨_, vkEB, flEB, tfEB, lkEB, rfl, vkEBx, feEB⟩
    cell := ⟨_, leEB, rfl⟩
    self := mrEB
    opaque_ := opq
    up := upEB
    isVE := svEB
    top := htop
    noSup := PySem.W.mg_none_of X G nsup }
  have REB : ∀ base, ErrOk P w K mg base "BadNumber" CEB "value" okInt := fun base => by
    obtain ⟨fd, hfd, hb⟩ := err_int (w := w) (base := base) TEB rfl rfl (nscope_by (by decide +kernel)) (fun _ _ _ _ _ _ _ us hl => match us, hl with | [_, _], _ => rfl) rfl rfl rfl (by decide) (by decide) (by decide) nbEB
    exact ⟨OEB, ⟨gaEB, ggEB, ebEB, hdEB⟩, PySem.W.mg_of X G aEB, nbEB, PySem.W.exm_ref ebEB hdEB tyEB ssEB, ⟨_, fd, iEB, tEB, hfd, hb⟩⟩
  have OEN : OexC K CEN := ⟨⟨nmEN, qEN, NEN, bsEN, _, snEN, subEN, abEN, colEN, ddEN, m0EN, m1EN, m2EN, m3EN, m5EN, xEN, bvEN⟩, saEN, ebEN, tyEN, kcEN⟩
  have TEN : ErrTxt P K mg CEN fiEN cdEN ccEN "BadName.__init__" sEN := {
    oex := OEN
    iC := iEN
    tI := tEN
    fn := ⟨_, _, _, _, _, _, _, _, lEN⟩
    code := coEN
    file := ⟨_, vkEN, flEN, tfEN, lkEN, rfl, vkENx, feEN⟩
    cell := ⟨_, leEN, rfl⟩
    self := mrEN
    opaque_ := opq
    up := upEN
    isVE := svEN
    top := htop
    noSup := PySem.W.mg_none_of X G nsup }
  have REN : ∀ base, ErrOk P w K mg base "BadName" CEN "name" okTxt := fun base => by
    obtain ⟨fd, hfd, hb⟩ := err_txt (w := w) (base := base) TEN rfl rfl (nscope_by (by decide +kernel)) (fun _ _ _ _ _ _ _ us hl => match us, hl with | [_, _], _ => rfl) rfl rfl rfl (by decide) (by decide) (by decide) nbEN
    exact ⟨OEN, ⟨gaEN, ggEN, ebEN, hdEN⟩, PySem.W.mg_of X G aEN, nbEN, PySem.W.exm_ref ebEN hdEN tyEN ssEN, ⟨_, fd, iEN, tEN, hfd, hb⟩⟩
  have OET : OexC K CET := ⟨⟨nmET, qET, NET, bsET, _, snET, subET, abET, colET, ddET, m0ET, m1ET, m2ET, m3ET, m5ET, xET, bvET⟩, saET, ebET, tyET, kcET⟩
  have TET : ErrTxt P K mg CET fiET cdET ccET "TakenName.__init__" sET := {
    oex := OET
    iC := iET
    tI := tET
    fn := ⟨_, _, _, _, _, _, _, _, lET⟩
    code := coET
    file := ⟨_, vkET, flET, tfET, lkET, rfl, vkETx, feET⟩
    cell := ⟨_, leET, rfl⟩
    self := mrET
    opaque_ := opq
    up := upET
    isVE := svET
    top := htop
    noSup := PySem.W.mg_none_of X G nsup }
  have RET : ∀ base, ErrOk P w K mg base "TakenName" CET "name" okTxt := fun base => by
    obtain ⟨fd, hfd, hb⟩ := err_txt (w := w) (base := base) TET rfl rfl (nscope_by (by decide +kernel)) (fun _ _ _ _ _ _ _ us hl => match us, hl with | [_, _], _ => rfl) rfl rfl rfl (by decide) (by decide) (by decide) nbET
    exact ⟨OET, ⟨gaET, ggET, ebET, hdET⟩, PySem.W.mg_of X G aET, nbET, PySem.W.exm_ref ebET hdET tyET ssET, ⟨_, fd, iET, tET, hfd, hb⟩⟩
  have OEP : OexC K CEP := ⟨⟨nmEP, qEP, NEP, bsEP, _, snEP, subEP, abEP, colEP, ddEP, m0EP, m1EP, m2EP, m3EP, m5EP, xEP, bvEP⟩, saEP, ebEP, tyEP, kcEP⟩
  have TEP : ErrTxt P K mg CEP fiEP cdEP ccEP "NoPlace.__init__" sEP := {
    oex := OEP
    iC := iEP
    tI := tEP
    fn := ⟨_, _, _, _, _, _, _, _, lEP⟩
    code := coEP
    file := ⟨_, vkEP, flEP, tfEP, lkEP, rfl, vkEPx, feEP⟩
    cell := ⟨_, leEP, rfl⟩
    self := mrEP
    opaque_ := opq
    up := upEP
    isVE := svEP
    top := htop
    noSup := PySem.W.mg_none_of X G nsup }
  have REP : ∀ base, ErrOk P w K mg base "NoPlace" CEP "place" okInt := fun base => by
    obtain ⟨fd, hfd, hb⟩ := err_int (w := w) (base := base) TEP rfl rfl (nscope_by (by decide +kernel)) (fun _ _ _ _ _ _ _ us hl => match us, hl with | [_, _], _ => rfl) rfl rfl rfl (by decide) (by decide) (by decide) nbEP
    exact ⟨OEP, ⟨gaEP, ggEP, ebEP, hdEP⟩, PySem.W.mg_of X G aEP, nbEP, PySem.W.exm_ref ebEP hdEP tyEP ssEP, ⟨_, fd, iEP, tEP, hfd, hb⟩⟩
  have OEM : OexC K CEM := ⟨⟨nmEM, qEM, NEM, bsEM, _, snEM, subEM, abEM, colEM, ddEM, m0EM, m1EM, m2EM, m3EM, m5EM, xEM, bvEM⟩, saEM, ebEM, tyEM, kcEM⟩
  have TEM : ErrTxt P K mg CEM fiEM cdEM ccEM "TooMany.__init__" sEM := {
    oex := OEM
    iC := iEM
    tI := tEM
    fn := ⟨_, _, _, _, _, _, _, _, lEM⟩
    code := coEM
    file := ⟨_, vkEM, flEM, tfEM, lkEM, rfl, vkEMx, feEM⟩
    cell := ⟨_, leEM, rfl⟩
    self := mrEM
    opaque_ := opq
    up := upEM
    isVE := svEM
    top := htop
    noSup := PySem.W.mg_none_of X G nsup }
  have REM : ∀ base, ErrOk P w K mg base "TooMany" CEM "count" okInt := fun base => by
    obtain ⟨fd, hfd, hb⟩ := err_int (w := w) (base := base) TEM rfl rfl (nscope_by (by decide +kernel)) (fun _ _ _ _ _ _ _ us hl => match us, hl with | [_, _], _ => rfl) rfl rfl rfl (by decide) (by decide) (by decide) nbEM
    exact ⟨OEM, ⟨gaEM, ggEM, ebEM, hdEM⟩, PySem.W.mg_of X G aEM, nbEM, PySem.W.exm_ref ebEM hdEM tyEM ssEM, ⟨_, fd, iEM, tEM, hfd, hb⟩⟩
  have OES : OexC K CES := ⟨⟨nmES, qES, NES, bsES, _, snES, subES, abES, colES, ddES, m0ES, m1ES, m2ES, m3ES, m5ES, xES, bvES⟩, saES, ebES, tyES, kcES⟩
  have TES : ErrTxt P K mg CES fiES cdES ccES "NoSite.__init__" sES := {
    oex := OES
    iC := iES
    tI := tES
    fn := ⟨_, _, _, _, _, _, _, _, lES⟩
    code := coES
    file := ⟨_, vkES, flES, tfES, lkES, rfl, vkESx, feES⟩
    cell := ⟨_, leES, rfl⟩
    self := mrES
    opaque_ := opq
    up := upES
    isVE := svES
    top := htop
    noSup := PySem.W.mg_none_of X G nsup }
  have RES : ∀ base, ErrOkL P w K mg base "NoSite" CES "ring" := fun base => by
    obtain ⟨fd, hfd, hb⟩ := err_lst (w := w) (base := base) TES rfl rfl (nscope_by (by decide +kernel)) (fun _ _ _ _ _ _ _ us hl => match us, hl with | [_, _], _ => rfl) rfl rfl rfl (by decide) (by decide) (by decide) nbES rfl (PySem.W.mg_none_of X G n_list)
    exact ⟨OES, ⟨gaES, ggES, ebES, hdES⟩, PySem.W.mg_of X G aES, nbES, PySem.W.exm_ref ebES hdES tyES ssES, ⟨_, fd, iES, tES, hfd, hb⟩⟩
  exact ⟨PySem.W.fnOf "law" "law" (defArgs sLaw) (defBody sLaw) (defScope sLaw) .none kVL dcL pmL anL cdL ctL, fun s v => .of_eq rfl, fun base _ _ => by
    have cl : Cls K CSite := ⟨cPG, cHD, cPO, cSA⟩
    have na : ∀ m ∈ (["_rows", "_links", "_spots", "_places", "_tops", "size", "_told", "_limits"] : List Str), NoAttr K CSite m := fun m hm => by
      simp only [List.mem_cons, List.not_mem_nil, or_false] at hm
      rcases hm with rfl | rfl | rfl | rfl | rfl | rfl | rfl | rfl
      · exact cN0
      · exact cN1
      · exact cN2
      · exact cN3
      · exact cN4
      · exact cN5
      · exact cN6
      · exact cN7
    have bt : BoxTxt K mg := ⟨PySem.W.mg_none_of X G n_len, PySem.W.mg_none_of X G n_int⟩
    have TN : NameTxt K mg := { letters := ⟨_, PySem.W.mg_of X G tLT⟩, longest := ⟨_, PySem.W.mg_of X G tLG⟩, len := PySem.W.mg_none_of X G n_len }
    have CT : CkTxt mg fK fN fCu := { chk := PySem.W.mg_of X G aK, ckn := PySem.W.mg_of X G aN, cnu := PySem.W.mg_of X G aCu }
    have ET : EdTxt mg := { ground := ⟨_, PySem.W.mg_of X G tGR⟩, enumerate := PySem.W.mg_none_of X G n_enumerate }
    have TT : ToTxt mg fGr fSl fLk := { grd := PySem.W.mg_of X G aGr, slp := PySem.W.mg_of X G aSl, lnk := PySem.W.mg_of X G aLk }
    have FT2 : FiTxt mg fRb := { ground := ⟨_, PySem.W.mg_of X G tGR⟩, range := PySem.W.mg_none_of X G n_range, rgb := PySem.W.mg_of X G aRb }
    have LS : LsTxt mg fFs fSb := { ground := ⟨_, PySem.W.mg_of X G tGR⟩, range := PySem.W.mg_none_of X G n_range, list := PySem.W.mg_none_of X G n_list, zip := PySem.W.mg_none_of X G n_zip, fst := PySem.W.mg_of X G aFs, sby := PySem.W.mg_of X G aSb }
    have ST : STxt mg := { len := PySem.W.mg_none_of X G n_len, range := PySem.W.mg_none_of X G n_range }
    have SI : SiTxt K mg CSite fCr fSo fTo fCl fTd fFi fLs := { cl := cl, na := na, most := ⟨_, PySem.W.mg_of X G tMP⟩, tuple := PySem.W.mg_none_of X G n_tuple, enumerate := PySem.W.mg_none_of X G n_enumerate, len := PySem.W.mg_none_of X G n_len, cro := PySem.W.mg_of X G aCr, spots := PySem.W.mg_of X G aSo, tops := PySem.W.mg_of X G aTo, cli := PySem.W.mg_of X G aCl, told := PySem.W.mg_of X G aTd, ring := PySem.W.mg_of X G aFi, least := PySem.W.mg_of X G aLs }
    have GCu : FnOk P w K mg base (L2.CX P w) 5 fCu _ ["top", "slope", "spans"] (spCnu K (⟨CEN, CET, CEB, CEM, CEN, CEP, CES⟩ : Errs)) := ok_cnu (w := w) (base := base) (C := (⟨CEN, CET, CEB, CEM, CEN, CEP, CES⟩ : Errs)) FCu (REB base) FK bK CT
    have GCr : FnOk P w K mg base (L2.CX P w) 6 fCr _ ["rows"] (spCro K (⟨CEN, CET, CEB, CEM, CEN, CEP, CES⟩ : Errs)) := ok_cro (w := w) (base := base) (C := (⟨CEN, CET, CEB, CEM, CEN, CEP, CES⟩ : Errs)) FCr (REN base) (RET base) (REB base) FK bK FN bN FCu bCu CT TN
    have GCl : FnOk P w K mg base (L2.CX P w) 4 fCl _ ["links", "size"] (spCli K (⟨CEN, CET, CEB, CEM, CEN, CEP, CES⟩ : Errs)) := ok_cli (w := w) (base := base) (C := (⟨CEN, CET, CEB, CEM, CEN, CEP, CES⟩ : Errs)) FCl (REP base)
    have GSo : FnOk P w K mg base CX0 1 fSo _ ["rows"] (spSpots K) := ok_spots FSo ST
    have GTo : FnOk P w K mg base CX0 1 fTo _ ["rows"] (spTops K) := ok_tops FTo ST
    have GGr : FnOk P w K mg base CX0 1 fGr _ ["tops"] spGrd := ok_grd FGr ET
    have GSl : FnOk P w K mg base CX0 1 fSl _ ["rows"] (spSlp K) := ok_slp FSl
    have GLk : FnOk P w K mg base CX0 1 fLk _ ["links"] (spLnk K) := ok_lnk FLk
    have GTd : FnOk P w K mg base CX0 2 fTd _ ["rows", "tops", "links"] (spTold K) := ok_told FTd TT GGr FGr bGr GSl FSl bSl GLk FLk bLk
    have GRb : FnOk P w K mg base CX0 1 fRb _ ["node", "before"] spRgb := ok_rgb2 FRb { b_len := PySem.W.mg_none_of X G n_len, b_range := PySem.W.mg_none_of X G n_range }
    have GFi : FnOk P w K mg base CX0 2 fFi _ ["size", "told"] spFnd2 := ok_fnd2 FFi FT2 GRb FRb bRb
    have GLs : FnOk P w K mg base CX0 2 fLs _ ["size", "told"] spLst := ok_lst FLs LS FFs bFs FSb bSb
    have GI0 : FnOk P w K mg base (L2.CX P w) 7 fMi _ ["self", "walls", "links"] (spSini2 K (⟨CEN, CET, CEB, CEM, CEN, CEP, CES⟩ : Errs) CSite) := ok_sini2 (w := w) (base := base) (C := (⟨CEN, CET, CEB, CEM, CEN, CEP, CES⟩ : Errs)) FMi (REM base) (RES base) GCr FCr bCr GSo FSo bSo GTo FTo bTo GCl FCl bCl GTd FTd bTd GFi FFi bFi GLs FLs bLs SI
    have GI2 : FnR P w K mg base (L2.CX P w) 7 fMi (spSini2 K (⟨CEN, CET, CEB, CEM, CEN, CEP, CES⟩ : Errs) CSite) := Own.fnr0 GI0 bMi1
    have MK : Mk K CSite fMi := ⟨cMK, aMi, iMi, cKP⟩
    have ME : MeTxt K mg CSite := { cl := cl, na := na, ground := ⟨_, PySem.W.mg_of X G tGR⟩, b_range := PySem.W.mg_none_of X G n_range }
    have GCh := (ok_chn (P := P) (w := w) (base := base) (C := (⟨CEN, CET, CEB, CEM, CEN, CEP, CES⟩ : Errs)) FMn (REP base) ME (fun us rest hu => match us, hu with | [_], _ => (by cases rest <;> rfl)))
    have MCh : Meth K CSite "check_nodes" fMn := ⟨aMn, iMn, kMn⟩
    have GLi2 := Own.fnr0 (ok_lim (P := P) (w := w) (base := base) (C := (⟨CEN, CET, CEB, CEM, CEN, CEP, CES⟩ : Errs)) FMl GCh MCh ME) bMl
    have MLi2 : Meth K CSite "limit" fMl := ⟨aMl, iMl, kMl⟩
    have GFi2 := Own.fnr0 (ok_sfi (P := P) (w := w) (base := base) FMf { cl := cl, na := na, b_len := PySem.W.mg_none_of X G n_len, b_all := PySem.W.mg_none_of X G n_all }) bMf
    have MFi2 : Meth K CSite "fits" fMf := ⟨aMf, iMf, kMf⟩
    have GB : FnOk P w K mg base CX0 1 fB _ ["_law_script"] (spBox K) := ok_box FB bt
    have GT : FnOk P w K mg base CX0 1 fT _ ["_law_box_here", "_law_size"] spTake := ok_take FT bt
    have TU : TruTxt mg fT := { take := PySem.W.mg_of X G aT, b_max := PySem.W.mg_none_of X G n_max, b_min := PySem.W.mg_none_of X G n_min, b_int := PySem.W.mg_none_of X G n_int }
    have GTr : FnOk P w K mg base CX0 2 fTr _ ["_law_box_here", "_law_top", "_law_slope", "_law_spans"] (spTru K) := ok_tru FTr GT FT bT TU
    have GSn : FnOk P w K mg base CX0 2 fSn _ ["_law_box_here", "_law_tall"] spSpn := ok_spn FSn GT FT bT TU
    have GSc : FnOk P w K mg base CX0 3 fSc _ ["_law_box_here", "_law_many", "_law_tall"] (spSpc K) := ok_spc FSc GT FT bT GTr FTr bTr GSn FSn bSn { take := PySem.W.mg_of X G aT, truth := PySem.W.mg_of X G aTr, span := PySem.W.mg_of X G aSn, b_range := PySem.W.mg_none_of X G n_range, b_tuple := PySem.W.mg_none_of X G n_tuple }
    have LK : LkTxt mg fT := { take := PySem.W.mg_of X G aT, b_range := PySem.W.mg_none_of X G n_range, b_len := PySem.W.mg_none_of X G n_len }
    have GLq : FnOk P w K mg base CX0 2 fLq _ ["_law_box_here", "_law_truth_here", "_law_room"] (spLkL K) := ok_lkL FLq GT FT bT LK
    have GSt : FnOk P w K mg base CX0 1 fSt _ ["_law_shuts", "_law_links_here"] (spStp K) := ok_stp FSt LK
    have GLF : FnOk P w K mg base CX0 1 fLF _ ["_law_steps_here", "_law_heights"] spLFi := ok_lfi FLF
    have TT : TriTxt K mg CTrial := { tri := PySem.W.mg_of X G aCT, cl := ⟨tPG, tHD, tPO, tSA⟩, nP := tF0, nH := tF1, nR := tF2 }
    have TE : EdgTxt mg := { ground := ⟨_, PySem.W.mg_of X G tGR⟩, trial := ⟨_, PySem.W.mg_of X G tNT⟩, enumerate := PySem.W.mg_none_of X G n_enumerate }
    have GTi := Own.fnr0 (ok_tini (P := P) (w := w) (base := base) FTi TT) bTi
    have MKT : Mk K CTrial fTi := ⟨tMK, aTi, iTi, tKP⟩
    have GCp2 := Own.fnr0 (ok_cp (P := P) (w := w) (base := base) FMc ME) bMc
    have MCp2 : Meth K CSite "check_place" fMc := ⟨aMc, iMc, kMc⟩
    have GPs : FnOk P w K mg base CX0 2 fPs _ ["site", "trials"] (spCps K CSite CTrial) := ok_cps FPs GCp2 MCp2 ME TT
    have GLe : FnOk P w K mg base CX0 6 fLe _ ["site", "trials", "place"] (spEdge K CSite CTrial LowE) := ok_led FLe GLi2 MLi2 ME TT TE
    have GHe : FnOk P w K mg base CX0 6 fHe _ ["site", "trials", "place"] (spEdge K CSite CTrial HighE) := ok_hed FHe GLi2 MLi2 ME TT TE
    have GFe : FnOk P w K mg base CX0 7 fFe _ ["site", "trials"] (spFed K CSite CTrial) := ok_fed FFe GLe FLe bLe GHe FHe bHe ME { low := PySem.W.mg_of X G aLe, high := PySem.W.mg_of X G aHe, b_range := PySem.W.mg_none_of X G n_range, zip := PySem.W.mg_none_of X G n_zip, b_any := PySem.W.mg_none_of X G n_any }
    have GHo : FnOk P w K mg base CX0 1 fHo _ ["edges"] spHof := ok_hof FHo
    have clB : Cls K CBounds := ⟨bPG, bHD, bPO, bSA⟩
    have BN : BnTxt K mg CBounds fPs fFe fHo := { cl := clB, nS := bF0, nL := bF1, nH := bF2, cps := PySem.W.mg_of X G aPs, fed := PySem.W.mg_of X G aFe, hof := PySem.W.mg_of X G aHo, zip := PySem.W.mg_none_of X G n_zip, b_all := PySem.W.mg_none_of X G n_all }
    have GBi0 : FnOk P w K mg base CX0 8 fBi _ ["self", "site", "trials"] (spBini K CSite CTrial CBounds) := ok_bini FBi GPs FPs bPs GFe FFe bFe BN
    have GBi2 : FnR P w K mg base CX0 8 fBi (spBini K CSite CTrial CBounds) := Own.fnr0 GBi0 bBi1
    have MKB : Mk K CBounds fBi := ⟨bMK, aBi, iBi, bKP⟩
    have GBl2 := Own.fnr0 (ok_blo (P := P) (w := w) (base := base) FBl GHo FHo bHo BN) bBl
    have MBl2 : Meth K CBounds "lows" fBl := ⟨aBl, iBl, kBl⟩
    have GBh2 := Own.fnr0 (ok_bhi (P := P) (w := w) (base := base) FBh GHo FHo bHo BN) bBh
    have MBh2 : Meth K CBounds "highs" fBh := ⟨aBh, iBh, kBh⟩
    have GBc2 := Own.fnr0 (ok_bcon (P := P) (w := w) (base := base) FBc GFi2 MFi2 GBl2 MBl2 GBh2 MBh2 ME BN BN) bBc
    have LX : LTxt mg CTrial fT := { tri := PySem.W.mg_of X G aCT, take := PySem.W.mg_of X G aT, b_len := PySem.W.mg_none_of X G n_len, b_range := PySem.W.mg_none_of X G n_range }
    have GTs : FnOk P w K mg base CX0 2 fTs _ ["_law_box_here", "_law_truth_here", "_law_count", "_law_tall"] spTrs := ok_trs FTs GT FT bT LX
    have GTl : FnOk P w K mg base CX0 3 fTl _ ["_law_rows"] (spTrl CTrial) := ok_trl FTl MKT GTi LX
    have GBg : FnOk P w K mg base CX0 4 fBg _ ["_law_box_here", "_law_many", "_law_count"] (spBig K) := ok_big FBg GT FT bT GSc FSc bSc GLq FLq bLq GTs FTs bTs { take := PySem.W.mg_of X G aT, spec := PySem.W.mg_of X G aSc, links := PySem.W.mg_of X G aLq, tries := PySem.W.mg_of X G aTs, b_len := PySem.W.mg_none_of X G n_len }
    have GTw : FnOk P w K mg base CX0 1 fTw _ ["_law_rows", "_law_truth_here"] spTrw := ok_trw FTw
    have GAg : FnOk P w K mg base CX0 1 fAg _ ["_law_heights", "_law_rows"] spAgr := ok_agr FAg
    have GSa : FnOk P w K mg base CX0 1 fSa _ ["_law_told", "_law_due"] spSay := ok_say FSa
    exact ok_law (C := (⟨CEN, CET, CEB, CEM, CEN, CEP, CES⟩ : Errs)) FL { box := PySem.W.mg_of X G aB, take := PySem.W.mg_of X G aT, big := PySem.W.mg_of X G aBg, true := PySem.W.mg_of X G aTw, steps := PySem.W.mg_of X G aSt, trials := PySem.W.mg_of X G aTl, fits := PySem.W.mg_of X G aLF, agrees := PySem.W.mg_of X G aAg, says := PySem.W.mg_of X G aSa, site := PySem.W.mg_of X G aCS, bounds := PySem.W.mg_of X G aCB, b_len := PySem.W.mg_none_of X G n_len, b_list := PySem.W.mg_none_of X G n_list }
      GB FB bB GT FT bT GBg FBg bBg GTw FTw bTw GSt FSt bSt GTl FTl bTl GLF FLF bLF GAg FAg bAg GSa FSa bSa GI2 MK GFi2 MFi2 cl GBi2 MKB GBl2 MBl2 GBh2 MBh2 GBc2 aBc iBc clB⟩
end Law
/-! The end: the facts, the run of the top, the last theorem. -/
namespace Law
open PySem PySem.Spec PyProof.Rows L2 Sup NdefX
abbrev fileH : Str := (PySem.Challenge.rw_rungbounds_k23_lists_in_bounds).prog.main.file
abbrev fk0 : Hk.Fr → Bool := fun K => Hk.plainB "check_name" 209 K
abbrev fk1 : Hk.Fr → Bool := fun K => Hk.plainB "check_not_negative" 216 K
abbrev fk2 : Hk.Fr → Bool := fun K => Hk.plainB "_check_rows" 341 K
abbrev fk3 : Hk.Fr → Bool := fun K => Hk.plainB "_check_numbers" 348 K
abbrev fk4 : Hk.Fr → Bool := fun K => Hk.plainB "_check_links" 355 K
abbrev fk5 : Hk.Fr → Bool := fun K => Hk.plainB "_spots_of" 360 K
abbrev fk6 : Hk.Fr → Bool := fun K => Hk.plainB "_tops_of" 365 K
abbrev fk7 : Hk.Fr → Bool := fun K => Hk.plainB "_told_limits" 372 K
abbrev fk8 : Hk.Fr → Bool := fun K => Hk.plainB "_ground_limits" 379 K
abbrev fk9 : Hk.Fr → Bool := fun K => Hk.plainB "_slope_limits" 386 K
abbrev fk10 : Hk.Fr → Bool := fun K => Hk.plainB "_link_limits" 393 K
abbrev fk11 : Hk.Fr → Bool := fun K => Hk.plainB "_find_ring" 398 K
abbrev fk12 : Hk.Fr → Bool := fun K => Hk.plainB "_ring_behind" 405 K
abbrev fk13 : Hk.Fr → Bool := fun K => Hk.plainB "_least_sums" 410 K
abbrev fk14 : Hk.Fr → Bool := fun K => Hk.plainB "_first_sum" 417 K
abbrev fk15 : Hk.Fr → Bool := fun K => Hk.plainB "_sums_by" 422 K
abbrev fk16 : Hk.Fr → Bool := fun K => Hk.dflB1 "Site.__init__" 230 K
abbrev fk17 : Hk.Fr → Bool := fun K => Hk.plainB "Site.limit" 294 K
abbrev fk18 : Hk.Fr → Bool := fun K => Hk.plainB "Site.fits" 320 K
abbrev fk19 : Hk.Fr → Bool := fun K => Hk.plainB "Site.check_nodes" 315 K
abbrev fk20 : Hk.Fr → Bool := fun K => Hk.plainB "Site.check_place" 308 K
abbrev fk21 : Hk.Fr → Bool := fun K => Hk.plainB "Trial.__init__" 436 K
abbrev fk22 : Hk.Fr → Bool := fun K => Hk.plainB "check_places" 488 K
abbrev fk23 : Hk.Fr → Bool := fun K => Hk.plainB "find_edges" 500 K
abbrev fk24 : Hk.Fr → Bool := fun K => Hk.plainB "heights_of" 505 K
abbrev fk25 : Hk.Fr → Bool := fun K => Hk.plainB "_low_edge" 512 K
abbrev fk26 : Hk.Fr → Bool := fun K => Hk.plainB "_high_edge" 519 K
abbrev fk27 : Hk.Fr → Bool := fun K => Hk.dflB1 "Bounds.__init__" 590 K
abbrev fk28 : Hk.Fr → Bool := fun K => Hk.plainB "Bounds.lows" 597 K
abbrev fk29 : Hk.Fr → Bool := fun K => Hk.plainB "Bounds.highs" 604 K
abbrev fk30 : Hk.Fr → Bool := fun K => Hk.plainB "Bounds.__contains__" 651 K
abbrev fk31 : Hk.Fr → Bool := fun K => Hk.plainB "_law_box" 703 K
abbrev fk32 : Hk.Fr → Bool := fun K => Hk.plainB "_law_take" 710 K
abbrev fk33 : Hk.Fr → Bool := fun K => Hk.plainB "_law_truth" 717 K
abbrev fk34 : Hk.Fr → Bool := fun K => Hk.plainB "_law_span" 724 K
abbrev fk35 : Hk.Fr → Bool := fun K => Hk.plainB "_law_spec" 729 K
abbrev fk36 : Hk.Fr → Bool := fun K => Hk.plainB "_law_links" 736 K
abbrev fk37 : Hk.Fr → Bool := fun K => Hk.plainB "_law_steps" 767 K
abbrev fk38 : Hk.Fr → Bool := fun K => Hk.plainB "_law_tries" 743 K
abbrev fk39 : Hk.Fr → Bool := fun K => Hk.plainB "_law_trials" 748 K
abbrev fk40 : Hk.Fr → Bool := fun K => Hk.plainB "_law_big" 755 K
abbrev fk41 : Hk.Fr → Bool := fun K => Hk.plainB "_law_true" 760 K
abbrev fk42 : Hk.Fr → Bool := fun K => Hk.plainB "_law_fits" 774 K
abbrev fk43 : Hk.Fr → Bool := fun K => Hk.plainB "_law_agrees" 781 K
abbrev fk44 : Hk.Fr → Bool := fun K => Hk.plainB "_law_says" 788 K
abbrev fk45 : Hk.Fr → Bool := fun K => Hk.plainB "law" 795 K
abbrev fk46 : Hk.Fr → Bool := fun K => Hk.excB 53 K
abbrev fk47 : Hk.Fr → Bool := fun K => Hk.errB fileH "BadNumber.__init__" 53 50 K
abbrev fk48 : Hk.Fr → Bool := fun K => Hk.excB 74 K
abbrev fk49 : Hk.Fr → Bool := fun K => Hk.errB fileH "BadName.__init__" 74 71 K
abbrev fk50 : Hk.Fr → Bool := fun K => Hk.excB 95 K
abbrev fk51 : Hk.Fr → Bool := fun K => Hk.errB fileH "TakenName.__init__" 95 92 K
abbrev fk52 : Hk.Fr → Bool := fun K => Hk.excB 116 K
abbrev fk53 : Hk.Fr → Bool := fun K => Hk.errB fileH "NoPlace.__init__" 116 113 K
abbrev fk54 : Hk.Fr → Bool := fun K => Hk.excB 137 K
abbrev fk55 : Hk.Fr → Bool := fun K => Hk.errB fileH "TooMany.__init__" 137 134 K
abbrev fk56 : Hk.Fr → Bool := fun K => Hk.excB 158 K
abbrev fk57 : Hk.Fr → Bool := fun K => Hk.errB fileH "NoSite.__init__" 158 155 K
abbrev fk58 : Hk.Fr → Bool := fun K => decide (PySem.W.nsIn K mainGlobals "Site" = some (some (.ref 330)))
abbrev fk59 : Hk.Fr → Bool := fun K => decide (PySem.W.nsIn K mainGlobals "Trial" = some (some (.ref 477)))
abbrev fk60 : Hk.Fr → Bool := fun K => decide (PySem.W.nsIn K mainGlobals "Bounds" = some (some (.ref 687)))
abbrev fk61 : Hk.Fr → Bool := fun K => decide (PySem.W.nsIn K mainGlobals "check_name" = some (some (.ref 209)))
abbrev fk62 : Hk.Fr → Bool := fun K => PySem.W.keepIn K (.ref 209)
abbrev fk63 : Hk.Fr → Bool := fun K => decide (PySem.W.nsIn K mainGlobals "check_not_negative" = some (some (.ref 216)))
abbrev fk64 : Hk.Fr → Bool := fun K => PySem.W.keepIn K (.ref 216)
abbrev fk65 : Hk.Fr → Bool := fun K => decide (PySem.W.nsIn K mainGlobals "_check_rows" = some (some (.ref 341)))
abbrev fk66 : Hk.Fr → Bool := fun K => PySem.W.keepIn K (.ref 341)
abbrev fk67 : Hk.Fr → Bool := fun K => decide (PySem.W.nsIn K mainGlobals "_check_numbers" = some (some (.ref 348)))
abbrev fk68 : Hk.Fr → Bool := fun K => PySem.W.keepIn K (.ref 348)
abbrev fk69 : Hk.Fr → Bool := fun K => decide (PySem.W.nsIn K mainGlobals "_check_links" = some (some (.ref 355)))
abbrev fk70 : Hk.Fr → Bool := fun K => PySem.W.keepIn K (.ref 355)
abbrev fk71 : Hk.Fr → Bool := fun K => decide (PySem.W.nsIn K mainGlobals "_spots_of" = some (some (.ref 360)))
abbrev fk72 : Hk.Fr → Bool := fun K => PySem.W.keepIn K (.ref 360)
abbrev fk73 : Hk.Fr → Bool := fun K => decide (PySem.W.nsIn K mainGlobals "_tops_of" = some (some (.ref 365)))
abbrev fk74 : Hk.Fr → Bool := fun K => PySem.W.keepIn K (.ref 365)
abbrev fk75 : Hk.Fr → Bool := fun K => decide (PySem.W.nsIn K mainGlobals "_told_limits" = some (some (.ref 372)))
abbrev fk76 : Hk.Fr → Bool := fun K => PySem.W.keepIn K (.ref 372)
abbrev fk77 : Hk.Fr → Bool := fun K => decide (PySem.W.nsIn K mainGlobals "_ground_limits" = some (some (.ref 379)))
abbrev fk78 : Hk.Fr → Bool := fun K => PySem.W.keepIn K (.ref 379)
abbrev fk79 : Hk.Fr → Bool := fun K => decide (PySem.W.nsIn K mainGlobals "_slope_limits" = some (some (.ref 386)))
abbrev fk80 : Hk.Fr → Bool := fun K => PySem.W.keepIn K (.ref 386)
abbrev fk81 : Hk.Fr → Bool := fun K => decide (PySem.W.nsIn K mainGlobals "_link_limits" = some (some (.ref 393)))
abbrev fk82 : Hk.Fr → Bool := fun K => PySem.W.keepIn K (.ref 393)
abbrev fk83 : Hk.Fr → Bool := fun K => decide (PySem.W.nsIn K mainGlobals "_find_ring" = some (some (.ref 398)))
abbrev fk84 : Hk.Fr → Bool := fun K => PySem.W.keepIn K (.ref 398)
abbrev fk85 : Hk.Fr → Bool := fun K => decide (PySem.W.nsIn K mainGlobals "_ring_behind" = some (some (.ref 405)))
abbrev fk86 : Hk.Fr → Bool := fun K => PySem.W.keepIn K (.ref 405)
abbrev fk87 : Hk.Fr → Bool := fun K => decide (PySem.W.nsIn K mainGlobals "_least_sums" = some (some (.ref 410)))
abbrev fk88 : Hk.Fr → Bool := fun K => PySem.W.keepIn K (.ref 410)
abbrev fk89 : Hk.Fr → Bool := fun K => decide (PySem.W.nsIn K mainGlobals "_first_sum" = some (some (.ref 417)))
abbrev fk90 : Hk.Fr → Bool := fun K => PySem.W.keepIn K (.ref 417)
abbrev fk91 : Hk.Fr → Bool := fun K => decide (PySem.W.nsIn K mainGlobals "_sums_by" = some (some (.ref 422)))
abbrev fk92 : Hk.Fr → Bool := fun K => PySem.W.keepIn K (.ref 422)
abbrev fk93 : Hk.Fr → Bool := fun K => decide (PySem.W.findIn K (.ref 330) "__init__" = some (some (.ref 230)))
abbrev fk94 : Hk.Fr → Bool := fun K => PySem.W.keepIn K (.ref 230)
abbrev fk95 : Hk.Fr → Bool := fun K => PySem.W.isFn K (.ref 230)
abbrev fk96 : Hk.Fr → Bool := fun K => decide (PySem.W.findIn K (.ref 330) "limit" = some (some (.ref 294)))
abbrev fk97 : Hk.Fr → Bool := fun K => PySem.W.keepIn K (.ref 294)
abbrev fk98 : Hk.Fr → Bool := fun K => PySem.W.isFn K (.ref 294)
abbrev fk99 : Hk.Fr → Bool := fun K => decide (PySem.W.findIn K (.ref 330) "fits" = some (some (.ref 320)))
abbrev fk100 : Hk.Fr → Bool := fun K => PySem.W.keepIn K (.ref 320)
abbrev fk101 : Hk.Fr → Bool := fun K => PySem.W.isFn K (.ref 320)
abbrev fk102 : Hk.Fr → Bool := fun K => decide (PySem.W.findIn K (.ref 330) "check_nodes" = some (some (.ref 315)))
abbrev fk103 : Hk.Fr → Bool := fun K => PySem.W.keepIn K (.ref 315)
abbrev fk104 : Hk.Fr → Bool := fun K => PySem.W.isFn K (.ref 315)
abbrev fk105 : Hk.Fr → Bool := fun K => decide (PySem.W.findIn K (.ref 330) "check_place" = some (some (.ref 308)))
abbrev fk106 : Hk.Fr → Bool := fun K => PySem.W.keepIn K (.ref 308)
abbrev fk107 : Hk.Fr → Bool := fun K => PySem.W.isFn K (.ref 308)
abbrev fk108 : Hk.Fr → Bool := fun K => decide (PySem.W.findIn K (.ref 477) "__init__" = some (some (.ref 436)))
abbrev fk109 : Hk.Fr → Bool := fun K => PySem.W.keepIn K (.ref 436)
abbrev fk110 : Hk.Fr → Bool := fun K => PySem.W.isFn K (.ref 436)
abbrev fk111 : Hk.Fr → Bool := fun K => decide (PySem.W.nsIn K mainGlobals "check_places" = some (some (.ref 488)))
abbrev fk112 : Hk.Fr → Bool := fun K => PySem.W.keepIn K (.ref 488)
abbrev fk113 : Hk.Fr → Bool := fun K => decide (PySem.W.nsIn K mainGlobals "find_edges" = some (some (.ref 500)))
abbrev fk114 : Hk.Fr → Bool := fun K => PySem.W.keepIn K (.ref 500)
abbrev fk115 : Hk.Fr → Bool := fun K => decide (PySem.W.nsIn K mainGlobals "heights_of" = some (some (.ref 505)))
abbrev fk116 : Hk.Fr → Bool := fun K => PySem.W.keepIn K (.ref 505)
abbrev fk117 : Hk.Fr → Bool := fun K => decide (PySem.W.nsIn K mainGlobals "_low_edge" = some (some (.ref 512)))
abbrev fk118 : Hk.Fr → Bool := fun K => PySem.W.keepIn K (.ref 512)
abbrev fk119 : Hk.Fr → Bool := fun K => decide (PySem.W.nsIn K mainGlobals "_high_edge" = some (some (.ref 519)))
abbrev fk120 : Hk.Fr → Bool := fun K => PySem.W.keepIn K (.ref 519)
abbrev fk121 : Hk.Fr → Bool := fun K => decide (PySem.W.findIn K (.ref 687) "__init__" = some (some (.ref 590)))
abbrev fk122 : Hk.Fr → Bool := fun K => PySem.W.keepIn K (.ref 590)
abbrev fk123 : Hk.Fr → Bool := fun K => PySem.W.isFn K (.ref 590)
abbrev fk124 : Hk.Fr → Bool := fun K => decide (PySem.W.findIn K (.ref 687) "lows" = some (some (.ref 597)))
abbrev fk125 : Hk.Fr → Bool := fun K => PySem.W.keepIn K (.ref 597)
abbrev fk126 : Hk.Fr → Bool := fun K => PySem.W.isFn K (.ref 597)
abbrev fk127 : Hk.Fr → Bool := fun K => decide (PySem.W.findIn K (.ref 687) "highs" = some (some (.ref 604)))
abbrev fk128 : Hk.Fr → Bool := fun K => PySem.W.keepIn K (.ref 604)
abbrev fk129 : Hk.Fr → Bool := fun K => PySem.W.isFn K (.ref 604)
abbrev fk130 : Hk.Fr → Bool := fun K => decide (PySem.W.findIn K (.ref 687) "__contains__" = some (some (.ref 651)))
abbrev fk131 : Hk.Fr → Bool := fun K => PySem.W.keepIn K (.ref 651)
abbrev fk132 : Hk.Fr → Bool := fun K => PySem.W.isFn K (.ref 651)
abbrev fk133 : Hk.Fr → Bool := fun K => decide (PySem.W.nsIn K mainGlobals "_law_box" = some (some (.ref 703)))
abbrev fk134 : Hk.Fr → Bool := fun K => PySem.W.keepIn K (.ref 703)
abbrev fk135 : Hk.Fr → Bool := fun K => decide (PySem.W.nsIn K mainGlobals "_law_take" = some (some (.ref 710)))
abbrev fk136 : Hk.Fr → Bool := fun K => PySem.W.keepIn K (.ref 710)
abbrev fk137 : Hk.Fr → Bool := fun K => decide (PySem.W.nsIn K mainGlobals "_law_truth" = some (some (.ref 717)))
abbrev fk138 : Hk.Fr → Bool := fun K => PySem.W.keepIn K (.ref 717)
abbrev fk139 : Hk.Fr → Bool := fun K => decide (PySem.W.nsIn K mainGlobals "_law_span" = some (some (.ref 724)))
abbrev fk140 : Hk.Fr → Bool := fun K => PySem.W.keepIn K (.ref 724)
abbrev fk141 : Hk.Fr → Bool := fun K => decide (PySem.W.nsIn K mainGlobals "_law_spec" = some (some (.ref 729)))
abbrev fk142 : Hk.Fr → Bool := fun K => PySem.W.keepIn K (.ref 729)
abbrev fk143 : Hk.Fr → Bool := fun K => decide (PySem.W.nsIn K mainGlobals "_law_links" = some (some (.ref 736)))
abbrev fk144 : Hk.Fr → Bool := fun K => PySem.W.keepIn K (.ref 736)
abbrev fk145 : Hk.Fr → Bool := fun K => decide (PySem.W.nsIn K mainGlobals "_law_steps" = some (some (.ref 767)))
abbrev fk146 : Hk.Fr → Bool := fun K => PySem.W.keepIn K (.ref 767)
abbrev fk147 : Hk.Fr → Bool := fun K => decide (PySem.W.nsIn K mainGlobals "_law_tries" = some (some (.ref 743)))
abbrev fk148 : Hk.Fr → Bool := fun K => PySem.W.keepIn K (.ref 743)
abbrev fk149 : Hk.Fr → Bool := fun K => decide (PySem.W.nsIn K mainGlobals "_law_trials" = some (some (.ref 748)))
abbrev fk150 : Hk.Fr → Bool := fun K => PySem.W.keepIn K (.ref 748)
abbrev fk151 : Hk.Fr → Bool := fun K => decide (PySem.W.nsIn K mainGlobals "_law_big" = some (some (.ref 755)))
abbrev fk152 : Hk.Fr → Bool := fun K => PySem.W.keepIn K (.ref 755)
abbrev fk153 : Hk.Fr → Bool := fun K => decide (PySem.W.nsIn K mainGlobals "_law_true" = some (some (.ref 760)))
abbrev fk154 : Hk.Fr → Bool := fun K => PySem.W.keepIn K (.ref 760)
abbrev fk155 : Hk.Fr → Bool := fun K => decide (PySem.W.nsIn K mainGlobals "_law_fits" = some (some (.ref 774)))
abbrev fk156 : Hk.Fr → Bool := fun K => PySem.W.keepIn K (.ref 774)
abbrev fk157 : Hk.Fr → Bool := fun K => decide (PySem.W.nsIn K mainGlobals "_law_agrees" = some (some (.ref 781)))
abbrev fk158 : Hk.Fr → Bool := fun K => PySem.W.keepIn K (.ref 781)
abbrev fk159 : Hk.Fr → Bool := fun K => decide (PySem.W.nsIn K mainGlobals "_law_says" = some (some (.ref 788)))
abbrev fk160 : Hk.Fr → Bool := fun K => PySem.W.keepIn K (.ref 788)
abbrev fk161 : Hk.Fr → Bool := fun K => decide (PySem.W.nsIn K mainGlobals "law" = some (some (.ref 795)))
abbrev fk162 : Hk.Fr → Bool := fun K => PySem.W.keepIn K (.ref 795)
abbrev fk163 : Hk.Fr → Bool := fun K => decide (PySem.W.nsIn K cStatics "thirdparty.any" = some none)
abbrev fk164 : Hk.Fr → Bool := fun K => decide (PySem.W.nsIn K mainGlobals "super" = some none)
abbrev fk165 : Hk.Fr → Bool := fun K => decide (PySem.W.nsIn K mainGlobals "BadNumber" = some (some (.ref 53)))
abbrev fk166 : Hk.Fr → Bool := fun K => decide (PySem.W.findIn K (.ref 53) "__setattr__" = some (some (.builtin "object.__setattr__")))
abbrev fk167 : Hk.Fr → Bool := fun K => decide (PySem.W.findIn K (.ref 53) "__getattribute__" = some (some (.builtin "BaseException.__getattribute__")))
abbrev fk168 : Hk.Fr → Bool := fun K => decide (PySem.W.findIn K (.ref 53) "__getattr__" = some none)
abbrev fk169 : Hk.Fr → Bool := fun K => decide (PySem.W.findIn K (.ref 53) "value" = some none)
abbrev fk170 : Hk.Fr → Bool := fun K => decide (PySem.W.findIn K (.ref 53) "__init__" = some (some (.ref 50)))
abbrev fk171 : Hk.Fr → Bool := fun K => decide (PySem.W.typeIn K (.ref 50) = some (.type "function"))
abbrev fk172 : Hk.Fr → Bool := fun K => decide (PySem.W.mroIn K 53 (.ref 53) = some true)
abbrev fk173 : Hk.Fr → Bool := fun K => decide (PySem.W.ks_superIn K 53 53 "__init__" = some (some (.builtin "ValueError.__init__")))
abbrev fk174 : Hk.Fr → Bool := fun K => decide (PySem.W.subIn K (.ref 53) (.type "ValueError") = some true)
abbrev fk175 : Hk.Fr → Bool := fun K => PySem.W.keepIn K (.ref 53)
abbrev fk176 : Hk.Fr → Bool := fun K => decide (PySem.W.subIn K (.ref 53) (.type "BaseException") = some true)
abbrev fk177 : Hk.Fr → Bool := fun K => decide (PySem.W.typeIn K (.ref 53) = some (.type "type"))
abbrev fk178 : Hk.Fr → Bool := fun K => PySem.W.hasDictIn K 53
abbrev fk179 : Hk.Fr → Bool := fun K => decide (PySem.W.subIn K (.ref 53) (.ref 53) = some true)
abbrev fk180 : Hk.Fr → Bool := fun K => decide (PySem.W.nsIn K mainGlobals "BadName" = some (some (.ref 74)))
abbrev fk181 : Hk.Fr → Bool := fun K => decide (PySem.W.findIn K (.ref 74) "__setattr__" = some (some (.builtin "object.__setattr__")))
abbrev fk182 : Hk.Fr → Bool := fun K => decide (PySem.W.findIn K (.ref 74) "__getattribute__" = some (some (.builtin "BaseException.__getattribute__")))
abbrev fk183 : Hk.Fr → Bool := fun K => decide (PySem.W.findIn K (.ref 74) "__getattr__" = some none)
abbrev fk184 : Hk.Fr → Bool := fun K => decide (PySem.W.findIn K (.ref 74) "name" = some none)
abbrev fk185 : Hk.Fr → Bool := fun K => decide (PySem.W.findIn K (.ref 74) "__init__" = some (some (.ref 71)))
abbrev fk186 : Hk.Fr → Bool := fun K => decide (PySem.W.typeIn K (.ref 71) = some (.type "function"))
abbrev fk187 : Hk.Fr → Bool := fun K => decide (PySem.W.mroIn K 74 (.ref 74) = some true)
abbrev fk188 : Hk.Fr → Bool := fun K => decide (PySem.W.ks_superIn K 74 74 "__init__" = some (some (.builtin "ValueError.__init__")))
abbrev fk189 : Hk.Fr → Bool := fun K => decide (PySem.W.subIn K (.ref 74) (.type "ValueError") = some true)
abbrev fk190 : Hk.Fr → Bool := fun K => PySem.W.keepIn K (.ref 74)
abbrev fk191 : Hk.Fr → Bool := fun K => decide (PySem.W.subIn K (.ref 74) (.type "BaseException") = some true)
abbrev fk192 : Hk.Fr → Bool := fun K => decide (PySem.W.typeIn K (.ref 74) = some (.type "type"))
abbrev fk193 : Hk.Fr → Bool := fun K => PySem.W.hasDictIn K 74
abbrev fk194 : Hk.Fr → Bool := fun K => decide (PySem.W.subIn K (.ref 74) (.ref 74) = some true)
abbrev fk195 : Hk.Fr → Bool := fun K => decide (PySem.W.nsIn K mainGlobals "TakenName" = some (some (.ref 95)))
abbrev fk196 : Hk.Fr → Bool := fun K => decide (PySem.W.findIn K (.ref 95) "__setattr__" = some (some (.builtin "object.__setattr__")))
abbrev fk197 : Hk.Fr → Bool := fun K => decide (PySem.W.findIn K (.ref 95) "__getattribute__" = some (some (.builtin "BaseException.__getattribute__")))
abbrev fk198 : Hk.Fr → Bool := fun K => decide (PySem.W.findIn K (.ref 95) "__getattr__" = some none)
abbrev fk199 : Hk.Fr → Bool := fun K => decide (PySem.W.findIn K (.ref 95) "name" = some none)
abbrev fk200 : Hk.Fr → Bool := fun K => decide (PySem.W.findIn K (.ref 95) "__init__" = some (some (.ref 92)))
abbrev fk201 : Hk.Fr → Bool := fun K => decide (PySem.W.typeIn K (.ref 92) = some (.type "function"))
abbrev fk202 : Hk.Fr → Bool := fun K => decide (PySem.W.mroIn K 95 (.ref 95) = some true)
abbrev fk203 : Hk.Fr → Bool := fun K => decide (PySem.W.ks_superIn K 95 95 "__init__" = some (some (.builtin "ValueError.__init__")))
abbrev fk204 : Hk.Fr → Bool := fun K => decide (PySem.W.subIn K (.ref 95) (.type "ValueError") = some true)
abbrev fk205 : Hk.Fr → Bool := fun K => PySem.W.keepIn K (.ref 95)
abbrev fk206 : Hk.Fr → Bool := fun K => decide (PySem.W.subIn K (.ref 95) (.type "BaseException") = some true)
abbrev fk207 : Hk.Fr → Bool := fun K => decide (PySem.W.typeIn K (.ref 95) = some (.type "type"))
abbrev fk208 : Hk.Fr → Bool := fun K => PySem.W.hasDictIn K 95
abbrev fk209 : Hk.Fr → Bool := fun K => decide (PySem.W.subIn K (.ref 95) (.ref 95) = some true)
abbrev fk210 : Hk.Fr → Bool := fun K => decide (PySem.W.nsIn K mainGlobals "NoPlace" = some (some (.ref 116)))
abbrev fk211 : Hk.Fr → Bool := fun K => decide (PySem.W.findIn K (.ref 116) "__setattr__" = some (some (.builtin "object.__setattr__")))
abbrev fk212 : Hk.Fr → Bool := fun K => decide (PySem.W.findIn K (.ref 116) "__getattribute__" = some (some (.builtin "BaseException.__getattribute__")))
abbrev fk213 : Hk.Fr → Bool := fun K => decide (PySem.W.findIn K (.ref 116) "__getattr__" = some none)
abbrev fk214 : Hk.Fr → Bool := fun K => decide (PySem.W.findIn K (.ref 116) "place" = some none)
abbrev fk215 : Hk.Fr → Bool := fun K => decide (PySem.W.findIn K (.ref 116) "__init__" = some (some (.ref 113)))
abbrev fk216 : Hk.Fr → Bool := fun K => decide (PySem.W.typeIn K (.ref 113) = some (.type "function"))
abbrev fk217 : Hk.Fr → Bool := fun K => decide (PySem.W.mroIn K 116 (.ref 116) = some true)
abbrev fk218 : Hk.Fr → Bool := fun K => decide (PySem.W.ks_superIn K 116 116 "__init__" = some (some (.builtin "ValueError.__init__")))
abbrev fk219 : Hk.Fr → Bool := fun K => decide (PySem.W.subIn K (.ref 116) (.type "ValueError") = some true)
abbrev fk220 : Hk.Fr → Bool := fun K => PySem.W.keepIn K (.ref 116)
abbrev fk221 : Hk.Fr → Bool := fun K => decide (PySem.W.subIn K (.ref 116) (.type "BaseException") = some true)
abbrev fk222 : Hk.Fr → Bool := fun K => decide (PySem.W.typeIn K (.ref 116) = some (.type "type"))
abbrev fk223 : Hk.Fr → Bool := fun K => PySem.W.hasDictIn K 116
abbrev fk224 : Hk.Fr → Bool := fun K => decide (PySem.W.subIn K (.ref 116) (.ref 116) = some true)
abbrev fk225 : Hk.Fr → Bool := fun K => decide (PySem.W.nsIn K mainGlobals "TooMany" = some (some (.ref 137)))
abbrev fk226 : Hk.Fr → Bool := fun K => decide (PySem.W.findIn K (.ref 137) "__setattr__" = some (some (.builtin "object.__setattr__")))
abbrev fk227 : Hk.Fr → Bool := fun K => decide (PySem.W.findIn K (.ref 137) "__getattribute__" = some (some (.builtin "BaseException.__getattribute__")))
abbrev fk228 : Hk.Fr → Bool := fun K => decide (PySem.W.findIn K (.ref 137) "__getattr__" = some none)
abbrev fk229 : Hk.Fr → Bool := fun K => decide (PySem.W.findIn K (.ref 137) "count" = some none)
abbrev fk230 : Hk.Fr → Bool := fun K => decide (PySem.W.findIn K (.ref 137) "__init__" = some (some (.ref 134)))
abbrev fk231 : Hk.Fr → Bool := fun K => decide (PySem.W.typeIn K (.ref 134) = some (.type "function"))
abbrev fk232 : Hk.Fr → Bool := fun K => decide (PySem.W.mroIn K 137 (.ref 137) = some true)
abbrev fk233 : Hk.Fr → Bool := fun K => decide (PySem.W.ks_superIn K 137 137 "__init__" = some (some (.builtin "ValueError.__init__")))
abbrev fk234 : Hk.Fr → Bool := fun K => decide (PySem.W.subIn K (.ref 137) (.type "ValueError") = some true)
abbrev fk235 : Hk.Fr → Bool := fun K => PySem.W.keepIn K (.ref 137)
abbrev fk236 : Hk.Fr → Bool := fun K => decide (PySem.W.subIn K (.ref 137) (.type "BaseException") = some true)
abbrev fk237 : Hk.Fr → Bool := fun K => decide (PySem.W.typeIn K (.ref 137) = some (.type "type"))
abbrev fk238 : Hk.Fr → Bool := fun K => PySem.W.hasDictIn K 137
abbrev fk239 : Hk.Fr → Bool := fun K => decide (PySem.W.subIn K (.ref 137) (.ref 137) = some true)
abbrev fk240 : Hk.Fr → Bool := fun K => decide (PySem.W.nsIn K mainGlobals "NoSite" = some (some (.ref 158)))
abbrev fk241 : Hk.Fr → Bool := fun K => decide (PySem.W.findIn K (.ref 158) "__setattr__" = some (some (.builtin "object.__setattr__")))
abbrev fk242 : Hk.Fr → Bool := fun K => decide (PySem.W.findIn K (.ref 158) "__getattribute__" = some (some (.builtin "BaseException.__getattribute__")))
abbrev fk243 : Hk.Fr → Bool := fun K => decide (PySem.W.findIn K (.ref 158) "__getattr__" = some none)
abbrev fk244 : Hk.Fr → Bool := fun K => decide (PySem.W.findIn K (.ref 158) "ring" = some none)
abbrev fk245 : Hk.Fr → Bool := fun K => decide (PySem.W.findIn K (.ref 158) "__init__" = some (some (.ref 155)))
abbrev fk246 : Hk.Fr → Bool := fun K => decide (PySem.W.typeIn K (.ref 155) = some (.type "function"))
abbrev fk247 : Hk.Fr → Bool := fun K => decide (PySem.W.mroIn K 158 (.ref 158) = some true)
abbrev fk248 : Hk.Fr → Bool := fun K => decide (PySem.W.ks_superIn K 158 158 "__init__" = some (some (.builtin "ValueError.__init__")))
abbrev fk249 : Hk.Fr → Bool := fun K => decide (PySem.W.subIn K (.ref 158) (.type "ValueError") = some true)
abbrev fk250 : Hk.Fr → Bool := fun K => PySem.W.keepIn K (.ref 158)
abbrev fk251 : Hk.Fr → Bool := fun K => decide (PySem.W.subIn K (.ref 158) (.type "BaseException") = some true)
abbrev fk252 : Hk.Fr → Bool := fun K => decide (PySem.W.typeIn K (.ref 158) = some (.type "type"))
abbrev fk253 : Hk.Fr → Bool := fun K => PySem.W.hasDictIn K 158
abbrev fk254 : Hk.Fr → Bool := fun K => decide (PySem.W.subIn K (.ref 158) (.ref 158) = some true)
abbrev fk255 : Hk.Fr → Bool := fun K => decide (PySem.W.nsIn K mainGlobals "len" = some none)
abbrev fk256 : Hk.Fr → Bool := fun K => decide (PySem.W.nsIn K mainGlobals "int" = some none)
abbrev fk257 : Hk.Fr → Bool := fun K => decide (PySem.W.nsIn K mainGlobals "bool" = some none)
abbrev fk258 : Hk.Fr → Bool := fun K => decide (PySem.W.nsIn K mainGlobals "isinstance" = some none)
abbrev fk259 : Hk.Fr → Bool := fun K => decide (PySem.W.nsIn K mainGlobals "range" = some none)
abbrev fk260 : Hk.Fr → Bool := fun K => decide (PySem.W.nsIn K mainGlobals "list" = some none)
abbrev fk261 : Hk.Fr → Bool := fun K => decide (PySem.W.nsIn K mainGlobals "tuple" = some none)
abbrev fk262 : Hk.Fr → Bool := fun K => decide (PySem.W.nsIn K mainGlobals "enumerate" = some none)
abbrev fk263 : Hk.Fr → Bool := fun K => decide (PySem.W.nsIn K mainGlobals "zip" = some none)
abbrev fk264 : Hk.Fr → Bool := fun K => decide (PySem.W.nsIn K mainGlobals "max" = some none)
abbrev fk265 : Hk.Fr → Bool := fun K => decide (PySem.W.nsIn K mainGlobals "min" = some none)
abbrev fk266 : Hk.Fr → Bool := fun K => decide (PySem.W.nsIn K mainGlobals "all" = some none)
abbrev fk267 : Hk.Fr → Bool := fun K => decide (PySem.W.nsIn K mainGlobals "any" = some none)
abbrev fk268 : Hk.Fr → Bool := fun K => PySem.W.plainGet K 330 Str.empty
abbrev fk269 : Hk.Fr → Bool := fun K => PySem.W.hasDictIn K 330
abbrev fk270 : Hk.Fr → Bool := fun K => PySem.W.plainOver K 330
abbrev fk271 : Hk.Fr → Bool := fun K => decide (PySem.W.findIn K (.ref 330) "__setattr__" = some (some (.builtin "object.__setattr__")))
abbrev fk272 : Hk.Fr → Bool := fun K => decide (PySem.W.findIn K (.ref 330) "_rows" = some none)
abbrev fk273 : Hk.Fr → Bool := fun K => decide (PySem.W.findIn K (.ref 330) "_links" = some none)
abbrev fk274 : Hk.Fr → Bool := fun K => decide (PySem.W.findIn K (.ref 330) "_spots" = some none)
abbrev fk275 : Hk.Fr → Bool := fun K => decide (PySem.W.findIn K (.ref 330) "_places" = some none)
abbrev fk276 : Hk.Fr → Bool := fun K => decide (PySem.W.findIn K (.ref 330) "_tops" = some none)
abbrev fk277 : Hk.Fr → Bool := fun K => decide (PySem.W.findIn K (.ref 330) "size" = some none)
abbrev fk278 : Hk.Fr → Bool := fun K => decide (PySem.W.findIn K (.ref 330) "_told" = some none)
abbrev fk279 : Hk.Fr → Bool := fun K => decide (PySem.W.findIn K (.ref 330) "_limits" = some none)
abbrev fk280 : Hk.Fr → Bool := fun K => PySem.W.makesIn K 330
abbrev fk281 : Hk.Fr → Bool := fun K => PySem.W.keepIn K (.ref 330)
abbrev fk282 : Hk.Fr → Bool := fun K => Hk.strB "LETTERS" letters K
abbrev fk283 : Hk.Fr → Bool := fun K => Hk.intB "LONGEST_NAME" 12 K
abbrev fk284 : Hk.Fr → Bool := fun K => Hk.intB "MOST_PLACES" 24 K
abbrev fk285 : Hk.Fr → Bool := fun K => Hk.intB "GROUND" (-1) K
abbrev fk286 : Hk.Fr → Bool := fun K => PySem.W.plainGet K 477 Str.empty
abbrev fk287 : Hk.Fr → Bool := fun K => PySem.W.hasDictIn K 477
abbrev fk288 : Hk.Fr → Bool := fun K => PySem.W.plainOver K 477
abbrev fk289 : Hk.Fr → Bool := fun K => decide (PySem.W.findIn K (.ref 477) "__setattr__" = some (some (.builtin "object.__setattr__")))
abbrev fk290 : Hk.Fr → Bool := fun K => PySem.W.makesIn K 477
abbrev fk291 : Hk.Fr → Bool := fun K => PySem.W.keepIn K (.ref 477)
abbrev fk292 : Hk.Fr → Bool := fun K => decide (PySem.W.findIn K (.ref 477) "place" = some none)
abbrev fk293 : Hk.Fr → Bool := fun K => decide (PySem.W.findIn K (.ref 477) "height" = some none)
abbrev fk294 : Hk.Fr → Bool := fun K => decide (PySem.W.findIn K (.ref 477) "reached" = some none)
abbrev fk295 : Hk.Fr → Bool := fun K => PySem.W.plainGet K 687 Str.empty
abbrev fk296 : Hk.Fr → Bool := fun K => PySem.W.hasDictIn K 687
abbrev fk297 : Hk.Fr → Bool := fun K => PySem.W.plainOver K 687
abbrev fk298 : Hk.Fr → Bool := fun K => decide (PySem.W.findIn K (.ref 687) "__setattr__" = some (some (.builtin "object.__setattr__")))
abbrev fk299 : Hk.Fr → Bool := fun K => PySem.W.makesIn K 687
abbrev fk300 : Hk.Fr → Bool := fun K => PySem.W.keepIn K (.ref 687)
abbrev fk301 : Hk.Fr → Bool := fun K => decide (PySem.W.findIn K (.ref 687) "site" = some none)
abbrev fk302 : Hk.Fr → Bool := fun K => decide (PySem.W.findIn K (.ref 687) "_low_edges" = some none)
abbrev fk303 : Hk.Fr → Bool := fun K => decide (PySem.W.findIn K (.ref 687) "_high_edges" = some none)
abbrev fk304 : Hk.Fr → Bool := fun K => Hk.intB "NO_TRIAL" (-1) K
def asH0 : List Addr := [2,
  3,
  31,
  53,
  74,
  95,
  116,
  137,
  158,
  209,
  216,
  330,
  341,
  348,
  355,
  360,
  365,
  372,
  379,
  386,
  393,
  398,
  405,
  410,
  417,
  422,
  477,
  488,
  500,
  505,
  512,
  519,
  687,
  703,
  710,
  717,
  724,
  729,
  736,
  743]
def asH1 : List Addr := [748,
  755,
  760,
  767,
  774,
  781,
  788,
  795,
  30,
  52,
  73,
  94,
  115,
  136,
  157,
  208,
  215,
  329,
  340,
  347,
  354,
  359,
  364,
  371,
  378,
  385,
  392,
  397,
  404,
  409,
  416,
  421,
  476,
  487,
  499,
  504,
  511,
  518,
  686,
  702]
def asH2 : List Addr := [709,
  716,
  723,
  728,
  735,
  742,
  747,
  754,
  759,
  766,
  773,
  780,
  787,
  794,
  50,
  71,
  92,
  113,
  134,
  155,
  230,
  294,
  308,
  315,
  320,
  436,
  590,
  597,
  604,
  651,
  49,
  38,
  70,
  59,
  91,
  80,
  112,
  101,
  133,
  122]
def asH3 : List Addr := [154,
  143,
  229,
  225,
  293,
  307,
  314,
  319,
  435,
  589,
  583,
  596,
  603,
  650]
def asH : List Addr := asH0 ++ asH1 ++ asH2 ++ asH3
def fx0 : List (Hk.Fr → Bool) := [fk0,
  fk1,
  fk2,
  fk3,
  fk4,
  fk5,
  fk6,
  fk7,
  fk8,
  fk9,
  fk10,
  fk11,
  fk12,
  fk13,
  fk14,
  fk15,
  fk16,
  fk17,
  fk18,
  fk19,
  fk20,
  fk21,
  fk22,
  fk23,
  fk24,
  fk25,
  fk26,
  fk27,
  fk28,
  fk29,
  fk30,
  fk31,
  fk32,
  fk33,
  fk34,
  fk35,
  fk36,
  fk37,
  fk38,
  fk39]
def fx1 : List (Hk.Fr → Bool) := [fk40,
  fk41,
  fk42,
  fk43,
  fk44,
  fk45,
  fk46,
  fk47,
  fk48,
  fk49,
  fk50,
  fk51,
  fk52,
  fk53,
  fk54,
  fk55,
  fk56,
  fk57,
  fk58,
  fk59,
  fk60,
  fk61,
  fk62,
  fk63,
  fk64,
  fk65,
  fk66,
  fk67,
  fk68,
  fk69,
  fk70,
  fk71,
  fk72,
  fk73,
  fk74,
  fk75,
  fk76,
  fk77,
  fk78,
  fk79]
def fx2 : List (Hk.Fr → Bool) := [fk80,
  fk81,
  fk82,
  fk83,
  fk84,
  fk85,
  fk86,
  fk87,
  fk88,
  fk89,
  fk90,
  fk91,
  fk92,
  fk93,
  fk94,
  fk95,
  fk96,
  fk97,
  fk98,
  fk99,
  fk100,
  fk101,
  fk102,
  fk103,
  fk104,
  fk105,
  fk106,
  fk107,
  fk108,
  fk109,
  fk110,
  fk111,
  fk112,
  fk113,
  fk114,
  fk115,
  fk116,
  fk117,
  fk118,
  fk119]
def fx3 : List (Hk.Fr → Bool) := [fk120,
  fk121,
  fk122,
  fk123,
  fk124,
  fk125,
  fk126,
  fk127,
  fk128,
  fk129,
  fk130,
  fk131,
  fk132,
  fk133,
  fk134,
  fk135,
  fk136,
  fk137,
  fk138,
  fk139,
  fk140,
  fk141,
  fk142,
  fk143,
  fk144,
  fk145,
  fk146,
  fk147,
  fk148,
  fk149,
  fk150,
  fk151,
  fk152,
  fk153,
  fk154,
  fk155,
  fk156,
  fk157,
  fk158,
  fk159]
def fx4 : List (Hk.Fr → Bool) := [fk160,
  fk161,
  fk162,
  fk163,
  fk164,
  fk165,
  fk166,
  fk167,
  fk168,
  fk169,
  fk170,
  fk171,
  fk172,
  fk173,
  fk174,
  fk175,
  fk176,
  fk177,
  fk178,
  fk179,
  fk180,
  fk181,
  fk182,
  fk183,
  fk184,
  fk185,
  fk186,
  fk187,
  fk188,
  fk189,
  fk190,
  fk191,
  fk192,
  fk193,
  fk194,
  fk195,
  fk196,
  fk197,
  fk198,
  fk199]
def fx5 : List (Hk.Fr → Bool) := [fk200,
  fk201,
  fk202,
  fk203,
  fk204,
  fk205,
  fk206,
  fk207,
  fk208,
  fk209,
  fk210,
  fk211,
  fk212,
  fk213,
  fk214,
  fk215,
  fk216,
  fk217,
  fk218,
  fk219,
  fk220,
  fk221,
  fk222,
  fk223,
  fk224,
  fk225,
  fk226,
  fk227,
  fk228,
  fk229,
  fk230,
  fk231,
  fk232,
  fk233,
  fk234,
  fk235,
  fk236,
  fk237,
  fk238,
  fk239]
def fx6 : List (Hk.Fr → Bool) := [fk240,
  fk241,
  fk242,
  fk243,
  fk244,
  fk245,
  fk246,
  fk247,
  fk248,
  fk249,
  fk250,
  fk251,
  fk252,
  fk253,
  fk254,
  fk255,
  fk256,
  fk257,
  fk258,
  fk259,
  fk260,
  fk261,
  fk262,
  fk263,
  fk264,
  fk265,
  fk266,
  fk267,
  fk268,
  fk269,
  fk270,
  fk271,
  fk272,
  fk273,
  fk274,
  fk275,
  fk276,
  fk277,
  fk278,
  fk279]
def fx7 : List (Hk.Fr → Bool) := [fk280,
  fk281,
  fk282,
  fk283,
  fk284,
  fk285,
  fk286,
  fk287,
  fk288,
  fk289,
  fk290,
  fk291,
  fk292,
  fk293,
  fk294,
  fk295,
  fk296,
  fk297,
  fk298,
  fk299,
  fk300,
  fk301,
  fk302,
  fk303,
  fk304]
def fx : List (Hk.Fr → Bool) := fx0 ++ fx1 ++ fx2 ++ fx3 ++ fx4 ++ fx5 ++ fx6 ++ fx7
def fn0 : List Hk.Df := [⟨209, "check_name", "check_name", sCkn, []⟩,
  ⟨216, "check_not_negative", "check_not_negative", sChk, []⟩,
  ⟨341, "_check_rows", "_check_rows", sCro, []⟩,
  ⟨348, "_check_numbers", "_check_numbers", sCnu, []⟩,
  ⟨355, "_check_links", "_check_links", sCli, []⟩,
  ⟨360, "_spots_of", "_spots_of", sSpots, []⟩,
  ⟨365, "_tops_of", "_tops_of", sTops, []⟩,
  ⟨372, "_told_limits", "_told_limits", sTold, []⟩,
  ⟨379, "_ground_limits", "_ground_limits", sGrd, []⟩,
  ⟨386, "_slope_limits", "_slope_limits", sSlp, []⟩,
  ⟨393, "_link_limits", "_link_limits", sLnk, []⟩,
  ⟨398, "_find_ring", "_find_ring", sFnd, []⟩,
  ⟨405, "_ring_behind", "_ring_behind", sRgb, []⟩,
  ⟨410, "_least_sums", "_least_sums", sLst, []⟩,
  ⟨417, "_first_sum", "_first_sum", sFst, []⟩,
  ⟨422, "_sums_by", "_sums_by", sSby, []⟩,
  ⟨230, "__init__", "Site.__init__", sSini, []⟩,
  ⟨294, "limit", "Site.limit", sLim, []⟩,
  ⟨320, "fits", "Site.fits", sSfi, []⟩,
  ⟨315, "check_nodes", "Site.check_nodes", sChn, []⟩,
  ⟨308, "check_place", "Site.check_place", sCp, []⟩,
  ⟨436, "__init__", "Trial.__init__", sTini, []⟩,
  ⟨488, "check_places", "check_places", sCps, []⟩,
  ⟨500, "find_edges", "find_edges", sFed, []⟩,
  ⟨505, "heights_of", "heights_of", sHof, []⟩,
  ⟨512, "_low_edge", "_low_edge", sLed, []⟩,
  ⟨519, "_high_edge", "_high_edge", sHed, []⟩,
  ⟨590, "__init__", "Bounds.__init__", sBini, []⟩,
  ⟨597, "lows", "Bounds.lows", sBlo, []⟩,
  ⟨604, "highs", "Bounds.highs", sBhi, []⟩,
  ⟨651, "__contains__", "Bounds.__contains__", sBcon, []⟩,
  ⟨703, "_law_box", "_law_box", sBox, []⟩,
  ⟨710, "_law_take", "_law_take", sTake, []⟩,
  ⟨717, "_law_truth", "_law_truth", sTru, []⟩,
  ⟨724, "_law_span", "_law_span", sSpn, []⟩,
  ⟨729, "_law_spec", "_law_spec", sSpc, []⟩,
  ⟨736, "_law_links", "_law_links", sLkL, []⟩,
  ⟨767, "_law_steps", "_law_steps", sStp, []⟩,
  ⟨743, "_law_tries", "_law_tries", sTrs, []⟩,
  ⟨748, "_law_trials", "_law_trials", sTrl, []⟩]
def fn1 : List Hk.Df := [⟨755, "_law_big", "_law_big", sBig, []⟩,
  ⟨760, "_law_true", "_law_true", sTrw, []⟩,
  ⟨774, "_law_fits", "_law_fits", sLFi, []⟩,
  ⟨781, "_law_agrees", "_law_agrees", sAgr, []⟩,
  ⟨788, "_law_says", "_law_says", sSay, []⟩,
  ⟨795, "law", "law", sLaw, []⟩,
  ⟨50, "__init__", "BadNumber.__init__", sErr, ["__class__"]⟩,
  ⟨71, "__init__", "BadName.__init__", sEN, ["__class__"]⟩,
  ⟨92, "__init__", "TakenName.__init__", sET, ["__class__"]⟩,
  ⟨113, "__init__", "NoPlace.__init__", sEP, ["__class__"]⟩,
  ⟨134, "__init__", "TooMany.__init__", sEM, ["__class__"]⟩,
  ⟨155, "__init__", "NoSite.__init__", sES, ["__class__"]⟩]
def fn : List Hk.Df := fn0 ++ fn1
def nmsH0 : List Str := ["_wall",
  "LadderError",
  "BadNumber",
  "BadName",
  "TakenName",
  "NoPlace",
  "TooMany",
  "NoSite",
  "NoShape",
  "OtherSite",
  "LETTERS",
  "LONGEST_NAME",
  "check_name",
  "check_not_negative",
  "GROUND",
  "MOST_PLACES",
  "Site",
  "_check_rows",
  "_check_numbers",
  "_check_links",
  "_spots_of",
  "_tops_of",
  "_told_limits",
  "_ground_limits",
  "_slope_limits",
  "_link_limits",
  "_find_ring",
  "_ring_behind",
  "_least_sums",
  "_first_sum"]
def nmsH1 : List Str := ["_sums_by",
  "Trial",
  "check_places",
  "NO_TRIAL",
  "find_blames",
  "find_edges",
  "heights_of",
  "_low_edge",
  "_high_edge",
  "alone_between",
  "rivals_among",
  "rivals_without",
  "_are_rivals",
  "_find_odds",
  "most_pairs",
  "_with_one_more",
  "_led_to",
  "_turned",
  "Bounds",
  "_telling_trials",
  "_law_box",
  "_law_take",
  "_law_truth",
  "_law_span",
  "_law_spec",
  "_law_links",
  "_law_tries",
  "_law_trials",
  "_law_big",
  "_law_true"]
def nmsH2 : List Str := ["_law_steps",
  "_law_fits",
  "_law_agrees",
  "_law_says"]
def nmsH : List Str := nmsH0 ++ nmsH1 ++ nmsH2
theorem all_ok {P : Program} {w : World} {K : PySem.W.Frag} {h : Heap} {mg : Str → Option Value} {fa : Addr} (X : K.In h) (G : h.Ns mainGlobals mg) (hfa : mg "law" = some (.ref fa)) (htop : (P.main.scope.names.lookup ("super" : Str)).isSome = false) (hP : (P.main.file : Str) = fileH)
    (c : Hk.Says fx fn K) :
    ∃ fd : FuncData, (∀ (s : Shared) (v : Value), BindsTo s fd ⟨[v], []⟩ [("_law_script", v)]) ∧ ∀ base : Heap, K.In base → base.Ns mainGlobals mg → FnOk P w K mg base CX0 10 fa fd ["_law_script"] (spLaw K) := by
  obtain ⟨ocN, odN, slN, kVN, dcN, pmN, anN, cdN, ctN, lN, cN⟩ := Hk.def_ok (show Hk.fnE K 209 = Hk.sig "check_name" "check_name" sCkn [] from c.fn_ 0 rfl) (c.fact (f := fk0) 0 rfl)
  obtain ⟨ocK, odK, slK, kVK, dcK, pmK, anK, cdK, ctK, lK, cK⟩ := Hk.def_ok (show Hk.fnE K 216 = Hk.sig "check_not_negative" "check_not_negative" sChk [] from c.fn_ 1 rfl) (c.fact (f := fk1) 1 rfl)
  obtain ⟨ocCr, odCr, slCr, kVCr, dcCr, pmCr, anCr, cdCr, ctCr, lCr, cCr⟩ := Hk.def_ok (show Hk.fnE K 341 = Hk.sig "_check_rows" "_check_rows" sCro [] from c.fn_ 2 rfl) (c.fact (f := fk2) 2 rfl)
  obtain ⟨ocCu, odCu, slCu, kVCu, dcCu, pmCu, anCu, cdCu, ctCu, lCu, cCu⟩ := Hk.def_ok (show Hk.fnE K 348 = Hk.sig "_check_numbers" "_check_numbers" sCnu [] from c.fn_ 3 rfl) (c.fact (f := fk3) 3 rfl)
  obtain ⟨ocCl, odCl, slCl, kVCl, dcCl, pmCl, anCl, cdCl, ctCl, lCl, cCl⟩ := Hk.def_ok (show Hk.fnE K 355 = Hk.sig "_check_links" "_check_links" sCli [] from c.fn_ 4 rfl) (c.fact (f := fk4) 4 rfl)
  obtain ⟨ocSo, odSo, slSo, kVSo, dcSo, pmSo, anSo, cdSo, ctSo, lSo, cSo⟩ := Hk.def_ok (show Hk.fnE K 360 = Hk.sig "_spots_of" "_spots_of" sSpots [] from c.fn_ 5 rfl) (c.fact (f := fk5) 5 rfl)
  obtain ⟨ocTo, odTo, slTo, kVTo, dcTo, pmTo, anTo, cdTo, ctTo, lTo, cTo⟩ := Hk.def_ok (show Hk.fnE K 365 = Hk.sig "_tops_of" "_tops_of" sTops [] from c.fn_ 6 rfl) (c.fact (f := fk6) 6 rfl)
  obtain ⟨ocTd, odTd, slTd, kVTd, dcTd, pmTd, anTd, cdTd, ctTd, lTd, cTd⟩ := Hk.def_ok (show Hk.fnE K 372 = Hk.sig "_told_limits" "_told_limits" sTold [] from c.fn_ 7 rfl) (c.fact (f := fk7) 7 rfl)
  obtain ⟨ocGr, odGr, slGr, kVGr, dcGr, pmGr, anGr, cdGr, ctGr, lGr, cGr⟩ := Hk.def_ok (show Hk.fnE K 379 = Hk.sig "_ground_limits" "_ground_limits" sGrd [] from c.fn_ 8 rfl) (c.fact (f := fk8) 8 rfl)
  obtain ⟨ocSl, odSl, slSl, kVSl, dcSl, pmSl, anSl, cdSl, ctSl, lSl, cSl⟩ := Hk.def_ok (show Hk.fnE K 386 = Hk.sig "_slope_limits" "_slope_limits" sSlp [] from c.fn_ 9 rfl) (c.fact (f := fk9) 9 rfl)
  obtain ⟨ocLk, odLk, slLk, kVLk, dcLk, pmLk, anLk, cdLk, ctLk, lLk, cLk⟩ := Hk.def_ok (show Hk.fnE K 393 = Hk.sig "_link_limits" "_link_limits" sLnk [] from c.fn_ 10 rfl) (c.fact (f := fk10) 10 rfl)
  obtain ⟨ocFi, odFi, slFi, kVFi, dcFi, pmFi, anFi, cdFi, ctFi, lFi, cFi⟩ := Hk.def_ok (show Hk.fnE K 398 = Hk.sig "_find_ring" "_find_ring" sFnd [] from c.fn_ 11 rfl) (c.fact (f := fk11) 11 rfl)
  obtain ⟨ocRb, odRb, slRb, kVRb, dcRb, pmRb, anRb, cdRb, ctRb, lRb, cRb⟩ := Hk.def_ok (show Hk.fnE K 405 = Hk.sig "_ring_behind" "_ring_behind" sRgb [] from c.fn_ 12 rfl) (c.fact (f := fk12) 12 rfl)
  obtain ⟨ocLs, odLs, slLs, kVLs, dcLs, pmLs, anLs, cdLs, ctLs, lLs, cLs⟩ := Hk.def_ok (show Hk.fnE K 410 = Hk.sig "_least_sums" "_least_sums" sLst [] from c.fn_ 13 rfl) (c.fact (f := fk13) 13 rfl)
  obtain ⟨ocFs, odFs, slFs, kVFs, dcFs, pmFs, anFs, cdFs, ctFs, lFs, cFs⟩ := Hk.def_ok (show Hk.fnE K 417 = Hk.sig "_first_sum" "_first_sum" sFst [] from c.fn_ 14 rfl) (c.fact (f := fk14) 14 rfl)
  obtain ⟨ocSb, odSb, slSb, kVSb, dcSb, pmSb, anSb, cdSb, ctSb, lSb, cSb⟩ := Hk.def_ok (show Hk.fnE K 422 = Hk.sig "_sums_by" "_sums_by" sSby [] from c.fn_ 15 rfl) (c.fact (f := fk15) 15 rfl)
  obtain ⟨ocMi, odMi, slMi, kVMi, dcMi, pmMi, anMi, cdMi, ctMi, DTMi, xoMi, xdMi, xsMi, xnMi, aDf, lMi, cMi, dMi⟩ := Hk.dfl1_ok (show Hk.fnE K 230 = Hk.sig "__init__" "Site.__init__" sSini [] from c.fn_ 16 rfl) (c.fact (f := fk16) 16 rfl)
  obtain ⟨ocMl, odMl, slMl, kVMl, dcMl, pmMl, anMl, cdMl, ctMl, lMl, cMl⟩ := Hk.def_ok (show Hk.fnE K 294 = Hk.sig "limit" "Site.limit" sLim [] from c.fn_ 17 rfl) (c.fact (f := fk17) 17 rfl)
  obtain ⟨ocMf, odMf, slMf, kVMf, dcMf, pmMf, anMf, cdMf, ctMf, lMf, cMf⟩ := Hk.def_ok (show Hk.fnE K 320 = Hk.sig "fits" "Site.fits" sSfi [] from c.fn_ 18 rfl) (c.fact (f := fk18) 18 rfl)
  obtain ⟨ocMn, odMn, slMn, kVMn, dcMn, pmMn, anMn, cdMn, ctMn, lMn, cMn⟩ := Hk.def_ok (show Hk.fnE K 315 = Hk.sig "check_nodes" "Site.check_nodes" sChn [] from c.fn_ 19 rfl) (c.fact (f := fk19) 19 rfl)
  obtain ⟨ocMc, odMc, slMc, kVMc, dcMc, pmMc, anMc, cdMc, ctMc, lMc, cMc⟩ := Hk.def_ok (show Hk.fnE K 308 = Hk.sig "check_place" "Site.check_place" sCp [] from c.fn_ 20 rfl) (c.fact (f := fk20) 20 rfl)
  obtain ⟨ocTi, odTi, slTi, kVTi, dcTi, pmTi, anTi, cdTi, ctTi, lTi, cTi⟩ := Hk.def_ok (show Hk.fnE K 436 = Hk.sig "__init__" "Trial.__init__" sTini [] from c.fn_ 21 rfl) (c.fact (f := fk21) 21 rfl)
  obtain ⟨ocPs, odPs, slPs, kVPs, dcPs, pmPs, anPs, cdPs, ctPs, lPs, cPs⟩ := Hk.def_ok (show Hk.fnE K 488 = Hk.sig "check_places" "check_places" sCps [] from c.fn_ 22 rfl) (c.fact (f := fk22) 22 rfl)
  obtain ⟨ocFe, odFe, slFe, kVFe, dcFe, pmFe, anFe, cdFe, ctFe, lFe, cFe⟩ := Hk.def_ok (show Hk.fnE K 500 = Hk.sig "find_edges" "find_edges" sFed [] from c.fn_ 23 rfl) (c.fact (f := fk23) 23 rfl)
  obtain ⟨ocHo, odHo, slHo, kVHo, dcHo, pmHo, anHo, cdHo, ctHo, lHo, cHo⟩ := Hk.def_ok (show Hk.fnE K 505 = Hk.sig "heights_of" "heights_of" sHof [] from c.fn_ 24 rfl) (c.fact (f := fk24) 24 rfl)
  obtain ⟨ocLe, odLe, slLe, kVLe, dcLe, pmLe, anLe, cdLe, ctLe, lLe, cLe⟩ := Hk.def_ok (show Hk.fnE K 512 = Hk.sig "_low_edge" "_low_edge" sLed [] from c.fn_ 25 rfl) (c.fact (f := fk25) 25 rfl)
  obtain ⟨ocHe, odHe, slHe, kVHe, dcHe, pmHe, anHe, cdHe, ctHe, lHe, cHe⟩ := Hk.def_ok (show Hk.fnE K 519 = Hk.sig "_high_edge" "_high_edge" sHed [] from c.fn_ 26 rfl) (c.fact (f := fk26) 26 rfl)
  obtain ⟨ocBi, odBi, slBi, kVBi, dcBi, pmBi, anBi, cdBi, ctBi, DTBi, xoBi, xdBi, xsBi, xnBi, aDg, lBi, cBi, dBi⟩ := Hk.dfl1_ok (show Hk.fnE K 590 = Hk.sig "__init__" "Bounds.__init__" sBini [] from c.fn_ 27 rfl) (c.fact (f := fk27) 27 rfl)
  obtain ⟨ocBl, odBl, slBl, kVBl, dcBl, pmBl, anBl, cdBl, ctBl, lBl, cBl⟩ := Hk.def_ok (show Hk.fnE K 597 = Hk.sig "lows" "Bounds.lows" sBlo [] from c.fn_ 28 rfl) (c.fact (f := fk28) 28 rfl)
  obtain ⟨ocBh, odBh, slBh, kVBh, dcBh, pmBh, anBh, cdBh, ctBh, lBh, cBh⟩ := Hk.def_ok (show Hk.fnE K 604 = Hk.sig "highs" "Bounds.highs" sBhi [] from c.fn_ 29 rfl) (c.fact (f := fk29) 29 rfl)
  obtain ⟨ocBc, odBc, slBc, kVBc, dcBc, pmBc, anBc, cdBc, ctBc, lBc, cBc⟩ := Hk.def_ok (show Hk.fnE K 651 = Hk.sig "__contains__" "Bounds.__contains__" sBcon [] from c.fn_ 30 rfl) (c.fact (f := fk30) 30 rfl)
  obtain ⟨ocB, odB, slB, kVB, dcB, pmB, anB, cdB, ctB, lB, cB⟩ := Hk.def_ok (show Hk.fnE K 703 = Hk.sig "_law_box" "_law_box" sBox [] from c.fn_ 31 rfl) (c.fact (f := fk31) 31 rfl)
  obtain ⟨ocT, odT, slT, kVT, dcT, pmT, anT, cdT, ctT, lT, cT⟩ := Hk.def_ok (show Hk.fnE K 710 = Hk.sig "_law_take" "_law_take" sTake [] from c.fn_ 32 rfl) (c.fact (f := fk32) 32 rfl)
  obtain ⟨ocTr, odTr, slTr, kVTr, dcTr, pmTr, anTr, cdTr, ctTr, lTr, cTr⟩ := Hk.def_ok (show Hk.fnE K 717 = Hk.sig "_law_truth" "_law_truth" sTru [] from c.fn_ 33 rfl) (c.fact (f := fk33) 33 rfl)
  obtain ⟨ocSn, odSn, slSn, kVSn, dcSn, pmSn, anSn, cdSn, ctSn, lSn, cSn⟩ := Hk.def_ok (show Hk.fnE K 724 = Hk.sig "_law_span" "_law_span" sSpn [] from c.fn_ 34 rfl) (c.fact (f := fk34) 34 rfl)
  obtain ⟨ocSc, odSc, slSc, kVSc, dcSc, pmSc, anSc, cdSc, ctSc, lSc, cSc⟩ := Hk.def_ok (show Hk.fnE K 729 = Hk.sig "_law_spec" "_law_spec" sSpc [] from c.fn_ 35 rfl) (c.fact (f := fk35) 35 rfl)
  obtain ⟨ocLq, odLq, slLq, kVLq, dcLq, pmLq, anLq, cdLq, ctLq, lLq, cLq⟩ := Hk.def_ok (show Hk.fnE K 736 = Hk.sig "_law_links" "_law_links" sLkL [] from c.fn_ 36 rfl) (c.fact (f := fk36) 36 rfl)
  obtain ⟨ocSt, odSt, slSt, kVSt, dcSt, pmSt, anSt, cdSt, ctSt, lSt, cSt⟩ := Hk.def_ok (show Hk.fnE K 767 = Hk.sig "_law_steps" "_law_steps" sStp [] from c.fn_ 37 rfl) (c.fact (f := fk37) 37 rfl)
  obtain ⟨ocTs, odTs, slTs, kVTs, dcTs, pmTs, anTs, cdTs, ctTs, lTs, cTs⟩ := Hk.def_ok (show Hk.fnE K 743 = Hk.sig "_law_tries" "_law_tries" sTrs [] from c.fn_ 38 rfl) (c.fact (f := fk38) 38 rfl)
  obtain ⟨ocTl, odTl, slTl, kVTl, dcTl, pmTl, anTl, cdTl, ctTl, lTl, cTl⟩ := Hk.def_ok (show Hk.fnE K 748 = Hk.sig "_law_trials" "_law_trials" sTrl [] from c.fn_ 39 rfl) (c.fact (f := fk39) 39 rfl)
  obtain ⟨ocBg, odBg, slBg, kVBg, dcBg, pmBg, anBg, cdBg, ctBg, lBg, cBg⟩ := Hk.def_ok (show Hk.fnE K 755 = Hk.sig "_law_big" "_law_big" sBig [] from c.fn_ 40 rfl) (c.fact (f := fk40) 40 rfl)
  obtain ⟨ocTw, odTw, slTw, kVTw, dcTw, pmTw, anTw, cdTw, ctTw, lTw, cTw⟩ := Hk.def_ok (show Hk.fnE K 760 = Hk.sig "_law_true" "_law_true" sTrw [] from c.fn_ 41 rfl) (c.fact (f := fk41) 41 rfl)
  obtain ⟨ocLF, odLF, slLF, kVLF, dcLF, pmLF, anLF, cdLF, ctLF, lLF, cLF⟩ := Hk.def_ok (show Hk.fnE K 774 = Hk.sig "_law_fits" "_law_fits" sLFi [] from c.fn_ 42 rfl) (c.fact (f := fk42) 42 rfl)
  obtain ⟨ocAg, odAg, slAg, kVAg, dcAg, pmAg, anAg, cdAg, ctAg, lAg, cAg⟩ := Hk.def_ok (show Hk.fnE K 781 = Hk.sig "_law_agrees" "_law_agrees" sAgr [] from c.fn_ 43 rfl) (c.fact (f := fk43) 43 rfl)
  obtain ⟨ocSa, odSa, slSa, kVSa, dcSa, pmSa, anSa, cdSa, ctSa, lSa, cSa⟩ := Hk.def_ok (show Hk.fnE K 788 = Hk.sig "_law_says" "_law_says" sSay [] from c.fn_ 44 rfl) (c.fact (f := fk44) 44 rfl)
  obtain ⟨ocL, odL, slL, kVL, dcL, pmL, anL, cdL, ctL, lL, cL⟩ := Hk.def_ok (show Hk.fnE K 795 = Hk.sig "law" "law" sLaw [] from c.fn_ 45 rfl) (c.fact (f := fk45) 45 rfl)
  obtain ⟨nmEB, qEB, NEB, bsEB, bmEB, snEB, subEB, abEB, colEB, ddEB, m0EB, m1EB, m2EB, m3EB, m5EB, xEB, bvEB⟩ := Hk.exc_ok (c.fact (f := fk46) 46 rfl)
  obtain ⟨ocEB, odEB, slEB, kVEB, dcEB, pmEB, anEB, cdEB, ctEB, ccEB, ckEB, dkEB, vkEB, skEB, tfEB, ceEB, deEB, seEB, lEB, coEB, lkEB, vkEBx, leEB⟩ := Hk.err_ok (show Hk.fnE K 50 = Hk.sig "__init__" "BadNumber.__init__" sErr ["__class__"] from c.fn_ 46 rfl) (c.fact (f := fk47) 47 rfl)
  obtain ⟨nmEN, qEN, NEN, bsEN, bmEN, snEN, subEN, abEN, colEN, ddEN, m0EN, m1EN, m2EN, m3EN, m5EN, xEN, bvEN⟩ := Hk.exc_ok (c.fact (f := fk48) 48 rfl)
  obtain ⟨ocEN, odEN, slEN, kVEN, dcEN, pmEN, anEN, cdEN, ctEN, ccEN, ckEN, dkEN, vkEN, skEN, tfEN, ceEN, deEN, seEN, lEN, coEN, lkEN, vkENx, leEN⟩ := Hk.err_ok (show Hk.fnE K 71 = Hk.sig "__init__" "BadName.__init__" sEN ["__class__"] from c.fn_ 47 rfl) (c.fact (f := fk49) 49 rfl)
  obtain ⟨nmET, qET, NET, bsET, bmET, snET, subET, abET, colET, ddET, m0ET, m1ET, m2ET, m3ET, m5ET, xET, bvET⟩ := Hk.exc_ok (c.fact (f := fk50) 50 rfl)
  obtain ⟨ocET, odET, slET, kVET, dcET, pmET, anET, cdET, ctET, ccET, ckET, dkET, vkET, skET, tfET, ceET, deET, seET, lET, coET, lkET, vkETx, leET⟩ := Hk.err_ok (show Hk.fnE K 92 = Hk.sig "__init__" "TakenName.__init__" sET ["__class__"] from c.fn_ 48 rfl) (c.fact (f := fk51) 51 rfl)
  obtain ⟨nmEP, qEP, NEP, bsEP, bmEP, snEP, subEP, abEP, colEP, ddEP, m0EP, m1EP, m2EP, m3EP, m5EP, xEP, bvEP⟩ := Hk.exc_ok (c.fact (f := fk52) 52 rfl)
  obtain ⟨ocEP, odEP, slEP, kVEP, dcEP, pmEP, anEP, cdEP, ctEP, ccEP, ckEP, dkEP, vkEP, skEP, tfEP, ceEP, deEP, seEP, lEP, coEP, lkEP, vkEPx, leEP⟩ := Hk.err_ok (show Hk.fnE K 113 = Hk.sig "__init__" "NoPlace.__init__" sEP ["__class__"] from c.fn_ 49 rfl) (c.fact (f := fk53) 53 rfl)
  obtain ⟨nmEM, qEM, NEM, bsEM, bmEM, snEM, subEM, abEM, colEM, ddEM, m0EM, m1EM, m2EM, m3EM, m5EM, xEM, bvEM⟩ := Hk.exc_ok (c.fact (f := fk54) 54 rfl)
  obtain ⟨ocEM, odEM, slEM, kVEM, dcEM, pmEM, anEM, cdEM, ctEM, ccEM, ckEM, dkEM, vkEM, skEM, tfEM, ceEM, deEM, seEM, lEM, coEM, lkEM, vkEMx, leEM⟩ := Hk.err_ok (show Hk.fnE K 134 = Hk.sig "__init__" "TooMany.__init__" sEM ["__class__"] from c.fn_ 50 rfl) (c.fact (f := fk55) 55 rfl)
  obtain ⟨nmES, qES, NES, bsES, bmES, snES, subES, abES, colES, ddES, m0ES, m1ES, m2ES, m3ES, m5ES, xES, bvES⟩ := Hk.exc_ok (c.fact (f := fk56) 56 rfl)
  obtain ⟨ocES, odES, slES, kVES, dcES, pmES, anES, cdES, ctES, ccES, ckES, dkES, vkES, skES, tfES, ceES, deES, seES, lES, coES, lkES, vkESx, leES⟩ := Hk.err_ok (show Hk.fnE K 155 = Hk.sig "__init__" "NoSite.__init__" sES ["__class__"] from c.fn_ 51 rfl) (c.fact (f := fk57) 57 rfl)
  obtain ⟨tkLT, tLT⟩ := Hk.str_ok (c.fact (f := fk282) 282 rfl)
  obtain ⟨tkLG, tLG⟩ := Hk.int_ok (c.fact (f := fk283) 283 rfl)
  obtain ⟨tkMP, tMP⟩ := Hk.int_ok (c.fact (f := fk284) 284 rfl)
  obtain ⟨tkGR, tGR⟩ := Hk.int_ok (c.fact (f := fk285) 285 rfl)
  obtain ⟨tkNT, tNT⟩ := Hk.int_ok (c.fact (f := fk304) 304 rfl)
  exact all_mk (CSite := 330) (CTrial := 477) (CBounds := 687) (fN := 209) (fK := 216) (fCr := 341) (fCu := 348) (fCl := 355) (fSo := 360) (fTo := 365) (fTd := 372) (fGr := 379) (fSl := 386) (fLk := 393) (fFi := 398) (fRb := 405) (fLs := 410) (fFs := 417) (fSb := 422) (fPs := 488) (fFe := 500) (fHo := 505) (fLe := 512) (fHe := 519) (fB := 703) (fT := 710) (fTr := 717) (fSn := 724) (fSc := 729) (fLq := 736) (fSt := 767) (fTs := 743) (fTl := 748) (fBg := 755) (fTw := 760) (fLF := 774) (fAg := 781) (fSa := 788) (fL := 795) (CEB := 53) (CEN := 74) (CET := 95) (CEP := 116) (CEM := 137) (CES := 158) (fMi := 230) (fMl := 294) (fMf := 320) (fMn := 315) (fMc := 308) (fTi := 436) (fBi := 590) (fBl := 597) (fBh := 604) (fBc := 651) (fiEB := 50) (fiEN := 71) (fiET := 92) (fiEP := 113) (fiEM := 134) (fiES := 155) X G hfa htop (Hk.of_ (c.fact (f := fk58) 58 rfl)) (Hk.of_ (c.fact (f := fk59) 59 rfl)) (Hk.of_ (c.fact (f := fk60) 60 rfl)) (Hk.of_ (c.fact (f := fk61) 61 rfl)) lN cN (c.fact (f := fk62) 62 rfl) (Hk.of_ (c.fact (f := fk63) 63 rfl)) lK cK (c.fact (f := fk64) 64 rfl) (Hk.of_ (c.fact (f := fk65) 65 rfl)) lCr cCr (c.fact (f := fk66) 66 rfl) (Hk.of_ (c.fact (f := fk67) 67 rfl)) lCu cCu (c.fact (f := fk68) 68 rfl) (Hk.of_ (c.fact (f := fk69) 69 rfl)) lCl cCl (c.fact (f := fk70) 70 rfl) (Hk.of_ (c.fact (f := fk71) 71 rfl)) lSo cSo (c.fact (f := fk72) 72 rfl) (Hk.of_ (c.fact (f := fk73) 73 rfl)) lTo cTo (c.fact (f := fk74) 74 rfl) (Hk.of_ (c.fact (f := fk75) 75 rfl)) lTd cTd (c.fact (f := fk76) 76 rfl) (Hk.of_ (c.fact (f := fk77) 77 rfl)) lGr cGr (c.fact (f := fk78) 78 rfl) (Hk.of_ (c.fact (f := fk79) 79 rfl)) lSl cSl (c.fact (f := fk80) 80 rfl) (Hk.of_ (c.fact (f := fk81) 81 rfl)) lLk cLk (c.fact (f := fk82) 82 rfl) (Hk.of_ (c.fact (f := fk83) 83 rfl)) lFi cFi (c.fact (f := fk84) 84 rfl) (Hk.of_ (c.fact (f := fk85) 85 rfl)) lRb cRb (c.fact (f := fk86) 86 rfl) (Hk.of_ (c.fact (f := fk87) 87 rfl)) lLs cLs (c.fact (f := fk88) 88 rfl) (Hk.of_ (c.fact (f := fk89) 89 rfl)) lFs cFs (c.fact (f := fk90) 90 rfl) (Hk.of_ (c.fact (f := fk91) 91 rfl)) lSb cSb (c.fact (f := fk92) 92 rfl) (Hk.of_ (c.fact (f := fk93) 93 rfl)) lMi cMi (c.fact (f := fk94) 94 rfl) (c.fact (f := fk95) 95 rfl) dMi (Hk.of_ (c.fact (f := fk96) 96 rfl)) lMl cMl (c.fact (f := fk97) 97 rfl) (c.fact (f := fk98) 98 rfl) (Hk.of_ (c.fact (f := fk99) 99 rfl)) lMf cMf (c.fact (f := fk100) 100 rfl) (c.fact (f := fk101) 101 rfl) (Hk.of_ (c.fact (f := fk102) 102 rfl)) lMn cMn (c.fact (f := fk103) 103 rfl) (c.fact (f := fk104) 104 rfl) (Hk.of_ (c.fact (f := fk105) 105 rfl)) lMc cMc (c.fact (f := fk106) 106 rfl) (c.fact (f := fk107) 107 rfl) (Hk.of_ (c.fact (f := fk108) 108 rfl)) lTi cTi (c.fact (f := fk109) 109 rfl) (c.fact (f := fk110) 110 rfl) (Hk.of_ (c.fact (f := fk111) 111 rfl)) lPs cPs (c.fact (f := fk112) 112 rfl) (Hk.of_ (c.fact (f := fk113) 113 rfl)) lFe cFe (c.fact (f := fk114) 114 rfl) (Hk.of_ (c.fact (f := fk115) 115 rfl)) lHo cHo (c.fact (f := fk116) 116 rfl) (Hk.of_ (c.fact (f := fk117) 117 rfl)) lLe cLe (c.fact (f := fk118) 118 rfl) (Hk.of_ (c.fact (f := fk119) 119 rfl)) lHe cHe (c.fact (f := fk120) 120 rfl) (Hk.of_ (c.fact (f := fk121) 121 rfl)) lBi cBi (c.fact (f := fk122) 122 rfl) (c.fact (f := fk123) 123 rfl) dBi (Hk.of_ (c.fact (f := fk124) 124 rfl)) lBl cBl (c.fact (f := fk125) 125 rfl) (c.fact (f := fk126) 126 rfl) (Hk.of_ (c.fact (f := fk127) 127 rfl)) lBh cBh (c.fact (f := fk128) 128 rfl) (c.fact (f := fk129) 129 rfl) (Hk.of_ (c.fact (f := fk130) 130 rfl)) lBc cBc (c.fact (f := fk131) 131 rfl) (c.fact (f := fk132) 132 rfl) (Hk.of_ (c.fact (f := fk133) 133 rfl)) lB cB (c.fact (f := fk134) 134 rfl) (Hk.of_ (c.fact (f := fk135) 135 rfl)) lT cT (c.fact (f := fk136) 136 rfl) (Hk.of_ (c.fact (f := fk137) 137 rfl)) lTr cTr (c.fact (f := fk138) 138 rfl) (Hk.of_ (c.fact (f := fk139) 139 rfl)) lSn cSn (c.fact (f := fk140) 140 rfl) (Hk.of_ (c.fact (f := fk141) 141 rfl)) lSc cSc (c.fact (f := fk142) 142 rfl) (Hk.of_ (c.fact (f := fk143) 143 rfl)) lLq cLq (c.fact (f := fk144) 144 rfl) (Hk.of_ (c.fact (f := fk145) 145 rfl)) lSt cSt (c.fact (f := fk146) 146 rfl) (Hk.of_ (c.fact (f := fk147) 147 rfl)) lTs cTs (c.fact (f := fk148) 148 rfl) (Hk.of_ (c.fact (f := fk149) 149 rfl)) lTl cTl (c.fact (f := fk150) 150 rfl) (Hk.of_ (c.fact (f := fk151) 151 rfl)) lBg cBg (c.fact (f := fk152) 152 rfl) (Hk.of_ (c.fact (f := fk153) 153 rfl)) lTw cTw (c.fact (f := fk154) 154 rfl) (Hk.of_ (c.fact (f := fk155) 155 rfl)) lLF cLF (c.fact (f := fk156) 156 rfl) (Hk.of_ (c.fact (f := fk157) 157 rfl)) lAg cAg (c.fact (f := fk158) 158 rfl) (Hk.of_ (c.fact (f := fk159) 159 rfl)) lSa cSa (c.fact (f := fk160) 160 rfl) (Hk.of_ (c.fact (f := fk161) 161 rfl)) lL cL (c.fact (f := fk162) 162 rfl) (Hk.of_ (c.fact (f := fk163) 163 rfl)) (Hk.of_ (c.fact (f := fk164) 164 rfl)) (Hk.of_ (c.fact (f := fk165) 165 rfl)) xEB bvEB (Hk.of_ (c.fact (f := fk166) 166 rfl)) (Hk.of_ (c.fact (f := fk167) 167 rfl)) (Hk.of_ (c.fact (f := fk168) 168 rfl)) (Hk.of_ (c.fact (f := fk169) 169 rfl)) (Hk.of_ (c.fact (f := fk170) 170 rfl)) (Hk.of_ (c.fact (f := fk171) 171 rfl)) lEB coEB lkEB vkEBx (by rw [hP]; exact beq_self_eq_true _) leEB (Hk.of_ (c.fact (f := fk172) 172 rfl)) (Hk.of_ (c.fact (f := fk173) 173 rfl)) (Hk.of_ (c.fact (f := fk174) 174 rfl)) (c.fact (f := fk175) 175 rfl) (Hk.of_ (c.fact (f := fk176) 176 rfl)) (Hk.of_ (c.fact (f := fk177) 177 rfl)) (c.fact (f := fk178) 178 rfl) (Hk.of_ (c.fact (f := fk179) 179 rfl)) (Hk.of_ (c.fact (f := fk180) 180 rfl)) xEN bvEN (Hk.of_ (c.fact (f := fk181) 181 rfl)) (Hk.of_ (c.fact (f := fk182) 182 rfl)) (Hk.of_ (c.fact (f := fk183) 183 rfl)) (Hk.of_ (c.fact (f := fk184) 184 rfl)) (Hk.of_ (c.fact (f := fk185) 185 rfl)) (Hk.of_ (c.fact (f := fk186) 186 rfl)) lEN coEN lkEN vkENx (by rw [hP]; exact beq_self_eq_true _) leEN (Hk.of_ (c.fact (f := fk187) 187 rfl)) (Hk.of_ (c.fact (f := fk188) 188 rfl)) (Hk.of_ (c.fact (f := fk189) 189 rfl)) (c.fact (f := fk190) 190 rfl) (Hk.of_ (c.fact (f := fk191) 191 rfl)) (Hk.of_ (c.fact (f := fk192) 192 rfl)) (c.fact (f := fk193) 193 rfl) (Hk.of_ (c.fact (f := fk194) 194 rfl)) (Hk.of_ (c.fact (f := fk195) 195 rfl)) xET bvET (Hk.of_ (c.fact (f := fk196) 196 rfl)) (Hk.of_ (c.fact (f := fk197) 197 rfl)) (Hk.of_ (c.fact (f := fk198) 198 rfl)) (Hk.of_ (c.fact (f := fk199) 199 rfl)) (Hk.of_ (c.fact (f := fk200) 200 rfl)) (Hk.of_ (c.fact (f := fk201) 201 rfl)) lET coET lkET vkETx (by rw [hP]; exact beq_self_eq_true _) leET (Hk.of_ (c.fact (f := fk202) 202 rfl)) (Hk.of_ (c.fact (f := fk203) 203 rfl)) (Hk.of_ (c.fact (f := fk204) 204 rfl)) (c.fact (f := fk205) 205 rfl) (Hk.of_ (c.fact (f := fk206) 206 rfl)) (Hk.of_ (c.fact (f := fk207) 207 rfl)) (c.fact (f := fk208) 208 rfl) (Hk.of_ (c.fact (f := fk209) 209 rfl)) (Hk.of_ (c.fact (f := fk210) 210 rfl)) xEP bvEP (Hk.of_ (c.fact (f := fk211) 211 rfl)) (Hk.of_ (c.fact (f := fk212) 212 rfl)) (Hk.of_ (c.fact (f := fk213) 213 rfl)) (Hk.of_ (c.fact (f := fk214) 214 rfl)) (Hk.of_ (c.fact (f := fk215) 215 rfl)) (Hk.of_ (c.fact (f := fk216) 216 rfl)) lEP coEP lkEP vkEPx (by rw [hP]; exact beq_self_eq_true _) leEP (Hk.of_ (c.fact (f := fk217) 217 rfl)) (Hk.of_ (c.fact (f := fk218) 218 rfl)) (Hk.of_ (c.fact (f := fk219) 219 rfl)) (c.fact (f := fk220) 220 rfl) (Hk.of_ (c.fact (f := fk221) 221 rfl)) (Hk.of_ (c.fact (f := fk222) 222 rfl)) (c.fact (f := fk223) 223 rfl) (Hk.of_ (c.fact (f := fk224) 224 rfl)) (Hk.of_ (c.fact (f := fk225) 225 rfl)) xEM bvEM (Hk.of_ (c.fact (f := fk226) 226 rfl)) (Hk.of_ (c.fact (f := fk227) 227 rfl)) (Hk.of_ (c.fact (f := fk228) 228 rfl)) (Hk.of_ (c.fact (f := fk229) 229 rfl)) (Hk.of_ (c.fact (f := fk230) 230 rfl)) (Hk.of_ (c.fact (f := fk231) 231 rfl)) lEM coEM lkEM vkEMx (by rw [hP]; exact beq_self_eq_true _) leEM (Hk.of_ (c.fact (f := fk232) 232 rfl)) (Hk.of_ (c.fact (f := fk233) 233 rfl)) (Hk.of_ (c.fact (f := fk234) 234 rfl)) (c.fact (f := fk235) 235 rfl) (Hk.of_ (c.fact (f := fk236) 236 rfl)) (Hk.of_ (c.fact (f := fk237) 237 rfl)) (c.fact (f := fk238) 238 rfl) (Hk.of_ (c.fact (f := fk239) 239 rfl)) (Hk.of_ (c.fact (f := fk240) 240 rfl)) xES bvES (Hk.of_ (c.fact (f := fk241) 241 rfl)) (Hk.of_ (c.fact (f := fk242) 242 rfl)) (Hk.of_ (c.fact (f := fk243) 243 rfl)) (Hk.of_ (c.fact (f := fk244) 244 rfl)) (Hk.of_ (c.fact (f := fk245) 245 rfl)) (Hk.of_ (c.fact (f := fk246) 246 rfl)) lES coES lkES vkESx (by rw [hP]; exact beq_self_eq_true _) leES (Hk.of_ (c.fact (f := fk247) 247 rfl)) (Hk.of_ (c.fact (f := fk248) 248 rfl)) (Hk.of_ (c.fact (f := fk249) 249 rfl)) (c.fact (f := fk250) 250 rfl) (Hk.of_ (c.fact (f := fk251) 251 rfl)) (Hk.of_ (c.fact (f := fk252) 252 rfl)) (c.fact (f := fk253) 253 rfl) (Hk.of_ (c.fact (f := fk254) 254 rfl)) (Hk.of_ (c.fact (f := fk255) 255 rfl)) (Hk.of_ (c.fact (f := fk256) 256 rfl)) (Hk.of_ (c.fact (f := fk257) 257 rfl)) (Hk.of_ (c.fact (f := fk258) 258 rfl)) (Hk.of_ (c.fact (f := fk259) 259 rfl)) (Hk.of_ (c.fact (f := fk260) 260 rfl)) (Hk.of_ (c.fact (f := fk261) 261 rfl)) (Hk.of_ (c.fact (f := fk262) 262 rfl)) (Hk.of_ (c.fact (f := fk263) 263 rfl)) (Hk.of_ (c.fact (f := fk264) 264 rfl)) (Hk.of_ (c.fact (f := fk265) 265 rfl)) (Hk.of_ (c.fact (f := fk266) 266 rfl)) (Hk.of_ (c.fact (f := fk267) 267 rfl)) (c.fact (f := fk268) 268 rfl) (c.fact (f := fk269) 269 rfl) (c.fact (f := fk270) 270 rfl) (Hk.of_ (c.fact (f := fk271) 271 rfl)) (Hk.of_ (c.fact (f := fk272) 272 rfl)) (Hk.of_ (c.fact (f := fk273) 273 rfl)) (Hk.of_ (c.fact (f := fk274) 274 rfl)) (Hk.of_ (c.fact (f := fk275) 275 rfl)) (Hk.of_ (c.fact (f := fk276) 276 rfl)) (Hk.of_ (c.fact (f := fk277) 277 rfl)) (Hk.of_ (c.fact (f := fk278) 278 rfl)) (Hk.of_ (c.fact (f := fk279) 279 rfl)) (c.fact (f := fk280) 280 rfl) (c.fact (f := fk281) 281 rfl) tLT tLG tMP tGR (c.fact (f := fk286) 286 rfl) (c.fact (f := fk287) 287 rfl) (c.fact (f := fk288) 288 rfl) (Hk.of_ (c.fact (f := fk289) 289 rfl)) (c.fact (f := fk290) 290 rfl) (c.fact (f := fk291) 291 rfl) (Hk.of_ (c.fact (f := fk292) 292 rfl)) (Hk.of_ (c.fact (f := fk293) 293 rfl)) (Hk.of_ (c.fact (f := fk294) 294 rfl)) (c.fact (f := fk295) 295 rfl) (c.fact (f := fk296) 296 rfl) (c.fact (f := fk297) 297 rfl) (Hk.of_ (c.fact (f := fk298) 298 rfl)) (c.fact (f := fk299) 299 rfl) (c.fact (f := fk300) 300 rfl) (Hk.of_ (c.fact (f := fk301) 301 rfl)) (Hk.of_ (c.fact (f := fk302) 302 rfl)) (Hk.of_ (c.fact (f := fk303) 303 rfl)) tNT
end Law
namespace HkRun
open PySem PySem.W PySem.Calls PyProof.Rows
abbrev R : OpenRow := OpenLaw.row PySem.Challenge.rw_rungbounds_k23_lists_in_bounds
abbrev qv : Program := view R.prog [71]
abbrev hk : Hook := Hk.hookK Law.asH Law.fx Law.fn
def ob (s : SharedT) : Hk.Ob := Hk.obK Law.asH Law.fx Law.fn (HandSHeadRun.getT s)
theorem ob_eq (s : SharedT) : ob s = hk.obs s.abs := Hk.obK_eq (HandSHeadRun.getT_eq s)
set_option maxHeartbeats 0 in
theorem run (w : World) : HandSHeadRun.RunEq R qv hk ob 9000 Law.nmsH w := by
  intro os
  kernel_rfl
end HkRun
open PySem PySem.W PySem.Calls PyProof.Rows
set_option maxRecDepth 100000 in
set_option maxHeartbeats 0 in
theorem PySem.Challenge.cw_rungbounds_k23_lists_in_bounds_holds : PySem.Challenge.rw_rungbounds_k23_lists_in_bounds.Holds := by
  w_on; o_law
  refine HandSHeadRun.head_any (r := OpenLaw.row PySem.Challenge.rw_rungbounds_k23_lists_in_bounds) (q := HkRun.qv) (H := HkRun.hk) (ob := HkRun.ob) (M := 9000) (loose := Law.nmsH) (d := HandSHeadRun.topDef (OpenLaw.row PySem.Challenge.rw_rungbounds_k23_lists_in_bounds).prog 71) (kwd := []) HkRun.ob_eq
    (by kernel_rfl) (fun s => by kernel_rfl) HkRun.run (by kernel_rfl) (by kernel_rfl) (by kernel_rfl) (by rfl) (by first | assumption | decide +kernel) (by decide +kernel) ⟨rfl, rfl, rfl, rfl, rfl, by decide +kernel⟩ ?hw ?hc
  case hw => w_witness2
  case hc =>
    refine L2.walk_ofE (l := PySem.Challenge.rw_rungbounds_k23_lists_in_bounds) (n := 63) (k := 10) (x := "_law_script") (CX := L2.CX0) rfl (by decide) (by kernel_rfl) ⟨rfl, by decide, by decide⟩ ?F (fun _ _ _ _ z => z)
    intro w mg fa h Y G hmg0
    obtain ⟨K, KX, c⟩ := Y
    have hmg : mg ("law" : PySem.Str) = some (.ref fa) := by
      have e : (HandSHeadRun.topDef (OpenLaw.row PySem.Challenge.rw_rungbounds_k23_lists_in_bounds).prog 71).name = ("law" : PySem.Str) := by kernel_rfl
      rw [← e]
      exact hmg0
    obtain ⟨fd, hb, hF⟩ := Law.all_ok (P := (PySem.Challenge.rw_rungbounds_k23_lists_in_bounds).prog) (w := w) KX G hmg (by rfl) rfl c
    exact ⟨K, fd, Law.spLaw K, KX, hb, fun H a ns hl _ hS => ⟨a, ns, rfl, hS, hl, fun _ => rfl⟩, hF⟩
