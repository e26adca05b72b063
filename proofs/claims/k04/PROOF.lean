import PyProof.Rows.All
import Wide.All
import OpenK.AllK
import Wide.FinOn
import KE.KExcInit
import HandS.ForMost
import HandS.Exc
import HandS.ExcInit
import HandS.ExcIs
import HandS.Defaults
import HandS.ExcValue
import HandS.MakeKw
import KE.KExcIs
import HandS.IsInst
import HandS.MakeKwOnly
import PyProof.ReprRoads
import HandS.Dict
import HandS.Flow
import HandS.Wide
import HandS.Small
import HandS.More
import HandS.Strs
import HandS.Style
import HandS.Conv
import HandS.HeadEnd
import KE.KStateDown
import HandS.Zip
import HandS.Deep
import HandS.ListItems
import HandS.SortKw
import HandS.Lambda
import HandS.ExcField
import HandS.WordsExc
import HandS.EndTab
import KE.LtData
import HandS.SortRule
import KE.SortData
import PyProof.ZipIter
import PyProof.CollectWalk
import PyProof.TupleOfGen
import HandS.DictComp
import HandS.TupAny
import HandS.Walk
import HandS.Rev
import HandS.GenBody
import HandS.GenYield
import HandS.GenCall
import HandS.GenList
import PyProof.EqKinds
import PyProof.FactsAll.dict_1
import PyProof.FactsAll.tuple_2
import PyProof.FactsAll.subtypes
import HandS.Head0
import HandS.Head1
import HandS.Head2
import HandS.HeadHook1
import HandS.HeadHook2
import HandS.HeadHook3
import HandS.HeadHook4
import HandS.NestedK
import PySem.Challenge.RW_sieveways_k04_places_of_data
set_option Elab.async false
set_option linter.all false
set_option maxRecDepth 100000
set_option maxHeartbeats 0
/-! An own exception class over any base, called with positional or keyword arguments: the library tells it without keywords. -/
namespace PySem
namespace KX
open PySem.W PySem.Calls PyProof.Rows PySem.HandSPX
open Builtin Builtin.ObjectAttr
section
variable {P : Program} {wo : World} {Ar : Around} {Er : Value → Shared → Prop} {Rs : Result → Shared → Prop} {hp : Heap} {gs : Array GenState} {dr : Drawn} {tk : Nat} {os : OsState}
variable {cn qn : Str} {c nsA : Addr} {bases tl bt : List Value} {hasD : Bool} {sls : List Str} {subs : List Value} {abst : Bool} {coll : Option Bool} {cd : Option Addr} {y0 y1 y2 y3 y5 : Option Value} {base nid iid : String}
/-- the class's object -/
abbrev clsO (cn qn : Str) (c nsA : Addr) (bases tl : List Value) (hasD : Bool) (sls : List Str) (subs : List Value) (abst : Bool) (coll : Option Bool) (cd : Option Addr) (y0 y1 y2 y3 y5 : Option Value) (nid : String) : Obj :=
  excClassObj cn qn c nsA bases tl hasD sls subs abst coll cd y0 y1 y2 y3 y5 nid
variable (FB : ExcBaseFacts base nid iid bt) (same : ∀ Z : String, tl.contains (.type Z) = bt.contains (.type Z)) (at_ : hp.get? c = some (clsO cn qn c nsA bases tl hasD sls subs abst coll cd y0 y1 y2 y3 y5 nid))
include same in
theorem has_in {Z : String} {b : Bool} (z : bt.contains (.type Z) = b) : (Value.ref c :: tl).contains (.type Z) = b := by
  rw [List.contains_cons, same Z, z]; exact Bool.false_or b
include FB same at_ in
theorem new_checked {M : Model} {ps : List Value} {ks : List (Str × Value)} {Go : Unit → Shared → Prop} (go : Go () ⟨hp, gs, dr, tk, os⟩) : wpAny M Ar (checkBuiltinCall nid ⟨.ref c :: ps, ks⟩) Go Er ⟨hp, gs, dr, tk, os⟩ := by
  have star := FB.noStar
  have sub := has_in (c := c) same FB.hasB
  simp only [checkBuiltinCall, FB.newKind, FB.newSplit, FB.newRow]
  repeat (first | (refine wpAny_isSubtype_exc at_ ?_; rw [sub]) | refine wpAny_loadPart_at at_ ?_ | refine wpAny_madeBy_exc at_ ?_ | refine wpAny_staticBase_exc at_ ?_ | wp_step | simp only [Bool.false_eq_true, bne_self_eq_false, if_false])
  exact go
include FB same at_ in
theorem born {ps : List Value} {ks : List (Str × Value)} (few : ps.length ≤ sizeLine)
    (go : Rs (.ok (.ret (.ref (hp.objs.size + 1)))) ⟨(hp.push (W.kdv_tup ps)).push (excO c hp.objs.size), gs, dr, tk, os⟩) : codeAny (model P wo) Ar (.builtin nid ⟨.ref c :: ps, ks⟩) Rs ⟨hp, gs, dr, tk, os⟩ := by
  have fin := FB.ends
  have i1 := has_in (c := c) same FB.hasB
  have i2 := has_in (c := c) same FB.noAttr
  have i3 := has_in (c := c) same FB.noName
  refine codeAny_builtinAt FB.entry ?_
  unfold Builtin.«BaseException.__new__»
  refine wpAt_bind (?_ : wpAt _ _ _ (stack >>= _) _ _ _)
  refine wpAt_bind (wpAt_stack fun _ _ => wpAt_of_wpAny ?_)
  wp_walk
  refine wpAt_of_wpAny ?_
  rw [FB.owner]
  repeat (first | with_reducible refine wpAny_loadPart_at at_ ?_ | with_reducible refine wpAny_madeHere_exc FB.canon at_ ?_ | (with_reducible refine wpAny_isSubtype_exc at_ ?_; first | rw [i1] | rw [i2] | rw [i3]) | wp_step)
  show Rs _ _
  rw [Heap.size_push]
  exact go
include FB same at_ in
/-- C(.., k = ..): a new object, then the class's own __init__ -/
theorem class_called {ps : List Value} {ks : List (Str × Value)} {fi : Addr} (few : ps.length ≤ sizeLine)
    (ini : W.Looks (model P wo) hp (typeLookup (.ref c) "__init__") (some (.ref fi))) (bnd : ∀ self, W.Looks (model P wo) hp (bindSpecial (.ref fi) self) (.ref fi, [self]))
    (go : codeAny (model P wo) (Ar.under (.builtin "type.__call__" ⟨.ref c :: ps, ks⟩)) (.call (.ref fi) ⟨.ref (hp.objs.size + 1) :: ps, ks⟩) (W.InitBack (hp.objs.size + 1) Rs)
      ⟨(hp.push (W.kdv_tup ps)).push (excO c hp.objs.size), gs, dr, tk, os⟩) : codeAny (model P wo) Ar (.call (.ref c) ⟨ps, ks⟩) Rs ⟨hp, gs, dr, tk, os⟩ := by
  have t1 := tc_lookup
  have t2 := tc_bind (.ref c)
  have isT : (⟨hp, gs, dr, tk, os⟩ : Shared).TypeIs (.ref c) "type" := ⟨_, at_, rfl⟩
  refine codeAny_of_tree (?_ : wpAny _ _ (callAny (.ref c) _) _ _ _)
  repeat (any_goals (first | assumption | wp_step | with_reducible refine wpAny_loadPart_at at_ ?_))
  refine ⟨rfl, codeAny_call_builtin_at (Code.quiet_builtin _ (by decide +kernel)) entry_typeCall (wpAny_check_type_call_sub at_ (?_ : wpAny _ _ (Builtin.«type.__call__» ⟨.ref c :: ps, ks⟩) _ _ _))⟩
  repeat (first | with_reducible refine wpAny_madeBy_exc at_ ?_ | with_reducible refine wpAny_loadPart_at at_ ?_ | wp_step)
  refine codeAny_call_builtin_code (Code.quiet_builtin _ FB.quiet) (new_checked FB same at_ (born FB same at_ few ?_))
  show wpAny _ _ _ _ _ _
  have up : ∀ b o, hp.get? b = some o → ((hp.push (W.kdv_tup ps)).push (excO c hp.objs.size)).get? b = some o := fun _ _ q => Heap.get?_push_of_some _ (Heap.get?_push_of_some _ q)
  have at2 := up _ _ at_
  have obj : ((hp.push (W.kdv_tup ps)).push (excO c hp.objs.size)).get? (hp.objs.size + 1) = some (excO c hp.objs.size) := by heap_get
  have self : (Value.ref c :: tl).contains (.ref c) = true := by simp
  have l1 := ini.keeps up
  have l2 := (bnd (.ref (hp.objs.size + 1))).keeps up
  unfold isInstance
  repeat (first | (with_reducible refine wpAny_isSubtype_exc at2 ?_; rw [self]) | with_reducible refine wpAny_loadPart_at obj ?_ | wp_step)
  refine (l1.at ?_ : wpAny _ _ (typeLookup (.ref c) _) _ _ _)
  refine wpAny_holding (wpAny_bind (l2.at (wpAny_bind (wpAny_call (codeAny_mono go fun r s' q => ?_)))))
  cases r with
  | error e => exact q
  | ok fl =>
    cases fl with
    | ret v =>
      obtain ⟨rfl, q⟩ := q
      first
        | exact wpAny_pure (wpAny_pure q)
        | (wp_walk; exact q)
    | next => exact q.elim
    | brk => exact q.elim
    | cont => exact q.elim
end
end KX
end PySem


namespace PySem
namespace KX
open PySem.W PySem.Calls PyProof.Rows PySem.HandSPX
open Builtin Builtin.ObjectAttr
/-- what the written part says of an own exception class with an own __init__, over the built-in class of that name -/
structure Own (K : Frag) (c fi : Addr) (base nid iid : String) (bt : List Value) : Prop where
  FB : ExcBaseFacts base nid iid bt
  SF : StoreFacts base bt "object.__setattr__" "object"
  ini : excInitIn K c bt nid = true
  over : excOver K c bt = true
  dct : hasDictIn K c = true
  sa : findIn K (.ref c) "__setattr__" = some (some (.builtin "object.__setattr__"))
  ga : findIn K (.ref c) "__getattribute__" = some (some (.builtin "BaseException.__getattribute__"))
  gg : findIn K (.ref c) "__getattr__" = some none
  exc : subIn K (.ref c) (.type "BaseException") = some true
  kp : keepIn K (.ref c) = true
  fI : findIn K (.ref c) "__init__" = some (some (.ref fi))
  fT : typeIn K (.ref fi) = some (.type "function")
  cA : findIn K (.ref c) "__class__" = some (some (.builtin "object.__class__"))
  cN : specialIn K (.builtin "object.__class__") "__get__" = some (some (.builtin "getset_descriptor.__get__"))
  cT : takesIn K (.builtin "object.__class__") = some true
  cM : mroIn K c (.type "object") = some true
/-- no class says anything of the name f -/
structure Free (K : Frag) (c : Addr) (f : Str) : Prop where
  t : takerIn K c f = some none
  n : findIn K (.ref c) f = some none
/-- an exception's object, its dict at d -/
abbrev withD (c t : Addr) (d : Option Addr) : Obj := { cls := .ref c, dict := d, data := .fields #[.ref t, .none, .none, .none, .bool false, .none] }
section
variable {P : Program} {wo : World} {Ar : Around} {Rs : Result → Shared → Prop} {hp : Heap} {gs : Array GenState} {dr : Drawn} {tk : Nat} {os : OsState}
variable {K : Frag} {c fi : Addr} {base nid iid : String} {bt : List Value} {f : Str} {v : Value} {x t : Addr} {tn : Tok}
/-- the first store -/
theorem put_first (O : Own K c fi base nid iid bt) (N : Free K c f) (X : K.In hp) (hx : hp.get? x = some (withD c t none))
    (go : ∀ h' tk' dx, (∀ b o, b ≠ x → hp.get? b = some o → h'.get? b = some o) → hp.objs.size ≤ dx → dx ≠ x → h'.get? x = some (withD c t (some dx)) →
      h'.Ns1 dx (fun y => if y = f then some v else none) → Rs (.ok (.ret .none)) ⟨h', gs, dr, tk', os⟩) :
    codeAny (model P wo) Ar (.call (.builtin "object.__setattr__") ⟨[.ref x, .str f tn, v], []⟩) Rs ⟨hp, gs, dr, tk, os⟩ := by
  have at_ : InstAt hp x (withD c t none) c none := ⟨hx, rfl, rfl, trivial⟩
  have apart : x ≠ hp.objs.size := Nat.ne_of_lt (Heap.lt_size hx)
  obtain ⟨cd, hcd, hdd⟩ := any_some O.dct
  have look : Looks (model P wo) hp (classData c) cd := looks_clsIn X hcd
  refine osa_openX O.SF X at_ O.over N.t fun b => ?_
  show wpAny _ _ (storeInOwnDict (.ref x) (.ref c) (.str f tn) f v b) _ _ _
  obtain ⟨a1, a2, a3, a4, a5, a6, a7, a8, a9, a10, a11⟩ := cd
  have e6 : a6 = true := hdd
  subst e6
  unfold storeInOwnDict ownDictForStores
  repeat (first | with_reducible refine store_in_new ?_ ?_ | with_reducible refine look.at ?_ | with_reducible refine wpAny_loadPart_at hx ?_ | wp_step)
  · exact ⟨_, #[], _, (Heap.get?_update_ne _ _ _ _ apart.symm).trans (Heap.get?_push_at rfl rfl), rfl, fun e he => absurd he (by simp), fun _ => rfl⟩
  · intro h' tk' hn but
    have old : (hp.push { cls := .type "dict", data := .dict #[] }).get? x = some (withD c t none) := Heap.get?_push_of_some _ hx
    exact go h' tk' hp.objs.size (fun b o hb q => (but.2 b (Nat.ne_of_lt (Heap.lt_size q))).trans ((Heap.get?_update_ne _ _ _ _ hb).trans (Heap.get?_push_of_some _ q))) (Nat.le_refl _) apart.symm
      ((but.2 x apart).trans (Heap.get?_update_self _ old rfl)) hn
/-- a further store -/
theorem put_next {dx : Addr} {m0 : Str → Option Value} {ns : List Str} (O : Own K c fi base nid iid bt) (N : Free K c f) (X : K.In hp) (hx : hp.get? x = some (withD c t (some dx))) (hm : hp.Ns1 dx m0) (hw : Within m0 ns) (hz : ns.length ≤ 1000)
    (go : ∀ h' tk', (∀ b o, b ≠ dx → hp.get? b = some o → h'.get? b = some o) → h'.Ns1 dx (fun y => if y = f then some v else m0 y) → Rs (.ok (.ret .none)) ⟨h', gs, dr, tk', os⟩) :
    codeAny (model P wo) Ar (.call (.builtin "object.__setattr__") ⟨[.ref x, .str f tn, v], []⟩) Rs ⟨hp, gs, dr, tk, os⟩ := by
  obtain ⟨od, _, _, hod, _, _⟩ := hm.count hw
  have at_ : InstAt hp x (withD c t (some dx)) c (some od) := ⟨hx, rfl, rfl, hod⟩
  obtain ⟨cd, hcd, hdd⟩ := any_some O.dct
  have look : Looks (model P wo) hp (classData c) cd := looks_clsIn X hcd
  refine osa_openX O.SF X at_ O.over N.t fun b => ?_
  show wpAny _ _ (storeInOwnDict (.ref x) (.ref c) (.str f tn) f v b) _ _ _
  obtain ⟨a1, a2, a3, a4, a5, a6, a7, a8, a9, a10, a11⟩ := cd
  have e6 : a6 = true := hdd
  subst e6
  unfold storeInOwnDict ownDictForStores
  repeat (first | with_reducible refine PySem.OEX.store_in_old hm hw hz ?_ | with_reducible refine look.at ?_ | with_reducible refine wpAny_loadPart_at hx ?_ | wp_step)
  intro h' tk' hn but
  exact go h' tk' (fun b o hb q => (but.2 b hb).trans q) hn
end
end KX
end PySem


namespace PySem
namespace KX
open PySem.W PySem.Calls PyProof.Rows PySem.HandSPX
def arg1 (n : Str) (p : Pos) : Arg := { arg := n, annotation := none, pos := p }
def argsOf (l : List Arg) : Arguments := { posonlyargs := [], args := l, vararg := none, kwonlyargs := [], kw_defaults := [], kwarg := none, defaults := [] }
def setS (f : Str) (q1 q2 q3 q4 : Pos) : Stmt := .Assign [.Attribute (.Name "self" q1) f q2] (.Name f q3) q4
def scOf (l : List Str) : Scope := { kind := .function, names := l.map fun n => (n, .local), isGenerator := false, isCoroutine := false, more := [] }
/-- a local name is read -/
theorem readL {M : Model} {s : Shared} {name : Str} {sc : Scope} {L a : Addr} {cd : Value} {m : Str → Option Value} {x : Str} {pos : Pos} {v : Value} {Q : Value → Shared → Prop} {A : Around} {E : Value → Shared → Prop} (hn : s.heap.Ns L m) (hv : m x = some v)
    (hk : sc.kind = .function) (hl : sc.names.lookup x = some .local) (hd : (x == ("__debug__" : Str)) = false) (h : Q v s) : wpAny M A (eval (.Name x pos) (envOfC name sc L a cd)) Q E s := wpAny_Name (wpAny_loadName_local hk hl hn hv h) hd
/-- what __init__ leaves of the object at x: its dict at dx holds m -/
structure Filled (h h' : Heap) (x c dx t : Addr) (m : Str → Option Value) : Prop where
  old : ∀ b o, b ≠ x → h.get? b = some o → h'.get? b = some o
  obj : h'.get? x = some (withD c t (some dx))
  big : h.objs.size ≤ dx
  ne : dx ≠ x
  ns : h'.Ns1 dx m
section
variable {P : Program} {wo : World} {Ar : Around} {Rs : Result → Shared → Prop} {s : Shared} {K : Frag} {c fi : Addr} {base nid iid : String} {bt : List Value} {f g : Str} {v u : Value} {x t : Addr} {qual : Str} {fd : FuncData} {a1 a2 a3 q1 q2 q3 q4 r1 r2 r3 r4 : Pos} {args : Args}
theorem in_step {A : Around} {E : Value → Shared → Prop} {Q : Flow → Shared → Prop} {L a : Addr} {cd : Value} {sc : Scope} {m : Str → Option Value} {rest : List Stmt} (hn : s.heap.Ns L m) (hk : sc.kind = .function) (sS : sc.names.lookup ("self" : Str) = some NameKind.local) (sF : sc.names.lookup f = some .local)
    (dF : (f == ("__debug__" : Str)) = false) (mS : m "self" = some (.ref x)) (mF : m f = some v)
    (h : wpAny (model P wo) A (setAttr (.ref x) f v) (fun _ s' => wpAny (model P wo) A (execs rest (envOfC qual sc L a cd)) Q E s') E s) :
    wpAny (model P wo) A (execs (setS f q1 q2 q3 q4 :: rest) (envOfC qual sc L a cd)) Q E s := by
  refine wpAny_execs_cons (plainObj_wpAny_Assign_Attribute ?_)
  exact readL hn mF hk sF dF (readL hn mS hk sS (by decide) h)
theorem init_one (O : Own K c fi base nid iid bt) (N : Free K c f) (F : L2.FunD K "__init__" qual (argsOf [arg1 "self" a1, arg1 f a2]) [setS f q1 q2 q3 q4] (scOf ["self", f]) [] [] fi fd) (fs : (f == ("self" : Str)) = false) (fdb : (f == ("__debug__" : Str)) = false)
    (hb : BindsTo s fd args [("self", .ref x), (f, v)]) (X : K.In s.heap) (lim : s.heap.NoLimit) (hx : s.heap.get? x = some (withD c t none)) (room : Ar.depth < recursionLimit)
    (go : ∀ h' tk dx, Filled s.heap h' x c dx t (fun y => if y = f then some v else none) → Rs (.ok (.ret .none)) { s with heap := h', toks := tk }) :
    codeAny (model P wo) Ar (.call (.ref fi) args) Rs s := by
  obtain ⟨oc, od, dV, kV, doc, pm, an, cdv, ct, osl, rfl, lk, hcd, hD, hK⟩ := F.ex
  have l1 : (scOf ["self", f]).names.lookup ("self" : Str) = some .local := by simp [scOf, List.lookup]
  have l2 : (scOf ["self", f]).names.lookup f = some .local := by simp [scOf, List.lookup, fs]
  refine Att.call_fn (binds := [("self", .ref x), (f, v)]) X lim lk hcd room hb (by simp [l1, l2]) (fun s₁ IC => ?_) rfl rfl rfl
  obtain ⟨h₁, tk₁, rfl⟩ := IC.toInCall.same
  have up : ∀ b o, s.heap.get? b = some o → h₁.get? b = some o := IC.toInCall.keep
  have hn := IC.toInCall.ns
  have k1 : (envOfC qual (scOf ["self", f]) s.heap.objs.size fi cdv).kindOf ("self" : Str) = some .local := l1
  have k2 : (envOfC qual (scOf ["self", f]) s.heap.objs.size fi cdv).kindOf f = some .local := l2
  have nsf : ¬ (("self" : Str) = f) := fun z => by rw [← z] at fs; simp at fs
  refine in_step (x := x) (v := v) hn rfl l1 l2 fdb (by simp [bindL, k1, k2, nsf]) (by simp [bindL, k1, k2]) ?_
  refine set_plain (X.keeps up) (ox := withD c t none) (od := none) ⟨up _ _ hx, rfl, rfl, trivial⟩ O.sa ?_
  refine put_first O N (X.keeps up) (up _ _ hx) (fun h₃ tk₃ dx k₃ dn dne hx₃ hn₃ => ?_)
  have z : s.heap.objs.size < h₁.objs.size := hn.lt
  exact wpAny_execs_nil (go h₃ tk₃ dx ⟨fun b o hb e => k₃ b o hb (up b o e), hx₃, Nat.le_of_lt (Nat.lt_of_lt_of_le z dn), dne, hn₃⟩)
theorem init_two (O : Own K c fi base nid iid bt) (N : Free K c f) (N2 : Free K c g) (F : L2.FunD K "__init__" qual (argsOf [arg1 "self" a1, arg1 f a2, arg1 g a3]) [setS f q1 q2 q3 q4, setS g r1 r2 r3 r4] (scOf ["self", f, g]) [] [] fi fd)
    (fs : (f == ("self" : Str)) = false) (gs : (g == ("self" : Str)) = false) (gf : (g == f) = false) (fdb : (f == ("__debug__" : Str)) = false) (gdb : (g == ("__debug__" : Str)) = false)
    (hb : BindsTo s fd args [("self", .ref x), (f, v), (g, u)]) (X : K.In s.heap) (lim : s.heap.NoLimit) (hx : s.heap.get? x = some (withD c t none)) (hnx : K.lookup x = none) (room : Ar.depth < recursionLimit)
    (go : ∀ h' tk dx, Filled s.heap h' x c dx t (fun y => if y = g then some u else if y = f then some v else none) → Rs (.ok (.ret .none)) { s with heap := h', toks := tk }) :
    codeAny (model P wo) Ar (.call (.ref fi) args) Rs s := by
  obtain ⟨oc, od, dV, kV, doc, pm, an, cdv, ct, osl, rfl, lk, hcd, hD, hK⟩ := F.ex
  have l1 : (scOf ["self", f, g]).names.lookup ("self" : Str) = some .local := by simp [scOf, List.lookup]
  have l2 : (scOf ["self", f, g]).names.lookup f = some .local := by simp [scOf, List.lookup, fs]
  have l3 : (scOf ["self", f, g]).names.lookup g = some .local := by simp [scOf, List.lookup, gs, gf]
  refine Att.call_fn (binds := [("self", .ref x), (f, v), (g, u)]) X lim lk hcd room hb (by simp [l1, l2, l3]) (fun s₁ IC => ?_) rfl rfl rfl
  obtain ⟨h₁, tk₁, rfl⟩ := IC.toInCall.same
  have up : ∀ b o, s.heap.get? b = some o → h₁.get? b = some o := IC.toInCall.keep
  have hn := IC.toInCall.ns
  have k1 : (envOfC qual (scOf ["self", f, g]) s.heap.objs.size fi cdv).kindOf ("self" : Str) = some .local := l1
  have k2 : (envOfC qual (scOf ["self", f, g]) s.heap.objs.size fi cdv).kindOf f = some .local := l2
  have k3 : (envOfC qual (scOf ["self", f, g]) s.heap.objs.size fi cdv).kindOf g = some .local := l3
  have n1 : ¬ (("self" : Str) = f) := fun z => by rw [← z] at fs; simp at fs
  have n2 : ¬ (("self" : Str) = g) := fun z => by rw [← z] at gs; simp at gs
  have n3 : ¬ (f = g) := fun z => by rw [← z] at gf; simp at gf
  refine in_step (x := x) (v := v) hn rfl l1 l2 fdb (by simp [bindL, k1, k2, k3, n1, n2]) (by simp [bindL, k1, k2, k3, n3]) ?_
  refine set_plain (X.keeps up) (ox := withD c t none) (od := none) ⟨up _ _ hx, rfl, rfl, trivial⟩ O.sa ?_
  refine put_first O N (X.keeps up) (up _ _ hx) (fun h₃ tk₃ dx k₃ dn dne hx₃ hn₃ => ?_)
  have z : s.heap.objs.size < h₁.objs.size := hn.lt
  have lx : s.heap.objs.size ≠ x := Nat.ne_of_gt (Heap.lt_size hx)
  have hn3 : h₃.Ns s.heap.objs.size _ := hn.at fun o q => k₃ _ _ lx q
  obtain ⟨od3, _, _, hod3, _, _⟩ := hn₃.count (Within.cons f v Within.nil)
  have X3 : K.In h₃ := fun b o e => by
    by_cases hbx : b = x
    · rw [hbx, hnx] at e
      cases e
    · exact k₃ b o hbx (up _ _ (X b o e))
  refine in_step (x := x) (v := u) hn3 rfl l1 l3 gdb (by simp [bindL, k1, k2, k3, n1, n2]) (by simp [bindL, k1, k2, k3]) ?_
  refine set_plain X3 (ox := withD c t (some dx)) (od := some od3) ⟨hx₃, rfl, rfl, hod3⟩ O.sa ?_
  refine put_next O N2 X3 hx₃ hn₃ (Within.cons f v Within.nil) (by show 1 ≤ 1000; decide) (fun h₄ tk₄ k₄ hn₄ => ?_)
  exact wpAny_execs_nil (go h₄ tk₄ dx ⟨fun b o hb e => k₄ b o (Nat.ne_of_lt (Nat.lt_of_lt_of_le (Heap.lt_size (up b o e)) dn)) (k₃ b o hb (up b o e)), k₄ _ _ dne.symm hx₃, Nat.le_of_lt (Nat.lt_of_lt_of_le z dn), dne, hn₄⟩)
end
end KX
end PySem


namespace L2
open PySem PySem.Spec PyProof.Rows PySem.KX
/-- the end of C(..): the object at e and its dict at d stand -/
def Laid (H : Hp) (c : Addr) (fs : List (Str × V)) (Q : VK) : Prop := ∀ e d, H e = none → H d = none → d ≠ e → Q (.ref e) (upd (upd H d (exd d fs)) e (exo e c (some d)))
section
variable {X : Cx} {pins : List (Addr × Obj)} {σ : St} {H : Hp} {s : Shared} {c fi : Addr} {base nid iid : String} {bt : List Value} {f g : Str} {y z : V} {v u : Value} {qual : Str} {fd : FuncData} {a1 a2 a3 q1 q2 q3 q4 r1 r2 r3 r4 : Pos} {us : List Value} {ks : List (Str × Value)} {Q : VK} {k : Nat}
theorem laid_end {hp h' : Heap} {g0 : Array GenState} {dr : Drawn} {t0 t' : Nat} {os : OsState} {d0 t1 : Addr} {m : Str → Option Value} {fs : List (Str × V)} (I : Inv X pins σ H ⟨hp, g0, dr, t0, os⟩) (h : Laid H c fs Q) {w1 w2 : Obj}
    (M : Filled ((hp.push w1).push w2) h' (hp.objs.size + 1) c d0 t1 m) (rel : ∀ f, RelO (fs.lookup f) (m f)) :
    EP X pins σ Q (.ref (hp.objs.size + 1)) ⟨h', g0, dr, t', os⟩ := by
  have old : ∀ b o, hp.get? b = some o → h'.get? b = some o := fun b o e => M.old b o (Nat.ne_of_lt (Nat.lt_succ_of_lt (Heap.lt_size e))) (Heap.get?_push_of_some _ (Heap.get?_push_of_some _ e))
  have big : hp.objs.size ≤ d0 := by
    have z := M.big
    rw [Heap.size_push, Heap.size_push] at z
    omega
  have hn : H (hp.objs.size + 1) = none := I.hok.fresh (Nat.le_succ _)
  have hd : H d0 = none := I.hok.fresh big
  obtain ⟨G, g1, g2⟩ := restrict h' fun b => decide (b ≠ hp.objs.size + 1)
  have gk : ∀ b, b ≠ hp.objs.size + 1 → G.get? b = h'.get? b := fun b hb => g1 b (decide_eq_true hb)
  have ge : G.get? (hp.objs.size + 1) = none := g2 _ (by simp)
  have oldG : ∀ b o, hp.get? b = some o → G.get? b = some o := fun b o q => (gk b (Nat.ne_of_lt (Nat.lt_succ_of_lt (Heap.lt_size q)))).trans (old b o q)
  have J : Inv X pins σ (upd H d0 (exd d0 fs)) ⟨G, g0, dr, t', os⟩ := I.laid (t' := t') oldG big (exd_ok (M.ns.at fun o q => (gk d0 M.ne).trans q) rel)
  have he : (upd H d0 (exd d0 fs)) (hp.objs.size + 1) = none := by rw [upd_ne M.ne.symm]; exact hn
  refine ⟨.ref (hp.objs.size + 1), _, J.laidN (t' := t') (h' := h') (fun b o q => ?_) ge he (exo_ok M.obj), rfl, h _ _ hn hd M.ne⟩
  by_cases hb : b = hp.objs.size + 1
  · have q' : G.get? b = some o := q
    rw [hb, ge] at q'
    cases q'
  · exact (gk b hb).symm.trans q
theorem not_written {K : PySem.W.Frag} {hp : Heap} (KX : K.In hp) : K.lookup (hp.objs.size + 1) = none := by
  cases e : K.lookup (hp.objs.size + 1) with
  | none => rfl
  | some o =>
    have z : hp.get? (hp.objs.size + 1) = some o := KX _ _ e
    exact absurd (Nat.lt_of_succ_lt (Heap.lt_size z)) (Nat.lt_irrefl _)
theorem run_mk1 (O : Own X.K c fi base nid iid bt) (N : Free X.K c f) (F : FunD X.K "__init__" qual (argsOf [arg1 "self" a1, arg1 f a2]) [setS f q1 q2 q3 q4] (scOf ["self", f]) [] [] fi fd) (fs : (f == ("self" : Str)) = false) (fdb : (f == ("__debug__" : Str)) = false)
    (hr : Room 1 X.A) (I : Inv X pins σ H s) (rv : RelV y v) (few : us.length ≤ sizeLine) (hb : ∀ s self, BindsTo s fd ⟨.ref self :: us, ks⟩ [("self", .ref self), (f, v)])
    (h : Laid H c [(f, y)] Q) : wpAny (model X.prog X.w) X.A (call (.ref c) us ks) (EP X pins σ Q) X.xe s := by
  obtain ⟨nm, nsA, qn, bs, bm, hdct, sn, sub, ab, col, dd, k0, k1, k2, k3, k5, hC, same⟩ := PySem.W.excInit_of I.kIn O.ini
  obtain ⟨hp, g0, dr, tk, os⟩ := s
  have up : ∀ b o, hp.get? b = some o → ((hp.push (PySem.W.kdv_tup us)).push (PySem.HandSPX.excO c hp.objs.size)).get? b = some o := fun b o e => Heap.get?_push_of_some _ (Heap.get?_push_of_some _ e)
  have obj : ((hp.push (PySem.W.kdv_tup us)).push (PySem.HandSPX.excO c hp.objs.size)).get? (hp.objs.size + 1) = some (withD c hp.objs.size none) := by heap_get
  refine wpAny_call (class_called O.FB same hC few (PySem.W.looks_findIn I.kIn O.fI) (fun self => PySem.W.bind_fn I.kIn self O.fT) ?_)
  refine init_one (s := ⟨(hp.push (PySem.W.kdv_tup us)).push (PySem.HandSPX.excO c hp.objs.size), g0, dr, tk, os⟩) O N F fs fdb (hb _ _) (I.kIn.keeps up) (I.nolimit.keeps up) obj (by show X.A.depth + 1 < recursionLimit; have := hr.dp; omega) fun h' tk' d0 M => ?_
  refine ⟨rfl, laid_end I h M fun q => ?_⟩
  exact relO_put (fs := []) (mA := fun _ => none) rv (fun _ => True.intro) q
theorem run_mk2 (O : Own X.K c fi base nid iid bt) (N : Free X.K c f) (N2 : Free X.K c g) (F : FunD X.K "__init__" qual (argsOf [arg1 "self" a1, arg1 f a2, arg1 g a3]) [setS f q1 q2 q3 q4, setS g r1 r2 r3 r4] (scOf ["self", f, g]) [] [] fi fd)
    (fs : (f == ("self" : Str)) = false) (gs : (g == ("self" : Str)) = false) (gf : (g == f) = false) (fdb : (f == ("__debug__" : Str)) = false) (gdb : (g == ("__debug__" : Str)) = false)
    (hr : Room 1 X.A) (I : Inv X pins σ H s) (rv : RelV y v) (ru : RelV z u) (few : us.length ≤ sizeLine) (hb : ∀ s self, BindsTo s fd ⟨.ref self :: us, ks⟩ [("self", .ref self), (f, v), (g, u)])
    (h : Laid H c [(g, z), (f, y)] Q) : wpAny (model X.prog X.w) X.A (call (.ref c) us ks) (EP X pins σ Q) X.xe s := by
  obtain ⟨nm, nsA, qn, bs, bm, hdct, sn, sub, ab, col, dd, k0, k1, k2, k3, k5, hC, same⟩ := PySem.W.excInit_of I.kIn O.ini
  obtain ⟨hp, g0, dr, tk, os⟩ := s
  have up : ∀ b o, hp.get? b = some o → ((hp.push (PySem.W.kdv_tup us)).push (PySem.HandSPX.excO c hp.objs.size)).get? b = some o := fun b o e => Heap.get?_push_of_some _ (Heap.get?_push_of_some _ e)
  have obj : ((hp.push (PySem.W.kdv_tup us)).push (PySem.HandSPX.excO c hp.objs.size)).get? (hp.objs.size + 1) = some (withD c hp.objs.size none) := by heap_get
  refine wpAny_call (class_called O.FB same hC few (PySem.W.looks_findIn I.kIn O.fI) (fun self => PySem.W.bind_fn I.kIn self O.fT) ?_)
  refine init_two (s := ⟨(hp.push (PySem.W.kdv_tup us)).push (PySem.HandSPX.excO c hp.objs.size), g0, dr, tk, os⟩) O N N2 F fs gs gf fdb gdb (hb _ _) (I.kIn.keeps up) (I.nolimit.keeps up) obj (not_written I.kIn) (by show X.A.depth + 1 < recursionLimit; have := hr.dp; omega) fun h' tk' d0 M => ?_
  refine ⟨rfl, laid_end I h M fun q => ?_⟩
  exact relO_put (fs := [(f, y)]) ru (relO_put (fs := []) (mA := fun _ => none) rv (fun _ => True.intro)) q
end
end L2


namespace L2
open PySem PySem.Spec PyProof.Rows PySem.KX
/-- the class nm, at c, has an __init__ of one field f -/
structure Cl1 (K : PySem.W.Frag) (c : Addr) (f : Str) : Prop where
  ex : ∃ (fi : Addr) (base nid iid : String) (bt : List Value) (qual : Str) (fd : FuncData) (a1 a2 q1 q2 q3 q4 : Pos), Own K c fi base nid iid bt ∧
    FunD K "__init__" qual (argsOf [arg1 "self" a1, arg1 f a2]) [setS f q1 q2 q3 q4] (scOf ["self", f]) [] [] fi fd ∧
    (∀ s self v, BindsTo s fd ⟨[.ref self, v], []⟩ [("self", .ref self), (f, v)]) ∧ ∀ s self v, BindsTo s fd ⟨[.ref self], [(f, v)]⟩ [("self", .ref self), (f, v)]
  fr : Free K c f
  fs : (f == ("self" : Str)) = false
  fdb : (f == ("__debug__" : Str)) = false
  kp : PySem.W.keepIn K (.ref c) = true
/-- .. of two fields f, g; by name in the other order -/
structure Cl2 (K : PySem.W.Frag) (c : Addr) (f g : Str) : Prop where
  ex : ∃ (fi : Addr) (base nid iid : String) (bt : List Value) (qual : Str) (fd : FuncData) (a1 a2 a3 q1 q2 q3 q4 r1 r2 r3 r4 : Pos), Own K c fi base nid iid bt ∧
    FunD K "__init__" qual (argsOf [arg1 "self" a1, arg1 f a2, arg1 g a3]) [setS f q1 q2 q3 q4, setS g r1 r2 r3 r4] (scOf ["self", f, g]) [] [] fi fd ∧
    (∀ s self v u, BindsTo s fd ⟨[.ref self, v, u], []⟩ [("self", .ref self), (f, v), (g, u)]) ∧ ∀ s self v u, BindsTo s fd ⟨[.ref self], [(g, u), (f, v)]⟩ [("self", .ref self), (f, v), (g, u)]
  fr : Free K c f
  gr : Free K c g
  fs : (f == ("self" : Str)) = false
  gs : (g == ("self" : Str)) = false
  gf : (g == f) = false
  fdb : (f == ("__debug__" : Str)) = false
  gdb : (g == ("__debug__" : Str)) = false
  kp : PySem.W.keepIn K (.ref c) = true
/-- what reading an exception of the class at c wants -/
structure ClG (K : PySem.W.Frag) (c : Addr) : Prop where
  ga : PySem.W.findIn K (.ref c) "__getattribute__" = some (some (.builtin "BaseException.__getattribute__"))
  gg : PySem.W.findIn K (.ref c) "__getattr__" = some none
  exc : PySem.W.subIn K (.ref c) (.type "BaseException") = some true
  dct : PySem.W.hasDictIn K c = true
  cA : PySem.W.findIn K (.ref c) "__class__" = some (some (.builtin "object.__class__"))
  cN : PySem.W.specialIn K (.builtin "object.__class__") "__get__" = some (some (.builtin "getset_descriptor.__get__"))
  cT : PySem.W.takesIn K (.builtin "object.__class__") = some true
  cM : PySem.W.mroIn K c (.type "object") = some true
def tX1 (c : Addr) (f : Str) (ta : TA) : TE := fun σ H Q => ta σ H fun vs H1 => ∃ y, vs = [y] ∧ Laid H1 c [(f, y)] Q
def tX2 (c : Addr) (f g : Str) (ta : TA) : TE := fun σ H Q => ta σ H fun vs H1 => ∃ y z, vs = [y, z] ∧ Laid H1 c [(g, z), (f, y)] Q
def tX2k (c : Addr) (f g : Str) (ta : TA) : TE := fun σ H Q => ta σ H fun vs H1 => ∃ y z, vs = [z, y] ∧ Laid H1 c [(g, z), (f, y)] Q
/-- e.f of an exception object -/
def tXG (K : PySem.W.Frag) (f : Str) (te : TE) : TE := fun σ H Q => te σ H fun x H1 => ∃ (a c d : Addr) (fs : List (Str × V)) (v : V), x = .ref a ∧ ClG K c ∧ PySem.W.findIn K (.ref c) f = some none ∧ H1 a = some (exo a c (some d)) ∧ H1 d = some (exd d fs) ∧ fs.lookup f = some v ∧ Q v H1
def rIsX (K : PySem.W.Frag) : List V → Hp → VK → Prop := fun xs H Q => ∃ (a c d : Addr) (fs : List (Str × V)) (k : V) (u : Value) (b : Bool), xs = [.ref a, k] ∧ ClsV k u ∧ ClG K c ∧ H a = some (exo a c (some d)) ∧ H d = some (exd d fs) ∧ PySem.W.kitOne K (.ref c) u = some b ∧ Q (.bl b) H
section
variable {X : Cx} {c : Addr} {f g : Str} {x : Str} {p pos : Pos} {e : Expr} {es : List Expr} {kws : List Keyword} {ta : TA} {te : TE}
theorem one_few (v : Value) : [v].length ≤ sizeLine := by
  rw [sizeLine_eq]
  exact (by decide : 1 ≤ 16777216)
theorem two_few (v u : Value) : [v, u].length ≤ sizeLine := by
  rw [sizeLine_eq]
  exact (by decide : 2 ≤ 16777216)
theorem nil_few : ([] : List Value).length ≤ sizeLine := Nat.zero_le _
theorem pe_x1 (T : Cl1 X.K c f) (hr : Room 1 X.A) (hm : X.mg x = some (.ref c)) (hg : Gl X x) (ha : PA X [e] ta) (hdb : (x == ("__debug__" : Str)) = false := by decide)
    (he : starEach (e :: []) X.env = (false, eval e X.env) :: starEach [] X.env := by rfl) (hpl : (backTo pos (starEach [] X.env)).any (·.1) = false := by rfl) : PE X (.Call (.Name x p) [e] [] pos) (tX1 c f ta) := by
  refine ⟨fun pins s σ H Q I h => ?_⟩
  obtain ⟨fi, base, nid, iid, bt, qual, fd, a1, a2, q1, q2, q3, q4, O, F, b1, b2⟩ := T.ex
  refine wpAny_Call_Name_kw (ld_glob I hg hm ?_ hdb)
  refine PySem.W.callWith_K (h₀ := X.base) I.ok.mod.kin T.kp (thn (ha.run pos pins s σ H _ I h) fun us s1 hh => ?_) he hpl
  obtain ⟨vs, H1, I1, r1, y, rfl, q⟩ := hh
  obtain ⟨u, rfl, ru⟩ := vals1 r1
  exact ⟨I1.kIn, run_mk1 (us := [u]) (ks := []) O T.fr F T.fs T.fdb hr I1 ru (one_few u) (fun s self => b1 s self u) q⟩
theorem pe_x1k (T : Cl1 X.K c f) (hr : Room 1 X.A) (hm : X.mg x = some (.ref c)) (hg : Gl X x) (hkw : PK X kws ta) (hall : (backToKw pos (keywordEach kws X.env)).all (·.1.isSome) = true := by rfl) (hks : (backToKw pos (keywordEach kws X.env)).filterMap (·.1) = [f] := by rfl)
    (hdb : (x == ("__debug__" : Str)) = false := by decide) (hpl : ((backTo pos (starEach [] X.env)).any (·.1) || (backToKw pos (keywordEach kws X.env)).any (·.1.isNone)) = false := by rfl) : PE X (.Call (.Name x p) [] kws pos) (tX1 c f ta) := by
  refine ⟨fun pins s σ H Q I h => ?_⟩
  obtain ⟨fi, base, nid, iid, bt, qual, fd, a1, a2, q1, q2, q3, q4, O, F, b1, b2⟩ := T.ex
  refine wpAny_Call_Name_kw (ld_glob I hg hm ?_ hdb)
  refine PySem.W.callWith_KW0 (h₀ := X.base) I.ok.mod.kin T.kp hall ?_ hpl
  refine thn (hkw.run pos pins s σ H _ I h) fun ws s2 hh => ?_
  obtain ⟨zs, H2, I2, rz, y, rfl, q⟩ := hh
  obtain ⟨u, rfl, ru⟩ := vals1 rz
  refine ⟨I2.kIn, ?_⟩
  rw [hks]
  exact run_mk1 (us := []) (ks := [(f, u)]) O T.fr F T.fs T.fdb hr I2 ru nil_few (fun s self => b2 s self u) q
theorem pe_x2 (T : Cl2 X.K c f g) (hr : Room 1 X.A) (hm : X.mg x = some (.ref c)) (hg : Gl X x) (ha : PA X (e :: es) ta) (hdb : (x == ("__debug__" : Str)) = false := by decide)
    (he : starEach (e :: es) X.env = (false, eval e X.env) :: starEach es X.env := by rfl) (hpl : (backTo pos (starEach es X.env)).any (·.1) = false := by rfl) : PE X (.Call (.Name x p) (e :: es) [] pos) (tX2 c f g ta) := by
  refine ⟨fun pins s σ H Q I h => ?_⟩
  obtain ⟨fi, base, nid, iid, bt, qual, fd, a1, a2, a3, q1, q2, q3, q4, r1, r2, r3, r4, O, F, b1, b2⟩ := T.ex
  refine wpAny_Call_Name_kw (ld_glob I hg hm ?_ hdb)
  refine PySem.W.callWith_K (h₀ := X.base) I.ok.mod.kin T.kp (thn (ha.run pos pins s σ H _ I h) fun us s1 hh => ?_) he hpl
  obtain ⟨vs, H1, I1, r1, y, z, rfl, q⟩ := hh
  obtain ⟨u, u2, rfl, ru, ru2⟩ := vals2 r1
  exact ⟨I1.kIn, run_mk2 (us := [u, u2]) (ks := []) O T.fr T.gr F T.fs T.gs T.gf T.fdb T.gdb hr I1 ru ru2 (two_few u u2) (fun s self => b1 s self u u2) q⟩
theorem pe_x2k (T : Cl2 X.K c f g) (hr : Room 1 X.A) (hm : X.mg x = some (.ref c)) (hg : Gl X x) (hkw : PK X kws ta) (hall : (backToKw pos (keywordEach kws X.env)).all (·.1.isSome) = true := by rfl) (hks : (backToKw pos (keywordEach kws X.env)).filterMap (·.1) = [g, f] := by rfl)
    (hdb : (x == ("__debug__" : Str)) = false := by decide) (hpl : ((backTo pos (starEach [] X.env)).any (·.1) || (backToKw pos (keywordEach kws X.env)).any (·.1.isNone)) = false := by rfl) : PE X (.Call (.Name x p) [] kws pos) (tX2k c f g ta) := by
  refine ⟨fun pins s σ H Q I h => ?_⟩
  obtain ⟨fi, base, nid, iid, bt, qual, fd, a1, a2, a3, q1, q2, q3, q4, r1, r2, r3, r4, O, F, b1, b2⟩ := T.ex
  refine wpAny_Call_Name_kw (ld_glob I hg hm ?_ hdb)
  refine PySem.W.callWith_KW0 (h₀ := X.base) I.ok.mod.kin T.kp hall ?_ hpl
  refine thn (hkw.run pos pins s σ H _ I h) fun ws s2 hh => ?_
  obtain ⟨zs, H2, I2, rz, y, z, rfl, q⟩ := hh
  obtain ⟨u2, u, rfl, ru2, ru⟩ := vals2 rz
  refine ⟨I2.kIn, ?_⟩
  rw [hks]
  exact run_mk2 (us := []) (ks := [(g, u2), (f, u)]) O T.fr T.gr F T.fs T.gs T.gf T.fdb T.gdb hr I2 ru ru2 nil_few (fun s self => b2 s self u u2) q
theorem inst_at {pins : List (Addr × Obj)} {σ : St} {H : Hp} {s : Shared} {a d : Addr} {fs : List (Str × V)} (I : Inv X pins σ H s) (ea : H a = some (exo a c (some d))) (ed : H d = some (exd d fs)) :
    ∃ ox od, PySem.W.InstAt s.heap a ox c (some od) ∧ ∀ f v, fs.lookup f = some v → ∃ u, PySem.W.lookIn f od = some (some u) ∧ RelV v u := by
  obtain ⟨t1, ho⟩ := exo_at I.hok ea
  obtain ⟨mA, hns, rel⟩ := exd_at I.hok ed
  obtain ⟨od, hod, hl⟩ := lookIn_ns hns
  refine ⟨_, od, ⟨ho, rfl, rfl, hod⟩, fun f v l => ?_⟩
  obtain ⟨u, hu, ru⟩ := RelO.some_of (v := v) (o := mA f) (by rw [← l]; exact rel f)
  exact ⟨u, by rw [hl, hu], ru⟩
theorem pe_xg (he : PE X e te) (hb : attributeBase e f X.env (eval e X.env) = eval e X.env := by rfl) : PE X (.Attribute e f pos) (tXG X.K f te) := by
  refine ⟨fun pins s σ H Q I h => ?_⟩
  refine attr_of hb (thn (he.run pins s σ H _ I h) fun u s1 hh => ?_)
  obtain ⟨x, H1, I1, rx, a, c, d, fs, v, rfl, T, hno, ea, ed, l, q⟩ := hh
  obtain rfl : u = Value.ref a := rx
  obtain ⟨ox, od, J, look⟩ := inst_at I1 ea ed
  obtain ⟨w, lw, rw'⟩ := look f v l
  exact HandSPX.exc_get I1.kIn J T.ga T.gg T.exc (PySem.W.findObj_own T.dct hno rfl lw) (handed_of rw') ⟨v, H1, I1.tok _, rw', q⟩
theorem call_isX : CallR X (.builtin "isinstance") (rIsX X.K) := by
  intro pins s σ H xs us Q I r h
  obtain ⟨a, c, d, fs, k, u, b, rfl, ku, T, ea, ed, e, q⟩ := h
  obtain ⟨u1, u2, rfl, r1, r2⟩ := vals2 r
  have e2 := ku.eq r2
  subst e2
  obtain rfl : u1 = Value.ref a := r1
  obtain ⟨ox, od, J, look⟩ := inst_at I ea ed
  exact PySem.W.kia_one (PySem.W.kitx_exc (by obtain ⟨cd, hc, _⟩ := PySem.W.any_some T.dct; rw [hc]; rfl) T.ga T.gg T.exc T.cA T.cN T.cT T.cM) I.kIn J e (fun z => nomatch z) fun tk => ⟨.bl b, H, I.tok tk, rfl, q⟩
end
end L2


namespace L2
open PySem PySem.Spec PyProof.Rows PySem.KX
/-! repr of data: lists, tuples, dicts of flat values -/
def keyD : Key → PyData
  | .inl i => .int i
  | .inr x => .str x
def leafD : V → PyData
  | .int i => .int i
  | .str x => .str x
  | _ => .none
def leafV (v : V) : Prop := (∃ i, v = .int i) ∨ ∃ x, v = .str x
mutual
inductive Dq (H : Hp) : V → PyData → Prop
  | non : Dq H .non .none
  | bl (b : Bool) : Dq H (.bl b) (.bool b)
  | int (i : Int) : Dq H (.int i) (.int i)
  | str (x : Str) : Dq H (.str x) (.str x)
  | lst {a : Addr} {xs : List V} {ds : List PyData} : H a = some (.lst xs) → sysModules ≠ a → DqAll H xs ds → Dq H (.ref a) (.list ds)
  | tup {a : Addr} {xs : List V} {ds : List PyData} : H a = some (.tup xs) → DqAll H xs ds → Dq H (.ref a) (.tuple ds)
  | dct {a : Addr} {kvs : List (Key × V)} : H a = some (.dK kvs) → (∀ p ∈ kvs, leafV p.2) → Dq H (.ref a) (.dict (kvs.map fun p => (keyD p.1, leafD p.2)))
inductive DqAll (H : Hp) : List V → List PyData → Prop
  | nil : DqAll H [] []
  | cons {v : V} {vs : List V} {d : PyData} {ds : List PyData} : Dq H v d → DqAll H vs ds → DqAll H (v :: vs) (d :: ds)
end
mutual
theorem Dq.mono {H H' : Hp} (s : Same H H') : ∀ {v : V} {d : PyData}, Dq H v d → Dq H' v d
  | _, _, .non => .non
  | _, _, .bl b => .bl b
  | _, _, .int i => .int i
  | _, _, .str x => .str x
  | _, _, .lst h n a => .lst (s _ _ h) n (DqAll.mono s a)
  | _, _, .tup h a => .tup (s _ _ h) (DqAll.mono s a)
  | _, _, .dct h a => .dct (s _ _ h) a
theorem DqAll.mono {H H' : Hp} (s : Same H H') : ∀ {v : List V} {d : List PyData}, DqAll H v d → DqAll H' v d
  | _, _, .nil => .nil
  | _, _, .cons a b => .cons (Dq.mono s a) (DqAll.mono s b)
end
section
variable {X : Cx} {pins : List (Addr × Obj)} {σ : St} {H : Hp} {s : Shared}
theorem reads_keys (h : Heap) {P : Program} {w : World} : ∀ {es : List DictEntry} {vs : List (Key × Value)}, Pairs (mixKind P w) es vs → ReadsAll h (es.map (·.key)) (vs.map fun p => keyD p.1) [] ∧ es.map (·.val) = vs.map (·.2) := by
  intro es vs hp
  induction hp with
  | nil => exact ⟨.nil, rfl⟩
  | @cons e kv es kvs hk hv _ ih =>
    obtain ⟨i1, i2⟩ := ih
    have kd : ∀ k : Key, ∀ u : Value, keyIs k u = true → Reads h u (keyD k) [] := fun k u q => by
      rcases keyIs_shape q with ⟨i, t, rfl, rfl⟩ | ⟨x, t, rfl, rfl⟩
      · exact .int i t
      · exact .str x t
    exact ⟨ReadsAll.cons (as := []) (bs := []) (kd _ _ hk) i1, by rw [List.map_cons, List.map_cons, i2, hv]⟩
theorem reads_leaf {h : Heap} {v : V} {u : Value} (l : leafV v) (r : RelV v u) : Reads h u (leafD v) [] := by
  rcases l with ⟨i, rfl⟩ | ⟨x, rfl⟩
  · obtain ⟨t, rfl⟩ := r
    exact .int i t
  · obtain ⟨t, rfl⟩ := r
    exact .str x t
theorem reads_vals {h : Heap} : ∀ {kvs : List (Key × V)} {vs : List (Key × Value)}, KV kvs vs → (∀ p ∈ kvs, leafV p.2) → ReadsAll h (vs.map (·.2)) (kvs.map fun p => leafD p.2) [] ∧ (vs.map fun p => keyD p.1) = kvs.map fun p => keyD p.1 := by
  intro kvs vs r
  unfold KV at r
  induction r with
  | nil => intro _; exact ⟨.nil, rfl⟩
  | @cons p q ps qs hpq t ih =>
    intro l
    obtain ⟨i1, i2⟩ := ih fun z hz => l z (List.mem_cons_of_mem _ hz)
    refine ⟨ReadsAll.cons (as := []) (bs := []) (reads_leaf (l p List.mem_cons_self) hpq.2) i1, ?_⟩
    rw [List.map_cons, List.map_cons, i2, hpq.1]
mutual
theorem Dq.reads (I : Inv X pins σ H s) : ∀ {v : V} {d : PyData} {u : Value}, Dq H v d → RelV v u → ∃ as, Reads s.heap u d as ∧ sysModules ∉ as
  | _, _, _, .non, r => by cases r; exact ⟨_, .none, nofun⟩
  | _, _, _, .bl b, r => by cases r; exact ⟨_, .bool b, nofun⟩
  | _, _, _, .int i, r => by obtain ⟨t, rfl⟩ := r; exact ⟨_, .int i t, nofun⟩
  | _, _, _, .str x, r => by obtain ⟨t, rfl⟩ := r; exact ⟨_, .str x t, nofun⟩
  | _, _, _, .lst h n a, r => by
    cases r
    obtain ⟨its, rv, ⟨o, m, ho, hc, _, hd⟩, _⟩ := I.list (SqL.of h)
    obtain ⟨as, hr, hn⟩ := DqAll.reads I a rv
    exact ⟨_, Reads.list ho hc hd hr, fun z => by rcases List.mem_cons.mp z with e | e; exact n e; exact hn e⟩
  | _, _, _, .tup h a, r => by
    cases r
    obtain ⟨its, rv, ⟨o, ho, hc, m, hd⟩, _⟩ := I.tuple (SqT.of h)
    obtain ⟨as, hr, hn⟩ := DqAll.reads I a rv
    exact ⟨_, Reads.tuple ho hc hd hr, hn⟩
  | _, _, _, .dct (a := a) (kvs := kvs) h l, r => by
    cases r
    obtain ⟨_, hs, vs, rv, o, es, ep, h1, h2, h3, _, h5, _⟩ := (show ObjOk X.prog X.w H s.heap a (.dK kvs) from I.hok a _ h)
    obtain ⟨k1, k2⟩ := reads_keys s.heap h5
    obtain ⟨v1, v2⟩ := reads_vals (h := s.heap) rv l
    refine ⟨_, Reads.dict (as := []) (bs := []) h1 h2.1 h3 ?_ ?_, ?_⟩
    · rw [List.map_map]
      rw [v2] at k1
      exact k1
    · rw [k2, List.map_map]
      exact v1
    · intro z
      simp at z
      rw [← z] at hs
      simp at hs
theorem DqAll.reads (I : Inv X pins σ H s) : ∀ {v : List V} {d : List PyData} {u : List Value}, DqAll H v d → Vals v u → ∃ as, ReadsAll s.heap u d as ∧ sysModules ∉ as
  | _, _, _, .nil, r => by cases r; exact ⟨_, .nil, nofun⟩
  | _, _, _, .cons a b, r => by
    cases r with
    | cons r1 r2 =>
      obtain ⟨as, q1, n1⟩ := Dq.reads I a r1
      obtain ⟨bs, q2, n2⟩ := DqAll.reads I b r2
      exact ⟨_, .cons q1 q2, fun z => by rcases List.mem_append.mp z with e | e; exact n1 e; exact n2 e⟩
end
end
section
variable {X : Cx}
/-- a list display, new, not sys.modules -/
def tLstN (t : TA) : TE := fun σ H Q => t σ H fun xs H1 => xs.length ≤ sizeLine ∧ ∀ l, H1 l = none → sysModules ≠ l → Q (.ref l) (upd H1 l (.lst xs))
theorem pe_lstN {es : List Expr} {t : TA} {pos : Pos} (h : PA X es t) : PE X (.List es pos) (tLstN t) := by
  refine ⟨fun pins s σ H Q I hq => ?_⟩
  refine wpAny_List_spliced (thn (h.run pos pins s σ H _ I hq) fun us s1 hh => ?_)
  obtain ⟨xs, H1, I1, r, z, q⟩ := hh
  refine ⟨by rw [← r.length]; exact z, .ref s1.heap.objs.size, upd H1 s1.heap.objs.size (.lst xs), I1.laid (t' := s1.toks) (fun b u e => Heap.get?_push_of_some _ e) (Nat.le_refl _) ⟨z, us, 0, r, Heap.get?_push_size _ rfl⟩, rfl, ?_⟩
  exact q _ (I1.hok.fresh (Nat.le_refl _)) (Nat.ne_of_lt I1.big)
/-- repr(x), x a list or a tuple or a dict -/
def rShow (xs : List V) (H : Hp) (Q : VK) : Prop := ∃ (a : Addr) (d : PyData), xs = [.ref a] ∧ Dq H (.ref a) d ∧ d.showable = true ∧ d.depth ≤ 20 ∧ d.shown.length ≤ sizeLine ∧ Q (.str d.shown) H
theorem call_repD (hr : Room 1 X.A) (hg : X.A.guards = some []) : CallR X (.builtin "repr") rShow := by
  intro pins s σ H xs us Q I r h
  obtain ⟨a, d, rfl, hd, hs, hdp, hz, q⟩ := h
  obtain ⟨u, rfl, ru⟩ := vals1 r
  obtain ⟨as, hr1, hn⟩ := Dq.reads I hd ru
  cases ru
  refine repr_of_reads' hr1 hs (fun _ => hn) hg ?_ (fun _ _ e => e) (fun h' u tk k => ?_) hz
  · have := hr.un
    omega
  · exact ⟨.str d.shown, H, I.kept (t' := tk) k, ⟨_, rfl⟩, q⟩
end
end L2


namespace L2
open PySem PySem.Spec PyProof.Rows PySem.KX
/-! raise C(x), C an own class whose __init__ keeps what it is given -/
section
variable {X : Cx} {pins : List (Addr × Obj)} {σ : St} {H : Hp} {c : Addr} {f : Str}
theorem flown {hp h' : Heap} {g0 : Array GenState} {dr : Drawn} {t0 t' : Nat} {os : OsState} {d0 t1 : Addr} {m : Str → Option Value} {fs : List (Str × V)} {Q : XK} (I : Inv X pins σ H ⟨hp, g0, dr, t0, os⟩) {w1 w2 : Obj} (T : Raises X (.ref c))
    (M : Filled ((hp.push w1).push w2) h' (hp.objs.size + 1) c d0 t1 m) (rel : ∀ f, RelO (fs.lookup f) (m f)) (h : ∀ d, H d = none → Q (.ref c) (some d) (upd H d (.xd fs))) :
    MkP X pins σ Q (.ref (hp.objs.size + 1)) ⟨h', g0, dr, t', os⟩ := by
  have was : ∀ b o, hp.get? b = some o → h'.get? b = some o := fun b o e => M.old b o (Nat.ne_of_lt (Nat.lt_succ_of_lt (Heap.lt_size e))) (Heap.get?_push_of_some _ (Heap.get?_push_of_some _ e))
  have big : hp.objs.size ≤ d0 := by
    have z := M.big
    simp only [Heap.size_push] at z
    omega
  have nE : H (hp.objs.size + 1) = none := I.hok.fresh (Nat.le_succ _)
  obtain ⟨G, g1, g2⟩ := restrict h' fun b => decide (b ≠ hp.objs.size + 1)
  have gE : G.get? (hp.objs.size + 1) = none := g2 _ (by simp)
  have gN : ∀ b, b ≠ hp.objs.size + 1 → G.get? b = h'.get? b := fun b hb => g1 b (decide_eq_true hb)
  have J : Inv X pins σ (upd H d0 (.xd fs)) ⟨G, g0, dr, t', os⟩ := I.laid (t' := t') (fun b o q => (gN b (Nat.ne_of_lt (Nat.lt_succ_of_lt (Heap.lt_size q)))).trans (was b o q)) big ⟨m, M.ns.at fun o q => (gN d0 M.ne).trans q, rel⟩
  refine ⟨_, _, _, ⟨G, g0, dr, t', os⟩, _, .ref c, some d0, rfl, J, fun b o q => ?_, gE, M.obj, ⟨rfl, rfl⟩, rfl, rfl, ?_, rfl, J.bare, T, h d0 (I.hok.fresh big)⟩
  · by_cases hb : b = hp.objs.size + 1
    · have q' : G.get? b = some o := q
      rw [hb, gE] at q'
      cases q'
    · exact (gN b hb).symm.trans q
  · rw [upd_ne M.ne.symm]
    exact nE
/-- what raise C(..) asks of C -/
structure ClR (K : PySem.W.Frag) (c : Addr) : Prop where
  sub : PySem.W.subIn K (.ref c) (.type "BaseException") = some true
  typ : PySem.W.typeIn K (.ref c) = some (.type "type")
variable {x : Str} {e : Expr} {ta : TA} {p pos : Pos}
theorem pmk_x1 (T : Cl1 X.K c f) (R : ClR X.K c) (hr : Room 1 X.A) (hm : X.mg x = some (.ref c)) (hg : Gl X x) (ha : PA X [e] ta) (hdb : (x == ("__debug__" : Str)) = false := by decide)
    (he : starEach (e :: []) X.env = (false, eval e X.env) :: starEach [] X.env := by rfl) (hpl : (backTo pos (starEach [] X.env)).any (·.1) = false := by rfl) :
    PMk X (.Call (.Name x p) [e] [] pos) (fun σ H Q => ta σ H fun vs H1 => ∃ y, vs = [y] ∧ ∀ d, H1 d = none → Q (.ref c) (some d) (upd H1 d (.xd [(f, y)]))) := by
  intro pins s σ H Q I h
  obtain ⟨fi, base, nid, iid, bt, qual, fd, a1, a2, q1, q2, q3, q4, O, F, b1, b2⟩ := T.ex
  refine wpAny_Call_Name_kw (ld_glob I hg hm ?_ hdb)
  refine PySem.W.callWith_K (h₀ := X.base) I.ok.mod.kin T.kp (thn (ha.run pos pins s σ H _ I h) fun us s1 hh => ?_) he hpl
  obtain ⟨vs, H1, I1, r1, y, rfl, q⟩ := hh
  obtain ⟨u, rfl, ru⟩ := vals1 r1
  refine ⟨I1.kIn, ?_⟩
  obtain ⟨nm, nsA, qn, bs, bm, hdct, sn, sub, ab, col, dd, k0, k1, k2, k3, k5, hC, same⟩ := PySem.W.excInit_of I1.kIn O.ini
  obtain ⟨hp, g0, dr, tk, os⟩ := s1
  have up : ∀ b o, hp.get? b = some o → ((hp.push (PySem.W.kdv_tup [u])).push (PySem.HandSPX.excO c hp.objs.size)).get? b = some o := fun b o e => Heap.get?_push_of_some _ (Heap.get?_push_of_some _ e)
  refine wpAny_call (class_called O.FB same hC (one_few u) (PySem.W.looks_findIn I1.kIn O.fI) (fun self => PySem.W.bind_fn I1.kIn self O.fT) ?_)
  refine init_one (s := ⟨(hp.push (PySem.W.kdv_tup [u])).push (PySem.HandSPX.excO c hp.objs.size), g0, dr, tk, os⟩) O T.fr F T.fs T.fdb (b1 _ _ _) (I1.kIn.keeps up) (I1.nolimit.keeps up) (by heap_get) (by show X.A.depth + 1 < recursionLimit; have := hr.dp; omega) fun h' tk' d0 M => ?_
  exact ⟨rfl, flown I1 (raises_own R.sub R.typ) M (fun q => relO_put (fs := []) (mA := fun _ => none) ru (fun _ => True.intro) q) q⟩
end
end L2


namespace L2
open PySem PySem.Spec PyProof.Rows PySem.KX
/-! repr of any data: lists, tuples, dicts -/
mutual
inductive Sd (K : PySem.W.Frag) (H : Hp) : V → PyData → Prop
  | non : Sd K H .non .none
  | bl (b : Bool) : Sd K H (.bl b) (.bool b)
  | int (i : Int) : Sd K H (.int i) (.int i)
  | str (x : Str) : Sd K H (.str x) (.str x)
  | lst {a : Addr} {xs : List V} {ds : List PyData} : SqL K H a xs → SdAll K H xs ds → Sd K H (.ref a) (.list ds)
  | tup {a : Addr} {xs : List V} {ds : List PyData} : SqT K H a xs → SdAll K H xs ds → Sd K H (.ref a) (.tuple ds)
  | dct {a : Addr} {kvs : List (Key × V)} {ds : List PyData} : H a = some (.dK kvs) → SdAll K H (kvs.map (·.2)) ds → Sd K H (.ref a) (.dict ((kvs.map fun p => keyD p.1).zip ds))
inductive SdAll (K : PySem.W.Frag) (H : Hp) : List V → List PyData → Prop
  | nil : SdAll K H [] []
  | cons {v : V} {vs : List V} {d : PyData} {ds : List PyData} : Sd K H v d → SdAll K H vs ds → SdAll K H (v :: vs) (d :: ds)
end
/-- sys.modules is a dict -/
def SysD (K : PySem.W.Frag) : Prop := ∃ o, K.lookup sysModules = some o ∧ o.cls = .type "dict"
theorem sds_len {K : PySem.W.Frag} {H : Hp} : ∀ {vs : List V} {ds : List PyData}, SdAll K H vs ds → vs.length = ds.length
  | _, _, .nil => rfl
  | _, _, .cons _ b => by rw [List.length_cons, List.length_cons, sds_len b]
theorem kv_split {kvs : List (Key × V)} {vs : List (Key × Value)} (r : KV kvs vs) : Vals (kvs.map (·.2)) (vs.map (·.2)) ∧ (vs.map fun p => keyD p.1) = kvs.map fun p => keyD p.1 := by
  unfold KV at r
  induction r with
  | nil => exact ⟨.nil, rfl⟩
  | @cons p q ps qs hpq t ih =>
    refine ⟨.cons hpq.2 ih.1, ?_⟩
    rw [List.map_cons, List.map_cons, ih.2, hpq.1]
section
variable {X : Cx} {pins : List (Addr × Obj)} {σ : St} {H : Hp} {s : Shared}
mutual
theorem Sd.reads (I : Inv X pins σ H s) (S : SysD X.K) : ∀ {v : V} {d : PyData} {u : Value}, Sd X.K H v d → RelV v u → ∃ as, Reads s.heap u d as ∧ sysModules ∉ as
  | _, _, _, .non, r => by cases r; exact ⟨_, .none, nofun⟩
  | _, _, _, .bl b, r => by cases r; exact ⟨_, .bool b, nofun⟩
  | _, _, _, .int i, r => by obtain ⟨t, rfl⟩ := r; exact ⟨_, .int i t, nofun⟩
  | _, _, _, .str x, r => by obtain ⟨t, rfl⟩ := r; exact ⟨_, .str x t, nofun⟩
  | _, _, _, .lst h a, r => by
    cases r
    obtain ⟨its, rv, ⟨o, m, ho, hc, _, hd⟩, _⟩ := I.list h
    obtain ⟨as, hr, hn⟩ := SdAll.reads I S a rv
    refine ⟨_, Reads.list ho hc hd hr, fun z => ?_⟩
    rcases List.mem_cons.mp z with e | e
    · obtain ⟨o2, e1, e2⟩ := S
      have e3 := I.kIn _ _ e1
      rw [e, ho] at e3
      cases e3
      rw [hc] at e2
      exact absurd e2 (by decide)
    · exact hn e
  | _, _, _, .tup h a, r => by
    cases r
    obtain ⟨its, rv, ⟨o, ho, hc, m, hd⟩, _⟩ := I.tuple h
    obtain ⟨as, hr, hn⟩ := SdAll.reads I S a rv
    exact ⟨_, Reads.tuple ho hc hd hr, hn⟩
  | _, _, _, .dct (a := a) (kvs := kvs) (ds := ds) h l, r => by
    cases r
    obtain ⟨_, hs, vs, rv, o, es, ep, h1, h2, h3, _, h5, _⟩ := (show ObjOk X.prog X.w H s.heap a (.dK kvs) from I.hok a _ h)
    obtain ⟨k1, k2⟩ := reads_keys s.heap h5
    obtain ⟨v1, v2⟩ := kv_split rv
    obtain ⟨as, hr, hn⟩ := SdAll.reads I S l v1
    have hl := sds_len l
    rw [List.length_map] at hl
    refine ⟨_, Reads.dict (as := []) (bs := as) h1 h2.1 h3 ?_ ?_, ?_⟩
    · rw [List.map_fst_zip (by rw [List.length_map]; omega)]
      rw [v2] at k1
      exact k1
    · rw [List.map_snd_zip (by rw [List.length_map]; omega), k2]
      exact hr
    · intro z
      rcases List.mem_append.mp z with z | z
      · simp at z
        rw [← z] at hs
        simp at hs
      · exact hn z
theorem SdAll.reads (I : Inv X pins σ H s) (S : SysD X.K) : ∀ {v : List V} {d : List PyData} {u : List Value}, SdAll X.K H v d → Vals v u → ∃ as, ReadsAll s.heap u d as ∧ sysModules ∉ as
  | _, _, _, .nil, r => by cases r; exact ⟨_, .nil, nofun⟩
  | _, _, _, .cons a b, r => by
    cases r with
    | cons r1 r2 =>
      obtain ⟨as, q1, n1⟩ := Sd.reads I S a r1
      obtain ⟨bs, q2, n2⟩ := SdAll.reads I S b r2
      exact ⟨_, .cons q1 q2, fun z => by rcases List.mem_append.mp z with e | e; exact n1 e; exact n2 e⟩
end
end
/-- v shows as d -/
def Shw (K : PySem.W.Frag) (H : Hp) (v : V) (d : PyData) : Prop := Sd K H v d ∧ d.showable = true ∧ d.depth ≤ 150 ∧ d.shown.length ≤ sizeLine
theorem seqT_same {K : PySem.W.Frag} {H H' : Hp} {a : Addr} {xs : List V} (e : Same H H') (h : SqT K H a xs) : SqT K H' a xs := by
  rcases h with (h | ⟨o, h⟩) | h
  · exact .inl (.inl (e _ _ h))
  · exact .inl (.inr ⟨o, e _ _ h⟩)
  · exact .inr h
mutual
theorem sdM {K : PySem.W.Frag} {H H' : Hp} (s : Same H H') : ∀ {v : V} {d : PyData}, Sd K H v d → Sd K H' v d
  | _, _, .non => .non
  | _, _, .bl b => .bl b
  | _, _, .int i => .int i
  | _, _, .str x => .str x
  | _, _, .lst h a => .lst (s.seq h) (sdAllM s a)
  | _, _, .tup h a => .tup (seqT_same s h) (sdAllM s a)
  | _, _, .dct h a => .dct (s _ _ h) (sdAllM s a)
theorem sdAllM {K : PySem.W.Frag} {H H' : Hp} (s : Same H H') : ∀ {v : List V} {d : List PyData}, SdAll K H v d → SdAll K H' v d
  | _, _, .nil => .nil
  | _, _, .cons a b => .cons (sdM s a) (sdAllM s b)
end
section
variable {X : Cx}
def rRepA (K : PySem.W.Frag) (xs : List V) (H : Hp) (Q : VK) : Prop := ∃ (v : V) (d : PyData), xs = [v] ∧ Shw K H v d ∧ Q (.str d.shown) H
theorem call_rep (S : SysD X.K) (hu : X.A.units + 200 < cLine) (hg : X.A.guards = some []) : CallR X (.builtin "repr") (rRepA X.K) := by
  intro pins s σ H xs us Q I r h
  obtain ⟨v, d, rfl, ⟨hd, hs, hdp, hz⟩, q⟩ := h
  obtain ⟨u, rfl, ru⟩ := vals1 r
  obtain ⟨as, hr, n⟩ := Sd.reads I S hd ru
  have hn : d.hasDict = true → sysModules ∉ as := fun _ => n
  cases hr with
  | none => exact PySem.P.repr_of_none ⟨.str _, H, I.tok _, ⟨_, rfl⟩, q⟩
  | bool b => exact PySem.P.repr_of_bool ⟨.str _, H, I.tok _, ⟨_, rfl⟩, q⟩
  | int i t => exact PySem.P.repr_of_int (of_decide_eq_true hs) ⟨.str _, H, I.tok _, ⟨_, rfl⟩, q⟩
  | str x t => exact PySem.P.repr_of_str ⟨.str _, H, I.tok _, ⟨_, rfl⟩, q⟩ hz
  | list h1 h2 h3 h4 => exact repr_of_reads' (.list h1 h2 h3 h4) hs hn hg (by omega) (fun _ _ e => e) (fun h' u tk k => ⟨.str _, H, I.kept (t' := tk) k, ⟨_, rfl⟩, q⟩) hz
  | tuple h1 h2 h3 h4 => exact repr_of_reads' (.tuple h1 h2 h3 h4) hs hn hg (by omega) (fun _ _ e => e) (fun h' u tk k => ⟨.str _, H, I.kept (t' := tk) k, ⟨_, rfl⟩, q⟩) hz
  | dict h1 h2 h3 h4 h5 => exact repr_of_reads' (.dict h1 h2 h3 h4 h5) hs hn hg (by omega) (fun _ _ e => e) (fun h' u tk k => ⟨.str _, H, I.kept (t' := tk) k, ⟨_, rfl⟩, q⟩) hz
/-- isinstance(e, c), e what the suite holds, with its fields -/
def rIsS (K : PySem.W.Frag) (a : Addr) (cls : Value) (d : Option Addr) : List V → Hp → VK → Prop := fun xs H Q => ∃ (C dd : Addr) (fs : List (Str × V)) (c : V) (cv : Value) (b : Bool), xs = [.ref a, c] ∧ cls = .ref C ∧ d = some dd ∧ H dd = some (.xd fs) ∧ ClG K C ∧ ClsV c cv ∧ PySem.W.kitOne K (.ref C) cv = some b ∧ Q (.bl b) H
theorem call_isS {a : Addr} {oe : Obj} {cls : Value} {d : Option Addr} {pn : List (Addr × Obj)} (hz : Zc cls d oe) (hf : ∃ vs, oe.data = .fields vs) : CallR (X.suite a ((a, oe) :: pn)) (.builtin "isinstance") (rIsS X.K a cls d) := by
  intro pins s σ H xs us Q I r h
  obtain ⟨C, dd, fs, c, cv, b, rfl, rfl, rfl, ed, T, ku, e, q⟩ := h
  obtain ⟨u1, u2, rfl, r1, r2⟩ := vals2 r
  have e2 := ku.eq r2
  subst e2
  obtain rfl : u1 = Value.ref a := r1
  obtain ⟨ha, _⟩ := I.pin (a, oe) (List.mem_append_left _ List.mem_cons_self)
  obtain ⟨vs, hd⟩ := hf
  have hx : ObjOk X.prog X.w H s.heap dd (.xd fs) := I.hok dd _ ed
  obtain ⟨mA, hns, hr⟩ := hx
  obtain ⟨od, ho, hl⟩ := lookIn_ns hns
  have J : PySem.W.InstAt s.heap a oe C (some od) := ⟨ha, hz.1, by unfold PySem.W.notCls; rw [hd] <;> rfl, by rw [hz.2]; exact ho⟩
  exact PySem.W.kia_one (PySem.W.kitx_exc (by obtain ⟨cd, hc, _⟩ := PySem.W.any_some T.dct; rw [hc]; rfl) T.ga T.gg T.exc T.cA T.cN T.cT T.cM) I.kIn J e (fun z => nomatch z) fun tk => ⟨.bl b, H, I.tok tk, rfl, q⟩
end
end L2


namespace Toy
open PySem L2
def top (i : Nat) : Stmt := PySem.Challenge.pw_sieveways_k04_places_of_data.main.body.getD i (.Pass ⟨0, 0, 0, 0⟩)
abbrev sBegin : Stmt := top 15
abbrev sDraw : Stmt := top 16
/-! ### the tape -/
def kC : Key := Sum.inr ("cells" : Str)
def kA : Key := Sum.inr ("at" : Str)
def kL : Key := Sum.inr ("left" : Str)
def tp (l : Addr) (a f : Int) : List (Key × V) := [(kC, .ref l), (kA, .int a), (kL, .int f)]
theorem k_ca : ¬ (kC = kA) := by decide +kernel
theorem k_cl : ¬ (kC = kL) := by decide +kernel
theorem k_al : ¬ (kA = kL) := by decide +kernel
theorem k_la : ¬ (kL = kA) := by decide +kernel
theorem tp_cells (l : Addr) (a f : Int) : valV (tp l a f) kC = some (.ref l) := by
  unfold tp
  rw [valV_pos rfl]
theorem tp_at (l : Addr) (a f : Int) : valV (tp l a f) kA = some (.int a) := by
  unfold tp
  rw [valV_neg k_ca, valV_pos rfl]
theorem tp_left (l : Addr) (a f : Int) : valV (tp l a f) kL = some (.int f) := by
  unfold tp
  rw [valV_neg k_cl, valV_neg k_al, valV_pos rfl]
theorem put_at (l : Addr) (a f b : Int) : putK (tp l a f) kA (.int b) = tp l b f := by
  unfold tp putK
  rw [if_pos (by simp)]
  simp only [List.map_cons, List.map_nil]
  rw [if_neg k_ca, if_pos trivial, if_neg k_la]
theorem put_left (l : Addr) (a f b : Int) : putK (tp l a f) kL (.int b) = tp l a b := by
  unfold tp putK
  rw [if_pos (by simp)]
  simp only [List.map_cons, List.map_nil]
  rw [if_neg k_cl, if_neg k_al, if_pos trivial]
section
variable {H : Hp} {d l : Addr} {a f : Int} (h : H d = some (.dK (tp l a f)))
include h
theorem get_cells : DGet H d (.str ("cells" : Str)) (some (.ref l)) := by
  have z := DGet.k (k := kC) h
  rw [tp_cells] at z
  exact z
theorem get_at : DGet H d (.str ("at" : Str)) (some (.int a)) := by
  have z := DGet.k (k := kA) h
  rw [tp_at] at z
  exact z
theorem get_left : DGet H d (.str ("left" : Str)) (some (.int f)) := by
  have z := DGet.k (k := kL) h
  rw [tp_left] at z
  exact z
theorem set_at (b : Int) : DPut H d (.str ("at" : Str)) (.int b) (upd H d (.dK (tp l b f))) := by
  have z := DPut.k (k := kA) (v := .int b) h (by show 3 < sizeLine; decide)
  rw [put_at] at z
  exact z
theorem set_left (b : Int) : DPut H d (.str ("left" : Str)) (.int b) (upd H d (.dK (tp l a b))) := by
  have z := DPut.k (k := kL) (v := .int b) h (by show 3 < sizeLine; decide)
  rw [put_left] at z
  exact z
end
/-- at d a tape, of which at most n draws were made -/
def Tape (H : Hp) (d l : Addr) (n : Nat) : Prop := ∃ (ns : List Int) (a f : Int), H d = some (.dK (tp l a f)) ∧ H l = some (.lst (ns.map V.int)) ∧ ns ≠ [] ∧ ns.length ≤ 1000 ∧ 0 ≤ a ∧ a ≤ n
/-- all that stood stands, but at d -/
def But (d : Addr) (H H' : Hp) : Prop := ∀ b o, b ≠ d → H b = some o → H' b = some o
theorem But.refl {d : Addr} {H : Hp} : But d H H := fun _ _ _ e => e
theorem But.trans {d : Addr} {H H1 H2 : Hp} (a : But d H H1) (b : But d H1 H2) : But d H H2 := fun x o n e => b x o n (a x o n e)
theorem But.upd {d : Addr} {H H1 : Hp} {u : HO} (a : But d H H1) : But d H (upd H1 d u) := fun x o n e => by
  rw [upd_ne n]
  exact a x o n e
theorem But.new {d p : Addr} {H H1 : Hp} {u : HO} (a : But d H H1) (hp : H1 p = none) : But d H (L2.upd H1 p u) := fun x o n e => by
  rw [upd_ne (ne_of_none (a x o n e) hp)]
  exact a x o n e
def spDraw : Sp := fun vs H Q _ => ∃ (d l : Addr) (n : Nat) (m : Int), vs = [.ref d, .int m] ∧ Tape H d l n ∧ n ≤ 1000000 ∧ 0 < m ∧ m < 1000000 ∧
  ∀ H' r, But d H H' → Tape H' d l (n + 1) → 0 ≤ r → r < m → Q (.int r) H'
section
variable {P : Program} {w : World} {K : PySem.W.Frag} {mg : Str → Option Value} {base : Heap}
theorem scD : FnScope ["_law_tape", "_law_many", "_law_turn", "_law_size", "_law_cell", "_law_got"] ["_law_tape", "_law_many"] (defScope sDraw) := ⟨rfl, rfl, rfl, by decide +kernel, rfl, by decide +kernel, by decide +kernel⟩
theorem ok_draw {f : Addr} {fd : FuncData} (F : Fun K "_law_draw" "_law_draw" sDraw f fd) (mLen : mg "len" = none) (mInt : mg "int" = none) : FnOk P w K mg base CX0 1 f fd ["_law_tape", "_law_many"] spDraw := by
  refine F.ok scD (fun vs H Q E h => ?_) (fun cdv A outer s H vs Q E hr h => ?_)
  · obtain ⟨d, l, n, m, rfl, _⟩ := h
    rfl
  · obtain ⟨d, l, n, m, rfl, ⟨ns, a, f, hd, hl, hne, hlen, a0, an⟩, hn, m0, m1, q⟩ := h
    have hu := hu_of hr
    refine ⟨_, pss_cons (ps_if (pt_cmpR op_lt (pe_dget hu (pv 0) pe_str (fun _ _ => rfl)) (pv 1) (nomark _))
      (pss_cons (ps_par (i := 2) (j := 3) rfl scD.nd rfl rfl (by decide) rfl rfl (pa_cons (pe_dget hu (pv 0) pe_str (fun _ _ => rfl)) (pa_cons (pe_callB call_len_seq (by rfl) mLen PySem.boot_len (pa_cons (pe_dget hu (pv 0) pe_str (fun _ _ => rfl)) pa_nil)) pa_nil)) (by rfl))
      (pss_cons (ps_asg (pe_tup (pa_cons (pe_ix ix_list (pe_dget hu (pv 0) pe_str (fun _ _ => rfl)) (pe_op op_mod (pe_callTy call_int1 (by rfl) mInt (by decide +kernel) (pa_cons (pv 2) pa_nil)) (pv 3)) (fun _ _ => rfl)) (pa_cons (pe_op op_add (pv 2) pe_int) pa_nil)))
          (pg_tup rfl (pgs_cons (pg_name (i := 4) scD.nd rfl (.inl rfl)) (pgs_cons (pg_sub (pv 0) pe_str (set_dict hu)) pgs_nil))))
      (pss_cons (ps_dput hu (pv 0) pe_str (pe_op op_mod (pe_callTy call_int1 (by rfl) mInt (by decide +kernel) (pa_cons (pe_op op_pow (pe_op op_add (pe_op op_add (pe_op op_mod (pe_callTy call_int1 (by rfl) mInt (by decide +kernel) (pa_cons (pv 4) pa_nil)) pe_int) (pe_op op_mul pe_int (pv 2))) pe_int) pe_int) pa_nil)) (pe_op op_add (pe_op op_pow pe_int pe_int) pe_int)) rfl)
      (pss_one (ps_if (PW.pt (pw_and (pt_cmpR op_ge (pv 4) (pe_op op_pow pe_int pe_int) (nomark _)) (pw_and1 (pt_cmpR op_lt (pv 2) (pv 3) (nomark _)))))
        (pss_one (ps_dput hu (pv 0) pe_str (pe_op op_sub (pv 4) (pe_op op_pow pe_int pe_int)) rfl)) pss_nil)))))
      pss_nil)
      (pss_cons (ps_asg (pe_tup (pa_cons (pe_op op_mod (pe_callTy call_int1 (by rfl) mInt (by decide +kernel) (pa_cons (pe_dget hu (pv 0) pe_str (fun _ _ => rfl)) pa_nil)) (pv 1)) (pa_cons (pe_op op_fdivW (pe_dget hu (pv 0) pe_str (fun _ _ => rfl)) (pv 1)) pa_nil)))
          (pg_tup rfl (pgs_cons (pg_name (i := 5) scD.nd rfl (.inl rfl)) (pgs_cons (pg_sub (pv 0) pe_str (set_dict hu)) pgs_nil))))
      (pss_one (ps_ret (pv 5)))), ?_⟩
    refine ⟨_, rfl, d, _, rfl, get_left hd, _, rfl, _, _, rfl, rfl, _, rfl, ?_⟩
    refine ite2 (fun c => ?_) (fun c => ?_)
    · have e0 : ((ns.map V.int).length : Int) = (ns.length : Int) := by rw [List.length_map]
      have lp : 0 < ns.length := List.length_pos_iff.mpr hne
      obtain ⟨j, hj, ej⟩ : ∃ j : Nat, j < ns.length ∧ a % ((ns.map V.int).length : Int) = (j : Int) := by
        rw [e0]
        have h1 : 0 ≤ a % (ns.length : Int) := Int.emod_nonneg a (by omega)
        have h2 : a % (ns.length : Int) < (ns.length : Int) := Int.emod_lt_of_pos a (by omega)
        exact ⟨(a % (ns.length : Int)).toNat, by omega, by omega⟩
      have hat : atI (ns.map V.int) (j : Int) = some (.int ns[j]) := atI_nat (by rw [List.getElem?_map, List.getElem?_eq_getElem hj]; rfl)
      refine ⟨_, rfl, d, _, rfl, get_at hd, _, rfl, d, _, rfl, get_cells hd, l, _, rfl, .inl (SqL.of hl), _, _, rfl, ?_⟩
      refine ⟨_, rfl, d, _, rfl, get_cells hd, _, rfl, .inl ⟨_, rfl, _, rfl, _, _, rfl, rfl, (by show 0 < ((ns.map V.int).length : Int); omega), ?_⟩⟩
      refine ⟨l, _, _, .int ns[j], rfl, rfl, SqL.of hl, (by rw [ej]; exact hat), _, rfl, _, _, rfl, rfl, (by show 2 ≤ sizeLine; decide), fun t nt => ?_⟩
      have ndt : d ≠ t := ne_of_none hd nt
      have nlt : l ≠ t := ne_of_none hl nt
      have nld : l ≠ d := ne_of hl hd (by intro z; cases z)
      refine ⟨t, _, rfl, SqT.of upd_same, rfl, _, _, rfl, _, _, rfl, _, rfl, d, _, rfl, set_at (by rw [upd_ne ndt]; exact hd) _, rfl, ?_⟩
      generalize hcell : ns[j] = cell
      have h63 : 0 ≤ cell % 2147483563 := Int.emod_nonneg _ (by decide)
      have h64 : cell % 2147483563 < 2147483563 := Int.emod_lt_of_pos _ (by decide)
      refine ⟨_, rfl, .inl ⟨_, rfl, _, _, rfl, rfl, (by show (0 : Int) < 2147483563; decide), _, rfl, _, _, rfl, rfl, (.inl ⟨by decide, by decide⟩), _, _, rfl, rfl, _, _, rfl, rfl, _, _, rfl, rfl, ⟨by decide, by decide, by omega⟩, .inl ⟨_, rfl, _, _, rfl, rfl, ⟨by decide, by decide, by decide⟩, _, _, rfl, rfl, _, _, rfl, rfl, (by show (0 : Int) < 10 ^ 50 + 151; decide), ?_⟩⟩⟩
      refine ⟨_, rfl, d, _, rfl, set_left upd_same _, ?_⟩
      refine ⟨_, rfl, _, _, rfl, rfl, ⟨by decide, by decide, by decide⟩, _, _, rfl, rfl, _, rfl, ?_⟩
      refine ite2 (fun c1 => ?_) (fun c1 => ?_)
      · refine ⟨_, rfl, _, rfl, _, _, rfl, rfl, _, rfl, ?_⟩
        refine ite2 (fun c2 => ?_) (fun c2 => ?_)
        · refine ⟨_, rfl, _, _, rfl, rfl, ⟨by decide, by decide, by decide⟩, _, _, rfl, rfl, _, rfl, d, _, rfl, set_left upd_same _, ?_⟩
          refine ⟨_, rfl, d, _, rfl, get_left upd_same, .inl ⟨_, rfl, _, rfl, _, _, rfl, rfl, m0, _, rfl, d, _, rfl, get_left upd_same, _, rfl, _, _, rfl, rfl, wide_div (b := 64) m0 (by omega) (by decide) (by decide), (by show 2 ≤ sizeLine; decide), fun t2 nt2 => ?_⟩⟩
          have ndt2 : d ≠ t2 := ne_of_none upd_same nt2
          refine ⟨t2, _, rfl, SqT.of upd_same, rfl, _, _, rfl, _, _, rfl, _, rfl, d, _, rfl, set_left (by rw [upd_ne ndt2]; exact upd_same) _, rfl, _, rfl, q _ _ ((((But.refl : But d H H).new nt).upd.upd.upd).new nt2).upd ?_ (Int.emod_nonneg _ (by omega)) (Int.emod_lt_of_pos _ m0)⟩
          have nlt2 : l ≠ t2 := ne_of_none (by rw [upd_ne nld, upd_ne nld, upd_ne nld, upd_ne nlt]; exact hl) nt2
          exact ⟨ns, a + 1, _, upd_same, by rw [upd_ne nld, upd_ne nlt2, upd_ne nld, upd_ne nld, upd_ne nld, upd_ne nlt]; exact hl, hne, hlen, by omega, by push_cast; omega⟩
        · refine ⟨_, rfl, d, _, rfl, get_left upd_same, .inl ⟨_, rfl, _, rfl, _, _, rfl, rfl, m0, _, rfl, d, _, rfl, get_left upd_same, _, rfl, _, _, rfl, rfl, wide_div (b := 64) m0 (by omega) (by decide) (by decide), (by show 2 ≤ sizeLine; decide), fun t2 nt2 => ?_⟩⟩
          have ndt2 : d ≠ t2 := ne_of_none upd_same nt2
          refine ⟨t2, _, rfl, SqT.of upd_same, rfl, _, _, rfl, _, _, rfl, _, rfl, d, _, rfl, set_left (by rw [upd_ne ndt2]; exact upd_same) _, rfl, _, rfl, q _ _ ((((But.refl : But d H H).new nt).upd.upd).new nt2).upd ?_ (Int.emod_nonneg _ (by omega)) (Int.emod_lt_of_pos _ m0)⟩
          have nlt2 : l ≠ t2 := ne_of_none (by rw [upd_ne nld, upd_ne nld, upd_ne nlt]; exact hl) nt2
          exact ⟨ns, a + 1, _, upd_same, by rw [upd_ne nld, upd_ne nlt2, upd_ne nld, upd_ne nld, upd_ne nlt]; exact hl, hne, hlen, by omega, by push_cast; omega⟩
      · refine iteF ?_
        refine ⟨_, rfl, d, _, rfl, get_left upd_same, .inl ⟨_, rfl, _, rfl, _, _, rfl, rfl, m0, _, rfl, d, _, rfl, get_left upd_same, _, rfl, _, _, rfl, rfl, wide_div (b := 64) m0 (by omega) (by decide) (by decide), (by show 2 ≤ sizeLine; decide), fun t2 nt2 => ?_⟩⟩
        have ndt2 : d ≠ t2 := ne_of_none upd_same nt2
        refine ⟨t2, _, rfl, SqT.of upd_same, rfl, _, _, rfl, _, _, rfl, _, rfl, d, _, rfl, set_left (by rw [upd_ne ndt2]; exact upd_same) _, rfl, _, rfl, q _ _ ((((But.refl : But d H H).new nt).upd.upd).new nt2).upd ?_ (Int.emod_nonneg _ (by omega)) (Int.emod_lt_of_pos _ m0)⟩
        have nlt2 : l ≠ t2 := ne_of_none (by rw [upd_ne nld, upd_ne nld, upd_ne nlt]; exact hl) nt2
        exact ⟨ns, a + 1, _, upd_same, by rw [upd_ne nld, upd_ne nlt2, upd_ne nld, upd_ne nld, upd_ne nlt]; exact hl, hne, hlen, by omega, by push_cast; omega⟩
    · refine ⟨_, rfl, d, _, rfl, get_left hd, .inl ⟨_, rfl, _, rfl, _, _, rfl, rfl, m0, _, rfl, d, _, rfl, get_left hd, _, rfl, _, _, rfl, rfl, wide_div (b := 64) m0 (by omega) (by decide) (by decide), (by show 2 ≤ sizeLine; decide), fun t nt => ?_⟩⟩
      have ndt : d ≠ t := ne_of_none hd nt
      refine ⟨t, _, rfl, SqT.of upd_same, rfl, _, _, rfl, _, _, rfl, _, rfl, d, _, rfl, set_left (by rw [upd_ne ndt]; exact hd) _, rfl, _, rfl, q _ _ (((But.refl : But d H H)).new nt).upd ?_ (Int.emod_nonneg _ (by omega)) (Int.emod_lt_of_pos _ m0)⟩
      exact ⟨ns, a, _, upd_same, by rw [upd_ne (ne_of hl hd (by intro z; cases z)), upd_ne (ne_of_none hl nt)]; exact hl, hne, hlen, by omega, by push_cast; omega⟩
end
end Toy


namespace Toy
open PySem L2
section
variable {P : Program} {w : World} {K : PySem.W.Frag} {mg : Str → Option Value} {base : Heap}
theorem cut63 (ns : List Int) (h : ns.length ≤ 63) : cutV (ns.map V.int) none (some 63) = ns.map V.int := by
  unfold cutV
  rw [show HT.sIx (ns.map V.int).length (ns.map V.int).length (some 63) = min 63 (ns.map V.int).length from HT.sIx_nat _ _ 63, HT.sIx_none, List.length_map, show min 63 ns.length = ns.length by omega, List.drop_zero, Nat.sub_zero]
  exact List.take_of_length_le (by rw [List.length_map]; exact Nat.le_refl _)
theorem merge_tp (l : Addr) : mergeK [] [(kC, V.ref l), (kA, V.int 0), (kL, V.int 0)] = tp l 0 0 := by
  unfold mergeK
  simp only [List.foldl_cons, List.foldl_nil]
  unfold putK
  simp [k_ca, k_cl, k_al]
  rfl
def spBegin (K : PySem.W.Frag) : Sp := fun vs H Q _ => ∃ (a : Addr) (ns : List Int), vs = [.ref a] ∧ SqL K H a (ns.map V.int) ∧ ns.length ≤ 63 ∧ ∀ H' d l, Same H H' → H d = none → H l = none → l ≠ d → Tape H' d l 0 → Q (.ref d) H'
theorem scB : FnScope ["_law_script"] ["_law_script"] (defScope sBegin) := ⟨rfl, rfl, rfl, by decide +kernel, rfl, by decide +kernel, by decide +kernel⟩
theorem same_new {H H1 : Hp} {p : Addr} {u : HO} (a : Same H H1) (hp : H1 p = none) : Same H (upd H1 p u) := fun x o e => by
  rw [upd_ne (ne_of_none (a x o e) hp)]
  exact a x o e
theorem ok_begin {f : Addr} {fd : FuncData} (F : Fun K "_law_begin" "_law_begin" sBegin f fd) : FnOk P w K mg base CX0 1 f fd ["_law_script"] (spBegin K) := by
  refine F.ok scB (fun vs H Q E h => ?_) (fun cdv A outer s H vs Q E hr h => ?_)
  · obtain ⟨a, ns, rfl, _⟩ := h
    rfl
  · obtain ⟨a, ns, rfl, hS, hlen, q⟩ := h
    refine ⟨_, pss_one (ps_ret (pe_disp (pps_cons pe_str (pe_orT (pe_slice sl_list (pv 0) po_none (po_some pe_int)) (pe_one (pe_lst (pa_cons pe_int pa_nil)))) (pps_cons pe_str pe_int (pps_cons pe_str pe_int pps_nil))) (by rfl) (by rfl) (fun z => by cases z) (by decide))), ?_⟩
    intro p np
    have s1 : Same H (upd H p (.dK [])) := same_new (fun _ _ e => e) np
    refine ⟨_, rfl, 63, rfl, a, _, rfl, s1.seq hS, fun c nc => ?_⟩
    have npc : p ≠ c := ne_of_none upd_same nc
    refine ⟨_, .inl ⟨_, SqL.of upd_same, rfl⟩, ?_⟩
    have fin : ∀ (H2 : Hp) (l : Addr) (ms : List Int), H l = none → Same (upd H p (.dK [])) H2 → H2 l = some (.lst (ms.map V.int)) → ms ≠ [] → ms.length ≤ 1000 → Q (.ref p) (upd H2 p (.dK (mergeK [] [(kC, V.ref l), (kA, V.int 0), (kL, V.int 0)]))) := by
      intro H2 l ms nl s2 hl h1 h2
      have npl : l ≠ p := ne_of hl (s2 _ _ upd_same) (by intro z; cases z)
      rw [merge_tp]
      refine q _ p l (fun b o e => ?_) np nl npl ⟨ms, 0, 0, upd_same, by rw [upd_ne npl]; exact hl, h1, h2, Int.le_refl _, Int.le_refl _⟩
      rw [upd_ne (ne_of_none e np)]
      exact s2 _ _ (s1 _ _ e)
    refine ite2 (fun c1 => ?_) (fun c1 => ?_)
    · refine ⟨Eq.trans (upd_ne npc) upd_same, [(kC, V.ref c), (kA, V.int 0), (kL, V.int 0)], rfl, (by show 3 ≤ 15; decide), fin _ c ns (by rw [upd_ne npc.symm] at nc; exact nc) (same_new (fun _ _ e => e) nc) (by rw [upd_same, cut63 ns hlen]) ?_ (by omega)⟩
      intro z
      rw [z] at c1
      exact Bool.false_ne_true c1
    · refine ⟨(by show 1 ≤ sizeLine; decide), fun e ne => ?_⟩
      have npe : p ≠ e := ne_of_none (Eq.trans (upd_ne npc) upd_same) ne
      refine ⟨Eq.trans (upd_ne npe) (Eq.trans (upd_ne npc) upd_same), [(kC, V.ref e), (kA, V.int 0), (kL, V.int 0)], rfl, (by show 3 ≤ 15; decide), fin _ e [0] (by rw [upd_ne (ne_of_none upd_same ne).symm, upd_ne npe.symm] at ne; exact ne) (same_new (same_new (fun _ _ e => e) nc) ne) upd_same (by decide) (by decide)⟩
end
end Toy


namespace L2
open PySem PySem.Spec PyProof.Rows
/-! The law's own def, run by its caller alone (so that what runs around it is known: repr asks that). -/
/-- the body of the law, in the caller's surroundings -/
def BodyOk (P : Program) (w : World) (K : PySem.W.Frag) (mg : Str → Option Value) (base : Heap) (k : Nat) (N : List Str) (qual : Str) (sc : Scope) (body : List Stmt) (f : Addr) (sp : Sp) : Prop :=
  ∀ (cdv : Value) (s : Shared) (H : Hp) (vs : List V) (Q : VK) (E : XK), Room k (callerA.deeper (envOfC qual sc s.heap.objs.size f cdv)) → sp vs H Q E →
    ∃ t, PSs (cxOf CX0 P w K mg base N qual sc f cdv callerA [] s H E) body t ∧ t { nx := fun _ H' => Q .non H', rt := Q } (start N vs) H
section
variable {P : Program} {w : World} {K : PySem.W.Frag} {mg : Str → Option Value} {base : Heap} {k : Nat} {f : Addr} {x qual : Str} {params : Arguments} {body : List Stmt} {sc : Scope} {N ps : List Str} {sp : Sp} {fd : FuncData}
theorem body_run (F : FunD K x qual params body sc [] [] f fd) (S : FnScope N ps sc) (B : BodyOk P w K mg base k N qual sc body f sp) {s : Shared} {H : Hp} {args : Args} {us : List Value} {vs : List V} {Q : VK} {E : XK} (hr : Room (k + 1) callerA)
    (e0 : Env0 P w K mg base callerA [] s H) (hb : BindsTo s fd args (ps.zip us)) (r : Vals vs us) (hl : vs.length = ps.length) (h : sp vs H Q E) : codeAny (model P w) callerA (.call (.ref f) args) (CR CX0 [] P w H s Q E) s := by
  obtain ⟨oc, od, dV, kV, doc, pm, an, cdv, ct, osl, rfl, lk, hcd, _, _⟩ := F.ex
  have up : ∀ b o, base.get? b = some o → s.heap.get? b = some o := fun b o e => (e0.bs b o e).1
  have KX : K.In s.heap := e0.mod.kin.keeps up
  have kinds : ∀ y ∈ ps.zip us, sc.names.lookup y.1 = some .local ∨ (sc.names.lookup y.1 = some .cell ∧ ((cellsFrom (s.heap.objs.size + 1) sc.names []).lookup y.1).isSome = true) := by
    rintro ⟨n, v⟩ hy
    exact (S.par n (List.of_mem_zip hy).1).imp id fun q => ⟨q, PySem.W.cellsFrom_some _ _ _ (.inl q)⟩
  refine codeAny_call_function hr.depth (KX _ _ lk) rfl S.co S.gen rfl (PySem.W.codeRec_of KX hcd) (hb _ _ _ _ (wpAny_newFunctionEnv_cells S.kind kinds fun env he s1 x => ?_))
  subst he
  obtain ⟨t, ht, hq⟩ := B cdv s H vs Q E (hr.deeper _) h
  refine ⟨(e0.mod.nolimit.keeps up).keeps x.toInCall.keep, codeAny_func (wpAny_mono (ht.run [] s1 (start N vs) H _ (inv_start S hr.hd e0 hl r x) hq) (fun fl s' hs => ?_) fun e s' hs => hs)⟩
  cases fl with
  | ret u =>
    obtain ⟨v, σ', H', J, rv, q⟩ := hs
    exact ⟨v, H', J.os, J.bare, J.base, J.hok, rv, q⟩
  | next =>
    obtain ⟨σ', H', J, q⟩ := hs
    exact ⟨V.non, H', J.os, J.bare, J.base, J.hok, rfl, q⟩
  | brk =>
    obtain ⟨_, _, _, q⟩ := hs
    exact False.elim q
  | cont =>
    obtain ⟨_, _, _, q⟩ := hs
    exact False.elim q
end
end L2
namespace L2
open PySem PySem.Spec PyProof.Rows
section
variable {P : Program} {w : World} {K : PySem.W.Frag} {mg mb : Str → Option Value} {k : Nat} {a fa : Addr} {x qual nm : Str} {params : Arguments} {body : List Stmt} {sc : Scope} {N : List Str} {sp : Sp} {fd : FuncData} {s : Shared} {vs : List Value} {ns : List Int}
/-- where the abstract heap tracks the script alone (or nothing) -/
theorem ground_of {H : Hp} (KX : K.In s.heap) (g : s.heap.Ns mainGlobals mg) (b : s.heap.Ns builtinsNs mb) (bb : ∀ x : Str, x ≠ "__name__" → mb x = bootBuiltins x) (lim : s.heap.NoLimit) (gen : s.gens = #[])
    (ha : s.heap.get? a = some { cls := .type "list", data := .seq vs.toArray }) (hok : HOk P w H s.heap) (only : ∀ c, H c ≠ none → c = a) (out : H a ≠ none → K.lookup a = none) :
    ∃ base : Heap, K.In base ∧ base.Ns mainGlobals mg ∧ Env0 P w K mg base callerA [] s H := by
  have get : ∀ {c : Addr} {o : Obj}, s.heap.get? c = some o → H c = none → (hidT s.heap H).get? c = some o := fun e n => hidT_get e n
  have tab : ∀ {c : Addr} {m : Str → Option Value}, s.heap.Ns c m → (hidT s.heap H).Ns c m := by
    rintro c m ⟨o, es, ep, e, d, r⟩
    refine ⟨o, es, ep, get e (Classical.byContradiction fun q => ?_), d, r⟩
    have ca := only c q
    subst ca
    rw [ha] at e
    cases e
    cases (show Data.seq vs.toArray _ = Data.dict es ep from d)
  have kin : K.In (hidT s.heap H) := fun c o e => get (KX c o e) (Classical.byContradiction fun q => by
    have ca := only c q
    subst ca
    rw [out q] at e
    cases e)
  obtain ⟨mc, l1, l2⟩ := lim
  exact ⟨hidT s.heap H, kin, tab g, rfl, ⟨kin, tab g, ⟨mb, tab b, bb⟩, mc, tab l1, l2⟩, fun c o e => of_hidT e, Nat.le_of_eq (hidT_size _ _), trivial, (fun c hc => nomatch hc), hok, .of_eq gen⟩
theorem law_run (F : FunD K nm qual params body sc [] [] fa fd) (S : FnScope N [x] sc) (B : ∀ base : Heap, K.In base → base.Ns mainGlobals mg → BodyOk P w K mg base k N qual sc body fa sp) (hb : ∀ (s : Shared) (u : Value), BindsTo s fd ⟨[u], []⟩ [(x, u)]) (hr : Room (k + 1) callerA)
    (hsp : ∀ H : Hp, SqL K H a (ns.map V.int) → sp [.ref a] H (fun v _ => v = .bl true) fun _ _ _ => False)
    (KX : K.In s.heap) (g : s.heap.Ns mainGlobals mg) (b : s.heap.Ns builtinsNs mb) (bb : ∀ x : Str, x ≠ "__name__" → mb x = bootBuiltins x) (lim : s.heap.NoLimit) (gen : s.gens = #[])
    (ha : s.heap.get? a = some { cls := .type "list", data := .seq vs.toArray }) (hi : IntsAre vs ns) (hl : ns.length ≤ sizeLine) :
    codeAny (model P w) callerA (.call (.ref fa) ⟨[.ref a], []⟩) (fun r s' => r = .ok (.ret (.bool true)) ∧ OldK s.heap s'.heap ∧ s'.os = s.os ∧ AllBare s'.gens) s := by
  have run : ∀ H : Hp, SqL K H a (ns.map V.int) → HOk P w H s.heap → (∀ c, H c ≠ none → c = a) → (H a ≠ none → K.lookup a = none) → (∀ c u, H c = some u → ∃ o xs, u = .frz o (.lst xs)) →
      codeAny (model P w) callerA (.call (.ref fa) ⟨[.ref a], []⟩) (fun r s' => r = .ok (.ret (.bool true)) ∧ OldK s.heap s'.heap ∧ s'.os = s.os ∧ AllBare s'.gens) s := by
    intro H hS hok only out frz
    obtain ⟨base, k1, k2, e0⟩ := ground_of KX g b bb lim gen ha hok only out
    refine codeAny_mono (body_run (us := [.ref a]) (vs := [.ref a]) F S (B base k1 k2) hr e0 (hb s (.ref a)) (.cons rfl .nil) rfl (hsp H hS)) fun r s' q => ?_
    cases r with
    | error e => exact False.elim q
    | ok fl =>
      cases fl with
      | next => exact False.elim q
      | brk => exact False.elim q
      | cont => exact False.elim q
      | ret u =>
        obtain ⟨v, H', os, bare, un, hok', rv, ev⟩ := q
        have ev' : v = .bl true := ev
        subst ev'
        obtain rfl : u = Value.bool true := rv
        refine ⟨rfl, OldK.of_keep fun c o e => ?_, os, bare⟩
        cases q : H c with
        | none => exact un.keep c o e q (fun z => nomatch z) (fun z => nomatch z)
        | some u =>
          obtain ⟨ob, xs, rfl⟩ := frz c u q
          obtain ⟨e1, _⟩ := hok c _ q
          obtain ⟨e2, _⟩ := hok' c _ (un.frzs c ob _ q)
          rw [e] at e1
          cases e1
          exact e2
  have rv := vals_ints hi
  cases hk : K.lookup a with
  | some o =>
    have e := KX a o hk
    rw [ha] at e
    cases e
    exact run (fun _ => none) (.inr ⟨_, vs.toArray, _, hk, rfl, rfl, rfl, by rw [List.size_toArray, hi.length]; exact hl, by simpa using rv⟩) (fun c u z => nomatch z) (fun c z => absurd rfl z) (fun z => absurd rfl z) fun c u z => nomatch z
  | none =>
    refine run (fun c => if c = a then some (.frz { cls := .type "list", data := .seq vs.toArray } (.lst (ns.map V.int))) else none) (.inl (.inr ⟨{ cls := .type "list", data := .seq vs.toArray }, if_pos rfl⟩)) (fun c u z => ?_)
      (fun c z => Classical.byContradiction fun q => z (if_neg q)) (fun _ => hk) fun c u z => ?_
    · by_cases hc : c = a
      · have z' := (if_pos hc).symm.trans z
        cases z'
        subst hc
        exact ⟨ha, by rw [List.length_map]; exact hl, vs, _, rv, ha⟩
      · cases (if_neg hc).symm.trans z
    · by_cases hc : c = a
      · cases (if_pos hc).symm.trans z
        exact ⟨_, _, rfl⟩
      · cases (if_neg hc).symm.trans z
end
/-- the end -/
theorem walkG {l : PySem.W.OpenLaw} {n k : Nat} {q : Program} {loose : List Str} {XP : (Str → Option Value) → Heap → Prop} {YP : World → Heap → Prop} {d : DefRec} {x : Str} (hn : l.most = some n) (hn2 : n ≤ sizeLine) (hdf : d.params.defaults = []) (hr : Room (k + 1) callerA)
    (F : ∀ (w : World) (mg : Str → Option Value) (fa : Addr) (h : Heap), YP w h → h.Ns mainGlobals mg → mg d.name = some (.ref fa) →
      ∃ (K : PySem.W.Frag) (fd : FuncData) (nm qual : Str) (params : Arguments) (body : List Stmt) (sc : Scope) (N : List Str) (sp : Sp), K.In h ∧ FunD K nm qual params body sc [] [] fa fd ∧ FnScope N [x] sc ∧ (∀ (s : Shared) (u : Value), BindsTo s fd ⟨[u], []⟩ [(x, u)]) ∧
        (∀ (H : Hp) (a : Addr) (ns : List Int), ns.length ≤ n → SqL K H a (ns.map V.int) → sp [.ref a] H (fun v _ => v = .bl true) fun _ _ _ => False) ∧
        ∀ base : Heap, K.In base → base.Ns mainGlobals mg → BodyOk l.prog w K mg base k N qual sc body fa sp) :
    PySem.W.WalkO q loose XP YP l.row.toRowW d [] (fun f vs => PySem.call f vs) := by
  refine Att.attach_call hn hdf fun w s₀ s₁ mg mb fa o pm cd doc a vs ns G Y ho hd hcd hmg hobj hints hlen hg => ?_
  obtain ⟨K, fd, nm, qual, params, body, sc, N, sp, KX, FD, S, hb, hsp, B⟩ := F w mg fa _ Y G.T.g hmg
  exact law_run FD S B hb hr (fun H hS => hsp H a ns hlen hS) KX G.T.g G.T.b G.T.builtins G.T.nolimit hg hobj hints (Nat.le_trans hlen hn2)
end L2


namespace Toy
open PySem L2
theorem Same.delH {H H' : Hp} (s : Same H H') (z : Addr) : Same (L2.delH H z) (L2.delH H' z) := fun b o e => by
  by_cases h : b = z
  · rw [h, delH_same] at e
    cases e
  · rw [delH_ne h] at e ⊢
    exact s b o e
theorem Same.off {H : Hp} (z : Addr) : Same (L2.delH H z) H := fun b o e => by
  by_cases h : b = z
  · rw [h, delH_same] at e
    cases e
  · rw [delH_ne h] at e
    exact e
theorem But.off {H H' : Hp} {z : Addr} (s : But z H H') : Same (L2.delH H z) (L2.delH H' z) := fun b o e => by
  by_cases h : b = z
  · rw [h, delH_same] at e
    cases e
  · rw [delH_ne h] at e ⊢
    exact s b o h e
theorem Same.but {H H' : Hp} (s : Same H H') (z : Addr) : But z H H' := fun b o _ e => s b o e
theorem few {n : Nat} (h : n ≤ 1000) : n ≤ sizeLine := Nat.le_of_lt (small1000 h)
theorem Tape.same {H H' : Hp} {d l : Addr} {n : Nat} (t : Tape H d l n) (s : Same H H') : Tape H' d l n := by
  obtain ⟨ns, a, f, h1, h2, h3⟩ := t
  exact ⟨ns, a, f, s _ _ h1, s _ _ h2, h3⟩
abbrev partOf (st : Stmt) (i : Nat) : Stmt := (defBody st).getD i (.Pass ⟨0, 0, 0, 0⟩)
end Toy


namespace Toy
open PySem L2 PyProof.Rows
theorem dpStrs {K : PySem.W.Frag} {H : Hp} : ∀ ks : List Str, DpAll K H (ks.map V.str) (ks.map PyData.str)
  | [] => .nil
  | k :: ks => .cons (.str k) (dpStrs ks)
theorem layStrs : ∀ {ks : List Str}, (∀ k ∈ ks, PyData.strOk k = true) → PyData.canLayAll0 (ks.map PyData.str) = true
  | [], _ => by simp [PyData.canLayAll0]
  | k :: ks, h => by
    simp only [List.map_cons, PyData.canLayAll0, PyData.canLay0]
    rw [h k List.mem_cons_self, layStrs fun x hx => h x (List.mem_cons_of_mem _ hx)]
    rfl
theorem depthStrs : ∀ ks : List Str, PyData.depthAll (ks.map PyData.str) ≤ 1
  | [] => by simp [PyData.depthAll]
  | k :: ks => by
    have := depthStrs ks
    simp only [List.map_cons, PyData.depthAll, PyData.depth]
    omega
theorem shapedStrs {ks : List Str} (h : ∀ k ∈ ks, PyData.strOk k = true) : SeqAt.shaped (.list (ks.map PyData.str)) = true := by
  unfold SeqAt.shaped
  have z := depthStrs ks
  rw [show (PyData.list (ks.map PyData.str)).canLay0 = true by simp only [PyData.canLay0]; exact layStrs h, Bool.true_and]
  exact decide_eq_true (by simp only [PyData.depth]; omega)
theorem Tape.at {H : Hp} {d l : Addr} {n : Nat} (t : Tape H d l n) : (∃ o, H d = some o) ∧ ∃ o, H l = some o := by
  obtain ⟨ns, a, f, h1, h2, _⟩ := t
  exact ⟨⟨_, h1⟩, _, h2⟩
theorem Tape.upd {H : Hp} {d l p : Addr} {n : Nat} {u : HO} (t : Tape H d l n) (h1 : d ≠ p) (h2 : l ≠ p) : Tape (L2.upd H p u) d l n := by
  obtain ⟨ns, a, f, e1, e2, e3⟩ := t
  exact ⟨ns, a, f, by rw [upd_ne h1]; exact e1, by rw [upd_ne h2]; exact e2, e3⟩
theorem nodup_fst_put {kvs : List (Key × V)} {k : Key} {v : V} (h : k ∉ kvs.map (·.1)) : putK kvs k v = kvs ++ [(k, v)] := by
  unfold putK
  rw [if_neg]
  simpa using h
theorem merge_new : ∀ (more kvs : List (Key × V)), ((kvs ++ more).map (·.1)).Nodup → mergeK kvs more = kvs ++ more
  | [], kvs, _ => by simp [mergeK]
  | p :: more, kvs, h => by
    have e : mergeK kvs (p :: more) = mergeK (putK kvs p.1 p.2) more := by simp [mergeK]
    have hp : p.1 ∉ kvs.map (·.1) := by
      rw [List.map_append, List.nodup_append] at h
      intro z
      exact h.2.2 _ z _ (by simp) rfl
    rw [e, nodup_fst_put hp, merge_new more (kvs ++ [(p.1, p.2)]) (by simpa using h)]
    simp
theorem same_put {H H1 : Hp} {D : Addr} {u : HO} (s : Same H H1) (n : H D = none) : Same H (upd H1 D u) := fun b o e => by
  rw [upd_ne (ne_of_none e n)]
  exact s _ _ e
theorem same_id {H : Hp} : Same H H := fun _ _ z => z
theorem Tape.more {H : Hp} {d l : Addr} {n m : Nat} (t : Tape H d l n) (h : n ≤ m) : Tape H d l m := by
  obtain ⟨ns, a, f, h1, h2, h3, h4, h5, h6⟩ := t
  exact ⟨ns, a, f, h1, h2, h3, h4, h5, by omega⟩
abbrev sPick : Stmt := top 17
def spPick : Sp := fun vs H Q _ => ∃ (d l p : Addr) (n : Nat) (xs : List V), vs = [.ref d, .ref p] ∧ Tape H d l n ∧ n ≤ 1000000 ∧ H p = some (.lst xs) ∧ xs ≠ [] ∧ xs.length < 1000000 ∧
  ∀ H' v, But d H H' → Tape H' d l (n + 1) → v ∈ xs → Q v H'
section
variable {P : Program} {w : World} {K : PySem.W.Frag} {mg : Str → Option Value} {base : Heap}
theorem scP : FnScope ["_law_tape", "_law_items"] ["_law_tape", "_law_items"] (defScope sPick) := ⟨rfl, rfl, rfl, by decide +kernel, rfl, by decide +kernel, by decide +kernel⟩
theorem ok_pick {f fD : Addr} {fd fdD : FuncData} (F : Fun K "_law_pick" "_law_pick" sPick f fd) (GD : FnOk P w K mg base CX0 1 fD fdD ["_law_tape", "_law_many"] spDraw) (mD : mg "_law_draw" = some (.ref fD)) (kD : PySem.W.keepIn K (.ref fD) = true) (bD : Binds K fdD ["_law_tape", "_law_many"] []) (mLen : mg "len" = none) : FnOk P w K mg base CX0 2 f fd ["_law_tape", "_law_items"] spPick := by
  refine F.ok scP (fun vs H Q E h => ?_) (fun cdv A outer s H vs Q E hr h => ?_)
  · obtain ⟨d, l, p, n, xs, rfl, _⟩ := h
    rfl
  · obtain ⟨d, l, p, n, xs, rfl, hT, hn, hp, hne, hlen, q⟩ := h
    refine ⟨_, pss_one (ps_ret (pe_ix ix_list (pv 1) (pe_call GD hr rfl mD kD bD .nil pass0 (pa_cons (pv 0) (pa_cons (pe_callB call_len_seq (by rfl) mLen PySem.boot_len (pa_cons (pv 1) pa_nil)) pa_nil))) (fun _ _ => rfl))), ?_⟩
    have lp : 0 < xs.length := List.length_pos_iff.mpr hne
    refine ⟨_, rfl, _, rfl, _, rfl, p, _, rfl, .inl (SqL.of hp), d, l, n, _, rfl, hT, hn, (by omega), (by omega), fun H1 r hb hT1 r0 r1 => ?_⟩
    have npd : p ≠ d := by
      obtain ⟨ns, a, f, hd, _⟩ := hT
      exact ne_of hp hd (by intro z; cases z)
    obtain ⟨j, ej⟩ : ∃ j : Nat, r = (j : Int) := ⟨r.toNat, by omega⟩
    have hj : j < xs.length := by omega
    refine ⟨p, xs, _, xs[j], rfl, rfl, SqL.of (hb _ _ npd hp), (by rw [ej]; exact atI_nat (List.getElem?_eq_getElem hj)), q _ _ hb hT1 (List.getElem_mem hj)⟩
end
end Toy


namespace Toy
open PySem PySem.Spec L2 PyProof.Rows PySem.W
theorem same_seqT {K : PySem.W.Frag} {H H' : Hp} {a : Addr} {xs : List V} (e : Same H H') (h : SqT K H a xs) : SqT K H' a xs := by
  rcases h with (h | ⟨o, h⟩) | h
  · exact .inl (.inl (e _ _ h))
  · exact .inl (.inr ⟨o, e _ _ h⟩)
  · exact .inr h
mutual
theorem dpM {K : PySem.W.Frag} {H H' : Hp} (s : Same H H') : ∀ {v : V} {d : PyData}, Dp K H v d → Dp K H' v d
  | _, _, .non => .non
  | _, _, .bl b => .bl b
  | _, _, .int i => .int i
  | _, _, .str x => .str x
  | _, _, .lst h a => .lst (s.seq h) (dpAllM s a)
  | _, _, .tup h a => .tup (same_seqT s h) (dpAllM s a)
theorem dpAllM {K : PySem.W.Frag} {H H' : Hp} (s : Same H H') : ∀ {vs : List V} {ds : List PyData}, DpAll K H vs ds → DpAll K H' vs ds
  | _, _, .nil => .nil
  | _, _, .cons a b => .cons (dpM s a) (dpAllM s b)
end
theorem dpAll_len {K : PySem.W.Frag} {H : Hp} : ∀ {vs : List V} {ds : List PyData}, DpAll K H vs ds → vs.length = ds.length
  | _, _, .nil => rfl
  | _, _, .cons _ t => congrArg Nat.succ (dpAll_len t)
theorem asg_run {te : TE} {g : TG} {rest : TS} {D : Ends} {σ : L2.St} {H : Hp} (h : te σ H fun x H1 => g x σ H1 fun σ2 H2 => rest D σ2 H2) : tSeq (tAsg te g) rest D σ H := h
theorem ret_run {te : TE} {D : Ends} {σ : L2.St} {H : Hp} (h : te σ H D.rt) : tRet te D σ H := h
def Stb (d : Addr) (J : Hp → Prop) : Prop := ∀ H H', But d H H' → J H → J H'
def Dr (d l : Addr) (J : Hp → Prop) (te : TE) (σ : L2.St) (m : Nat) (R : Hp → V → Prop) : Prop := ∀ (H : Hp) (n : Nat) (Q : VK), J H → Tape H d l n → n + m ≤ 900000 → (∀ H' v, But d H H' → Tape H' d l (n + m) → R H' v → Q v H') → te σ H Q
def DrA (d l : Addr) (J : Hp → Prop) (ta : TA) (σ : L2.St) (m : Nat) (R : Hp → List V → Prop) : Prop := ∀ (H : Hp) (n : Nat) (Q : List V → Hp → Prop), J H → Tape H d l n → n + m ≤ 900000 → (∀ H' vs, But d H H' → Tape H' d l (n + m) → R H' vs → Q vs H') → ta σ H Q
section
variable {K : PySem.W.Frag} {d l : Addr} {J : Hp → Prop} {σ : L2.St} {te : TE} {ta : TA} {m m' n : Nat} {R R' : Hp → V → Prop} {RA : Hp → List V → Prop} {k : Str} {ks : List Str}
theorem Dr.mono (h : Dr d l J te σ m R) (k : ∀ H v, R H v → R' H v) (hm : m ≤ m') : Dr d l J te σ m' R' := fun H n Q j t b q => h H n Q j t (by omega) fun H' v b t r => q H' v b (t.more (by omega)) (k _ _ r)
theorem DrA.mono {RB : Hp → List V → Prop} (h : DrA d l J ta σ m RA) (k : ∀ H v, RA H v → RB H v) (hm : m ≤ m') : DrA d l J ta σ m' RB := fun H n Q j t b q => h H n Q j t (by omega) fun H' v b t r => q H' v b (t.more (by omega)) (k _ _ r)
theorem dr_const {c : V} (h : ∀ H, R H c) : Dr d l J (tC c) σ 0 R := fun H n Q _ t _ q => q H c (fun _ _ _ z => z) t (h H)
theorem dr_var {i : Nat} {v : V} (hi : σ[i]? = some (some v)) (h : ∀ H, J H → R H v) : Dr d l J (tVar i) σ 0 R := fun H n Q j t _ q => ⟨v, hi, q H v (fun _ _ _ z => z) t (h H j)⟩
theorem dra_nil (h : ∀ H, RA H []) : DrA d l J tNil σ 0 RA := fun H n Q _ t _ q => q H [] (fun _ _ _ z => z) t (h H)
theorem dra_cons {RB : Hp → List V → Prop} (sj : Stb d J) (h : Dr d l J te σ m R) (r : DrA d l J ta σ m' RA) (st : ∀ H H' v, But d H H' → R H v → R H' v) (hc : ∀ H v vs, R H v → RA H vs → RB H (v :: vs)) : DrA d l J (tCons te ta) σ (m + m') RB :=
  fun H n Q j t b q => h H n _ j t (by omega) fun H1 v b1 t1 r1 => r H1 (n + m) _ (sj _ _ b1 j) t1 (by omega) fun H2 vs b2 t2 r2 => q H2 (v :: vs) (b1.trans b2) (t2.more (by omega)) (hc _ _ _ (st _ _ _ b2 r1) r2)
def AllR (c : Nat) (R : Hp → V → Prop) (H : Hp) (vs : List V) : Prop := vs.length = c ∧ ∀ v ∈ vs, R H v
theorem dal_nil : DrA d l J tNil σ 0 (AllR 0 R) := dra_nil fun _ => ⟨rfl, fun v h => by simp at h⟩
theorem dal_cons {c : Nat} (sj : Stb d J) (sr : ∀ H H' v, But d H H' → R H v → R H' v) (h : Dr d l J te σ m R) (r : DrA d l J ta σ m' (AllR c R)) : DrA d l J (tCons te ta) σ (m + m') (AllR (c + 1) R) :=
  dra_cons sj h r sr fun _ _ _ a b => ⟨by rw [List.length_cons, b.1], fun v hv => by
    rcases List.mem_cons.mp hv with rfl | hv
    · exact a
    · exact b.2 v hv⟩
end
section
variable {P : Program} {w : World} {K : PySem.W.Frag} {mg : Str → Option Value} {base : Heap} {d l : Addr} {J : Hp → Prop} {σ : L2.St} {te : TE} {ta : TA} {m c : Nat} {R : Hp → V → Prop}
/-- a pick of a display -/
theorem dr_pick (sj : Stb d J) (h0 : σ[0]? = some (some (.ref d))) (sr : ∀ H H' v, But d H H' → R H v → R H' v) (r : DrA d l J ta σ m (AllR c R)) (hc : 0 < c ∧ c ≤ 100) : Dr d l J (tCall spPick [] E0 (tCons (tVar 0) (tCons (tLst ta) tNil))) σ (m + 1) R :=
  fun H n Q j t b q => ⟨_, h0, r H n _ j t (by omega) fun H1 vs b1 t1 ⟨hl, r1⟩ => ⟨few (by omega), fun T nT => by
    have s : Same H1 (upd H1 T (.lst vs)) := same_new same_id nT
    refine ⟨d, l, T, n + m, vs, rfl, t1.same s, by omega, upd_same, fun e => by rw [e] at hl; simp at hl; omega, by omega, fun H2 v b2 t2 hv => ?_⟩
    exact q H2 v ((b1.trans (Same.but s d)).trans b2) t2 (sr _ _ _ b2 (sr _ _ _ (Same.but s d) (r1 v hv)))⟩⟩
/-- a pick of a list that stands at a slot, and of a display put behind it -/
theorem dr_pick2 {i : Nat} {p : Addr} {xs : List V} (sj : Stb d J) (h0 : σ[0]? = some (some (.ref d))) (hi : σ[i]? = some (some (.ref p))) (hp : ∀ H, J H → H p = some (.lst xs) ∧ ∀ v ∈ xs, R H v) (sr : ∀ H H' v, But d H H' → R H v → R H' v) (r : DrA d l J ta σ m (AllR c R)) (hc : 0 < c ∧ c + xs.length ≤ 100) : Dr d l J (tCall spPick [] E0 (tCons (tVar 0) (tCons (tOp rCat (tVar i) (tLst ta)) tNil))) σ (m + 1) R :=
  fun H n Q j t b q => ⟨_, h0, ⟨_, hi, r H n _ j t (by omega) fun H1 vs b1 t1 ⟨hl, r1⟩ => ⟨few (by omega), fun T nT => by
    have s : Same H1 (upd H1 T (.lst vs)) := same_new same_id nT
    have j1 := sj _ _ b1 j
    obtain ⟨hp1, hr1⟩ := hp _ j1
    refine ⟨p, T, xs, vs, rfl, rfl, s _ _ hp1, upd_same, few (by omega), fun L nL => ?_⟩
    have s2 : Same H1 (upd (upd H1 T (.lst vs)) L (.lst (xs ++ vs))) := same_new s nL
    refine ⟨d, l, L, n + m, xs ++ vs, rfl, t1.same s2, by omega, upd_same, fun e => ?_, by rw [List.length_append]; omega, fun H2 v b2 t2 hv => ?_⟩
    · have := congrArg List.length e
      simp only [List.length_append, List.length_nil] at this
      omega
    · refine q H2 v ((b1.trans (Same.but s2 d)).trans b2) t2 (sr _ _ _ b2 (sr _ _ _ (Same.but s2 d) ?_))
      rcases List.mem_append.mp hv with z | z
      · exact hr1 v z
      · exact r1 v z⟩⟩⟩
/-- a new list -/
theorem lst_run (sr : ∀ H H' v, But d H H' → R H v → R H' v) (r : DrA d l J ta σ m (AllR c R)) (hc : c ≤ 100) {H : Hp} {n : Nat} {Q : VK} (j : J H) (t : Tape H d l n) (b : n + m ≤ 900000)
    (q : ∀ H' L vs, But d H H' → Tape H' d l (n + m) → L ≠ d → H' L = some (.lst vs) → AllR c R H' vs → Q (.ref L) H') : tLst ta σ H Q :=
  r H n _ j t b fun H1 vs b1 t1 r1 => ⟨few (by have := r1.1; omega), fun L nL => by
    have sL : Same H1 (upd H1 L (.lst vs)) := same_new same_id nL
    have nLd : L ≠ d := by
      obtain ⟨o, ho⟩ := t1.at.1
      exact (ne_of_none ho nL).symm
    exact q _ L vs (b1.trans (Same.but sL d)) (t1.same sL) nLd upd_same ⟨r1.1, fun v hv => sr _ _ _ (Same.but sL d) (r1.2 v hv)⟩⟩
/-- a draw of a number -/
theorem dr_draw {c : Int} (h0 : σ[0]? = some (some (.ref d))) (hc : 0 < c ∧ c < 1000) : Dr d l J (tCall spDraw [] E0 (tCons (tVar 0) (tCons (tC (.int c)) tNil))) σ 1 (fun _ v => ∃ i, v = .int i ∧ 0 ≤ i ∧ i < c) :=
  fun H n Q j t b q => ⟨_, h0, d, l, n, c, rfl, t, by omega, hc.1, by omega, fun H1 r b1 t1 r0 r1 => q H1 _ b1 t1 ⟨r, rfl, r0, r1⟩⟩
/-- a list at a slot, and a display put behind it -/
theorem cat_run {i : Nat} {p : Addr} {xs : List V} (sj : Stb d J) (hi : σ[i]? = some (some (.ref p))) (hp : ∀ H, J H → H p = some (.lst xs) ∧ ∀ v ∈ xs, R H v) (sr : ∀ H H' v, But d H H' → R H v → R H' v) (r : DrA d l J ta σ m (AllR c R)) (hc : c + xs.length ≤ 100) {H : Hp} {n : Nat} {Q : VK} (j : J H) (t : Tape H d l n) (b : n + m ≤ 900000)
    (q : ∀ H' L ys, But d H H' → Tape H' d l (n + m) → L ≠ d → H' L = some (.lst ys) → AllR (xs.length + c) R H' ys → Q (.ref L) H') : tOp rCat (tVar i) (tLst ta) σ H Q :=
  ⟨_, hi, r H n _ j t b fun H1 vs b1 t1 ⟨hl, r1⟩ => ⟨few (by omega), fun T nT => by
    have s : Same H1 (upd H1 T (.lst vs)) := same_new same_id nT
    obtain ⟨hp1, hr1⟩ := hp _ (sj _ _ b1 j)
    refine ⟨p, T, xs, vs, rfl, rfl, s _ _ hp1, upd_same, few (by omega), fun L nL => ?_⟩
    have s2 : Same H1 (upd (upd H1 T (.lst vs)) L (.lst (xs ++ vs))) := same_new s nL
    have nLd : L ≠ d := by
      obtain ⟨o, ho⟩ := t1.at.1
      exact (ne_of_none (s _ _ ho) nL).symm
    refine q _ L (xs ++ vs) (b1.trans (Same.but s2 d)) (t1.same s2) nLd upd_same ⟨by rw [List.length_append, hl], fun v hv => sr _ _ _ (Same.but s2 d) ?_⟩
    rcases List.mem_append.mp hv with z | z
    · exact hr1 v z
    · exact r1 v z⟩⟩
end
theorem nx_run {D : Ends} {σ : L2.St} {H : Hp} (h : D.nx σ H) : tNext D σ H := h
end Toy


namespace Toy
open PySem PySem.Spec L2 PyProof.Rows PySem.W
abbrev sLost : Stmt := top 28
abbrev NLo : List Str := ["_law_call", "e"]
theorem scLo : FnScope NLo ["_law_call"] (defScope sLost) := ⟨rfl, rfl, rfl, by decide +kernel, rfl, by decide +kernel, by decide +kernel⟩
/-- an expression at slots as many as there are names -/
def tLen (n : Nat) (t : TE) : TE := fun σ H Q => σ.length = n → t σ H Q
theorem pe_len {X : Cx} {e : Expr} {t : TE} (n : Nat) (h : PE X e t) (hn : X.N.length = n := by rfl) : PE X e (tLen n t) := ⟨fun pins s σ H Q I z => h.run pins s σ H Q I (z (hn ▸ I.len))⟩
/-- what is known of the class NoPart -/
structure ClsN (K : PySem.W.Frag) (c : Addr) : Prop where
  g : ClG K c
  x : XfC K c
  no : PySem.W.findIn K (.ref c) "place" = some none
  mt : PySem.W.exmOne K (.ref c) (.ref c) = some true
  kit : PySem.W.kitOne K (.ref c) (.type "LookupError") = some true
/-- lost(f): f, tried -/
def TTLost (K : PySem.W.Frag) (c : Addr) : (XK → Hp → VK → Prop) → Hp → VK → Prop := fun tl H Q =>
  tl (fun cls d H' => ∃ (dd : Addr) (v : V) (t : PyData), cls = .ref c ∧ d = some dd ∧ H' dd = some (.xd [("place", v)]) ∧ Shw K H' v t ∧ Q (.str t.shown) H') H (fun _ H' => Q .non H')
section
variable {X : Cx}
theorem lost_gives {q : Str} {g c : Addr} {cdg : Value} (C : ClsN X.K c) (SY : SysD X.K) (hu : X.A.units + 230 < cLine) (hgd : X.A.guards = some []) (hme : X.mg "NoPart" = some (.ref c)) (mI : X.mg "isinstance" = none) (mR : X.mg "repr" = none) (mL : X.mg "LookupError" = none) :
    LamX.GivesTo X NLo "_law_lost" (defScope sLost) g cdg (defBody sLost) "_law_call" q (TTLost X.K c) := by
  intro f c' s H Q tl act hc h
  refine ⟨_, pss_cons (ps_try_as (X := (cxOf C8.CX0 X.prog X.w X.K X.mg X.base NLo "_law_lost" (defScope sLost) g cdg X.A X.stack s H C8.E0).nox) (c := .ref c) (i := 1)
      (tb := fun W D σ H => ∃ Ech : XK, (∀ cls d σ' H', Ech cls d H' → W cls d σ' H') ∧ σ[0]? = some (some (.ref f)) ∧ H c' = some (LamX.CodeO c' q) ∧ tl Ech H (fun _ H' => D.nx σ H'))
      rfl rfl scLo.nd rfl rfl ⟨rfl, by decide, .inl hme⟩ LamX.takes0 (fun W pn xe tk _ => ?_)
      (fun a oe cls d pn hz hf => pss_one (ps_ret (pe_ifExp (pt_val (pe_callB (show CallR _ (.builtin "isinstance") (rIsS X.K a cls d) from call_isS hz hf) (by rfl) mI PyProof.Rows.boot_isinstance (pa_cons (pe_len 2 (pv 1)) (pa_cons (pe_bltn (v := .ty "LookupError") (by rfl) mL (by decide +kernel) rfl) pa_nil))))
        (pe_callB (show CallR _ (.builtin "repr") (rRepA X.K) from call_rep (S := SY) (X := ((cxOf C8.CX0 X.prog X.w X.K X.mg X.base NLo "_law_lost" (defScope sLost) g cdg X.A X.stack s H C8.E0).nox).suite a ((a, oe) :: pn)) (by show X.A.units + 3 + 200 < cLine; omega) hgd) (by rfl) mR (by decide +kernel) (pa_cons (pe_xf C.x C.no hz hf (pe_len 2 (pv 1))) pa_nil)) pe_str))))
    (pss_one (ps_ret pe_non)), ?_⟩
  · refine ⟨fun pins s' σ H' D I h' => ?_⟩
    obtain ⟨Ech, hW, h1, h2, h3⟩ := h'
    exact (pss_one (ps_expr (act W pn xe Ech _ _ tk hW))).run pins s' σ H' D I ⟨h1, h2, h3⟩
  · refine ⟨fun cls d H' => ∃ (dd : Addr) (v : V) (t : PyData), cls = .ref c ∧ d = some dd ∧ H' dd = some (.xd [("place", v)]) ∧ Shw X.K H' v t ∧ Q (.str t.shown) H', fun cls d σ' H' hh => ?_, rfl, hc, h⟩
    obtain ⟨dd, v, t, rfl, rfl, e3, e4, e5⟩ := hh
    have sl : ∀ {a : Addr}, (σ'.set 1 (some (.ref a))).length = 2 → (σ'.set 1 (some (.ref a)))[1]? = some (some (.ref a)) := fun lz => List.getElem?_set_self (by rw [List.length_set] at lz; rw [lz]; decide)
    exact ⟨true, C.mt, fun _ a _ => fun lz => ⟨_, sl lz, c, dd, _, .ty "LookupError", .type "LookupError", true, rfl, rfl, rfl, e3, C.g, .ty _, C.kit, _, rfl, fun lz => ⟨_, sl lz, rfl, rfl, dd, _, v, rfl, e3, rfl, v, t, rfl, e4, e5⟩⟩, fun z => by cases z⟩
end
end Toy


namespace Toy
open PySem PySem.Spec L2 PyProof.Rows PySem.W
/-! ### values of any type -/
inductive Ty (K : PySem.W.Frag) (H : Hp) : V → String → Prop
  | non : Ty K H .non "NoneType"
  | bl (b : Bool) : Ty K H (.bl b) "bool"
  | int (i : Int) : Ty K H (.int i) "int"
  | str (x : Str) : Ty K H (.str x) "str"
  | lst {a : Addr} {xs : List V} : SqL K H a xs → Ty K H (.ref a) "list"
  | tup {a : Addr} {xs : List V} : SqT K H a xs → Ty K H (.ref a) "tuple"
  | dct {a : Addr} {m : List (Key × V)} : H a = some (.dK m) → Ty K H (.ref a) "dict"
theorem Ty.tyx {K : PySem.W.Frag} {H : Hp} {v : V} {nm : String} (h : Ty K H v nm) : TyX K H v (.type nm) := by
  cases h with
  | non => exact .base .non
  | bl b => exact .base (.bl b)
  | int i => exact .base (.int i)
  | str x => exact .base (.str x)
  | lst h =>
    rcases h with (h | ⟨o, h⟩) | ⟨o, vs, n, h1, h2, _⟩
    · exact .base (.lst h)
    · exact .base (.frz h)
    · exact .kList h1 h2
  | tup h =>
    rcases h with (h | ⟨o, h⟩) | ⟨o, vs, n, h1, h2, _⟩
    · exact .base (.tup h)
    · exact .fTuple h
    · exact .kTuple h1 h2
  | dct h => exact .base (.dK h)
theorem Ty.mono {K : PySem.W.Frag} {H H' : Hp} (s : Same H H') {v : V} {nm : String} (h : Ty K H v nm) : Ty K H' v nm := by
  cases h with
  | non => exact .non
  | bl b => exact .bl b
  | int i => exact .int i
  | str x => exact .str x
  | lst h => exact .lst (s.seq h)
  | tup h => exact .tup (same_seqT s h)
  | dct h => exact .dct (s _ _ h)
theorem ty_kits {K : PySem.W.Frag} {H : Hp} {v : V} {nm : String} (h : Ty K H v nm) : PySem.W.kitOne K (.type nm) (.type "tuple") = some (decide (nm = "tuple")) ∧ PySem.W.kitOne K (.type nm) (.type "int") = some (decide (nm = "int" ∨ nm = "bool")) ∧ PySem.W.kitOne K (.type nm) (.type "bool") = some (decide (nm = "bool")) := by
  cases h <;> exact ⟨kit_ty (by decide +kernel), kit_ty (by decide +kernel), kit_ty (by decide +kernel)⟩
/-- is_integer, asked of anything -/
def spIsI (K : PySem.W.Frag) : Sp := fun vs H Q _ => ∃ (v : V) (nm : String), vs = [v] ∧ Ty K H v nm ∧ Q (.bl (decide (nm = "int"))) H
section
variable {P : Program} {w : World} {K : PySem.W.Frag} {mg : Str → Option Value} {base : Heap}
abbrev sIsInt' : Stmt := top 3
theorem scV1' : FnScope ["value"] ["value"] (defScope sIsInt') := ⟨rfl, rfl, rfl, by decide +kernel, rfl, by decide +kernel, by decide +kernel⟩
theorem ok_isI {f : Addr} {fd : FuncData} (F : Fun K "is_integer" "is_integer" sIsInt' f fd) (mI : mg "isinstance" = none) (mB : mg "bool" = none) (mN : mg "int" = none) : FnOk P w K mg base CX0 1 f fd ["value"] (spIsI K) := by
  refine F.ok scV1' (fun vs H Q E h => ?_) (fun cdv A outer s H vs Q E hr h => ?_)
  · obtain ⟨v, nm, rfl, _⟩ := h
    rfl
  · obtain ⟨v, nm, rfl, hv, q⟩ := h
    refine ⟨_, pss_one (ps_ret (pe_and (pe_callB call_isi (by rfl) mI PyProof.Rows.boot_isinstance (pa_cons (pv 0) (pa_cons (pe_bltn (v := .ty "int") (by rfl) mN (by decide +kernel) rfl) pa_nil))) (pe_one (pe_not (pe_callB call_isi (by rfl) mI PyProof.Rows.boot_isinstance (pa_cons (pv 0) (pa_cons (pe_bltn (v := .ty "bool") (by rfl) mB (by decide +kernel) rfl) pa_nil))))))), ?_⟩
    obtain ⟨k1, k2, k3⟩ := ty_kits hv
    refine ⟨_, rfl, _, _, _, _, _, rfl, .ty _, hv.tyx, k2, _, rfl, ite2 (fun c => ?_) (fun c => ?_)⟩
    · refine ⟨_, rfl, _, _, _, _, _, rfl, .ty _, hv.tyx, k3, _, rfl, ?_⟩
      have c' := of_decide_eq_true c
      rw [show (!decide (nm = "bool")) = decide (nm = "int") by
        rcases c' with rfl | rfl <;> decide]
      exact q
    · have e : decide (nm = "int") = false := decide_eq_false fun z => c (decide_eq_true (.inl z))
      rw [e] at q
      exact q
end
end Toy


namespace L2
open PySem PySem.Spec PyProof.Rows
/-! The law's own def, where lambdas are made in it: its code object at c, that one's table at T. -/
def BodyT (P : Program) (w : World) (K : PySem.W.Frag) (mg : Str → Option Value) (base : Heap) (k : Nat) (N : List Str) (qual : Str) (sc : Scope) (body : List Stmt) (f c : Addr) (sp : Sp) : Prop :=
  ∀ (s : Shared) (H : Hp) (vs : List V) (Q : VK) (E : XK), Room k (callerA.deeper (envOfC qual sc s.heap.objs.size f (.ref c))) → sp vs H Q E →
    ∃ t, PSs (cxOf CX0 P w K mg base N qual sc f (.ref c) callerA [] s H E) body t ∧ t { nx := fun _ H' => Q .non H', rt := Q } (start N vs) H
section
variable {P : Program} {w : World} {K : PySem.W.Frag} {mg : Str → Option Value} {base : Heap} {k : Nat} {f c : Addr} {x qual : Str} {params : Arguments} {body : List Stmt} {sc : Scope} {N ps : List Str} {sp : Sp} {fd : FuncData}
theorem body_runT (F : FunD K x qual params body sc [] [] f fd) (hcd0 : fd.code = .ref c) (S : FnScope N ps sc) (B : BodyT P w K mg base k N qual sc body f c sp) {s : Shared} {H : Hp} {args : Args} {us : List Value} {vs : List V} {Q : VK} {E : XK} (hr : Room (k + 1) callerA)
    (e0 : Env0 P w K mg base callerA [] s H) (hb : BindsTo s fd args (ps.zip us)) (r : Vals vs us) (hl : vs.length = ps.length) (h : sp vs H Q E) : codeAny (model P w) callerA (.call (.ref f) args) (CR CX0 [] P w H s Q E) s := by
  obtain ⟨oc, od, dV, kV, doc, pm, an, cdv, ct, osl, rfl, lk, hcd, _, _⟩ := F.ex
  obtain rfl : cdv = .ref c := hcd0
  have up : ∀ b o, base.get? b = some o → s.heap.get? b = some o := fun b o e => (e0.bs b o e).1
  have KX : K.In s.heap := e0.mod.kin.keeps up
  have kinds : ∀ y ∈ ps.zip us, sc.names.lookup y.1 = some .local ∨ (sc.names.lookup y.1 = some .cell ∧ ((cellsFrom (s.heap.objs.size + 1) sc.names []).lookup y.1).isSome = true) := by
    rintro ⟨n, v⟩ hy
    exact (S.par n (List.of_mem_zip hy).1).imp id fun q => ⟨q, PySem.W.cellsFrom_some _ _ _ (.inl q)⟩
  refine codeAny_call_function hr.depth (KX _ _ lk) rfl S.co S.gen rfl (PySem.W.codeRec_of KX hcd) (hb _ _ _ _ (wpAny_newFunctionEnv_cells S.kind kinds fun env he s1 x => ?_))
  subst he
  obtain ⟨t, ht, hq⟩ := B s H vs Q E (hr.deeper _) h
  refine ⟨(e0.mod.nolimit.keeps up).keeps x.toInCall.keep, codeAny_func (wpAny_mono (ht.run [] s1 (start N vs) H _ (inv_start S hr.hd e0 hl r x) hq) (fun fl s' hs => ?_) fun e s' hs => hs)⟩
  cases fl with
  | ret u =>
    obtain ⟨v, σ', H', J, rv, q⟩ := hs
    exact ⟨v, H', J.os, J.bare, J.base, J.hok, rv, q⟩
  | next =>
    obtain ⟨σ', H', J, q⟩ := hs
    exact ⟨V.non, H', J.os, J.bare, J.base, J.hok, rfl, q⟩
  | brk =>
    obtain ⟨_, _, _, q⟩ := hs
    exact False.elim q
  | cont =>
    obtain ⟨_, _, _, q⟩ := hs
    exact False.elim q
end
section
variable {P : Program} {w : World} {K : PySem.W.Frag} {mg mb : Str → Option Value} {k : Nat} {a fa c T : Addr} {x qual nm : Str} {params : Arguments} {body : List Stmt} {sc : Scope} {N : List Str} {sp : Sp} {fd : FuncData} {s : Shared} {vs : List Value} {ns : List Int}
/-- where the abstract heap tracks the script (or not) and the table -/
theorem groundT {H : Hp} (KX : K.In s.heap) (g : s.heap.Ns mainGlobals mg) (b : s.heap.Ns builtinsNs mb) (bb : ∀ x : Str, x ≠ "__name__" → mb x = bootBuiltins x) (lim : s.heap.NoLimit) (gen : s.gens = #[])
    (hT : s.heap.get? T = some { cls := .none, data := .fields #[] }) (nT : K.lookup T = none) (C : PySem.W.CodeHd s.heap c T) (bmain : s.heap.BuiltinsAt mg T)
    (ha : s.heap.get? a = some { cls := .type "list", data := .seq vs.toArray }) (hok : HOk P w H s.heap) (only : ∀ z, H z ≠ none → z = a ∨ z = T) (out : H a ≠ none → K.lookup a = none) :
    ∃ base : Heap, K.In base ∧ base.Ns mainGlobals mg ∧ Env0 P w K mg base callerA [] s H ∧ LamX.TabB base mg c T := by
  have free : ∀ {z : Addr} {o : Obj}, s.heap.get? z = some o → (∀ xs n, o.data ≠ .seq xs n) → o.data ≠ .fields #[] → H z = none := fun {z o} e h1 h2 => Classical.byContradiction fun q => by
    rcases only z q with rfl | rfl
    · rw [ha] at e
      cases e
      exact h1 _ _ rfl
    · rw [hT] at e
      cases e
      exact h2 rfl
  have tab : ∀ {z : Addr} {m : Str → Option Value}, s.heap.Ns z m → (hidT s.heap H).Ns z m := by
    rintro z m ⟨o, es, ep, e, d, r⟩
    exact ⟨o, es, ep, hidT_get e (free e (fun xs n q => by rw [d] at q; cases q) (fun q => by rw [d] at q; cases q)), d, r⟩
  have kin : K.In (hidT s.heap H) := fun z o e => hidT_get (KX z o e) (Classical.byContradiction fun q => by
    rcases only z q with rfl | rfl
    · rw [out q] at e
      cases e
    · rw [nT] at e
      cases e)
  obtain ⟨mc, l1, l2⟩ := lim
  refine ⟨hidT s.heap H, kin, tab g, ⟨rfl, ⟨kin, tab g, ⟨mb, tab b, bb⟩, mc, tab l1, l2⟩, fun z o e => of_hidT e, Nat.le_of_eq (hidT_size _ _), trivial, (fun z hz => nomatch hz), hok, .of_eq gen⟩, ?_⟩
  refine ⟨?_, ?_, ?_⟩
  · obtain ⟨o, us, file, tf, flags, tg, inF, text, tt, e1, r1, r2, r3, rest⟩ := C
    exact ⟨o, us, file, tf, flags, tg, inF, text, tt, hidT_get e1 (free e1 (fun xs n q => by rw [r2] at q; cases q) (fun q => by
      rw [r2] at q
      cases q
      simp at r3)), r1, r2, r3, rest⟩
  · obtain ⟨bm, ob, b1, b2, b3, b4, b5, b6, b7, b8⟩ := bmain
    exact ⟨bm, ob, b1, b2, b3, b4, hidT_get b5 (free b5 (fun xs n q => by rw [b8] at q; cases q) (fun q => by rw [b8] at q; cases q)), b6, b7, b8⟩
  · intro q
    obtain ⟨o, es, ep, e, d, _⟩ := g
    rw [q, hT] at e
    cases e
    cases d
theorem law_runT (F : FunD K nm qual params body sc [] [] fa fd) (hcd0 : fd.code = .ref c) (S : FnScope N [x] sc) (B : ∀ base : Heap, K.In base → base.Ns mainGlobals mg → LamX.TabB base mg c T → BodyT P w K mg base k N qual sc body fa c sp) (hb : ∀ (s : Shared) (u : Value), BindsTo s fd ⟨[u], []⟩ [(x, u)]) (hr : Room (k + 1) callerA)
    (hsp : ∀ H : Hp, H T = some (.tbl #[]) → SqL K H a (ns.map V.int) → sp [.ref a] H (fun v _ => v = .bl true) fun _ _ _ => False)
    (KX : K.In s.heap) (g : s.heap.Ns mainGlobals mg) (b : s.heap.Ns builtinsNs mb) (bb : ∀ x : Str, x ≠ "__name__" → mb x = bootBuiltins x) (lim : s.heap.NoLimit) (gen : s.gens = #[])
    (hT : s.heap.get? T = some { cls := .none, data := .fields #[] }) (nT : K.lookup T = none) (C : PySem.W.CodeHd s.heap c T) (bmain : s.heap.BuiltinsAt mg T)
    (ha : s.heap.get? a = some { cls := .type "list", data := .seq vs.toArray }) (hi : IntsAre vs ns) (hl : ns.length ≤ sizeLine) :
    codeAny (model P w) callerA (.call (.ref fa) ⟨[.ref a], []⟩) (fun r s' => r = .ok (.ret (.bool true)) ∧ OldK s.heap s'.heap ∧ s'.os = s.os ∧ AllBare s'.gens) s := by
  have aT : a ≠ T := fun q => by
    rw [q, hT] at ha
    cases ha
  have run : ∀ H : Hp, H T = some (.tbl #[]) → SqL K H a (ns.map V.int) → HOk P w H s.heap → (∀ z, H z ≠ none → z = a ∨ z = T) → (H a ≠ none → K.lookup a = none) → (∀ z u, z ≠ T → H z = some u → ∃ o xs, u = .frz o (.lst xs)) →
      codeAny (model P w) callerA (.call (.ref fa) ⟨[.ref a], []⟩) (fun r s' => r = .ok (.ret (.bool true)) ∧ OldK s.heap s'.heap ∧ s'.os = s.os ∧ AllBare s'.gens) s := by
    intro H tT hS hok only out frz
    obtain ⟨base, k1, k2, e0, tb⟩ := groundT KX g b bb lim gen hT nT C bmain ha hok only out
    refine codeAny_mono (body_runT (us := [.ref a]) (vs := [.ref a]) F hcd0 S (B base k1 k2 tb) hr e0 (hb s (.ref a)) (.cons rfl .nil) rfl (hsp H tT hS)) fun r s' q => ?_
    cases r with
    | error e => exact False.elim q
    | ok fl =>
      cases fl with
      | next => exact False.elim q
      | brk => exact False.elim q
      | cont => exact False.elim q
      | ret u =>
        obtain ⟨v, H', os, bare, un, hok', rv, ev⟩ := q
        have ev' : v = .bl true := ev
        subst ev'
        obtain rfl : u = Value.bool true := rv
        have stays : ∀ z o, z ≠ T → s.heap.get? z = some o → s'.heap.get? z = some o := fun z o nz e => by
          cases q : H z with
          | none => exact un.keep z o e q (fun y => nomatch y) (fun y => nomatch y)
          | some u =>
            obtain ⟨ob, xs, rfl⟩ := frz z u nz q
            obtain ⟨e1, _⟩ := hok z _ q
            obtain ⟨e2, _⟩ := hok' z _ (un.frzs z ob _ q)
            rw [e] at e1
            cases e1
            exact e2
        obtain ⟨more, hm⟩ := un.tbls T #[] tT
        have gT : s'.heap.get? T = some { cls := .none, data := .fields (#[] ++ more) } := hok' T _ hm
        refine ⟨rfl, ⟨fun z o e => ?_, fun z o e => ?_⟩, os, bare⟩
        · by_cases hz : z = T
          · subst hz
            rw [hT] at e
            cases e
            exact .inr (.inl ⟨(C.tab hT).isCodeTable, rfl, #[], more, rfl, gT⟩)
          · exact .inl (stays z o hz e)
        · by_cases hz : z = T
          · subst hz
            exact ⟨_, gT⟩
          · exact ⟨o, stays z o hz e⟩
  have rv := vals_ints hi
  cases hk : K.lookup a with
  | some o =>
    have e := KX a o hk
    rw [ha] at e
    cases e
    refine run (fun z => if z = T then some (.tbl #[]) else none) (if_pos rfl) (.inr ⟨_, vs.toArray, _, hk, rfl, rfl, rfl, by rw [List.size_toArray, hi.length]; exact hl, by simpa using rv⟩) (fun z u q => ?_) (fun z q => .inr (Classical.byContradiction fun n => q (if_neg n))) (fun q => absurd (if_neg aT) q) fun z u nz q => ?_
    · by_cases hz : z = T
      · cases (if_pos hz).symm.trans q
        subst hz
        exact hT
      · cases (if_neg hz).symm.trans q
    · cases (if_neg nz).symm.trans q
  | none =>
    refine run (fun z => if z = T then some (.tbl #[]) else if z = a then some (.frz { cls := .type "list", data := .seq vs.toArray } (.lst (ns.map V.int))) else none) (if_pos rfl) (.inl (.inr ⟨{ cls := .type "list", data := .seq vs.toArray }, (if_neg aT).trans (if_pos rfl)⟩)) (fun z u q => ?_)
      (fun z q => ?_) (fun _ => hk) fun z u nz q => ?_
    · by_cases hz : z = T
      · cases (if_pos hz).symm.trans q
        subst hz
        exact hT
      · have q1 := (if_neg hz).symm.trans q
        by_cases hc : z = a
        · cases (if_pos hc).symm.trans q1
          subst hc
          exact ⟨ha, by rw [List.length_map]; exact hl, vs, _, rv, ha⟩
        · cases (if_neg hc).symm.trans q1
    · by_cases hz : z = T
      · exact .inr hz
      · by_cases hc : z = a
        · exact .inl hc
        · exact absurd ((if_neg hz).trans (if_neg hc)) q
    · have q1 := (if_neg nz).symm.trans q
      by_cases hc : z = a
      · cases (if_pos hc).symm.trans q1
        exact ⟨_, _, rfl⟩
      · cases (if_neg hc).symm.trans q1
end
/-- the end -/
theorem walkT {l : PySem.W.OpenLaw} {n k : Nat} {q : Program} {loose : List Str} {XP : (Str → Option Value) → Heap → Prop} {YP : World → Heap → Prop} {d : DefRec} {x : Str} (hn : l.most = some n) (hn2 : n ≤ sizeLine) (hdf : d.params.defaults = []) (hr : Room (k + 1) callerA)
    (F : ∀ (w : World) (mg : Str → Option Value) (fa : Addr) (h : Heap), YP w h → h.Ns mainGlobals mg → mg d.name = some (.ref fa) →
      ∃ (K : PySem.W.Frag) (fd : FuncData) (nm qual : Str) (params : Arguments) (body : List Stmt) (sc : Scope) (N : List Str) (sp : Sp) (c T : Addr), K.In h ∧ FunD K nm qual params body sc [] [] fa fd ∧ fd.code = .ref c ∧ FnScope N [x] sc ∧ (∀ (s : Shared) (u : Value), BindsTo s fd ⟨[u], []⟩ [(x, u)]) ∧
        h.get? T = some { cls := .none, data := .fields #[] } ∧ K.lookup T = none ∧ PySem.W.CodeHd h c T ∧
        (∀ (H : Hp) (a : Addr) (ns : List Int), ns.length ≤ n → H T = some (.tbl #[]) → SqL K H a (ns.map V.int) → sp [.ref a] H (fun v _ => v = .bl true) fun _ _ _ => False) ∧
        ∀ base : Heap, K.In base → base.Ns mainGlobals mg → LamX.TabB base mg c T → BodyT l.prog w K mg base k N qual sc body fa c sp) :
    PySem.W.WalkO q loose XP YP l.row.toRowW d [] (fun f vs => PySem.call f vs) := by
  refine Att.attach_call hn hdf fun w s₀ s₁ mg mb fa o pm cd doc a vs ns G Y ho hd hcd hmg hobj hints hlen hg => ?_
  obtain ⟨K, fd, nm, qual, params, body, sc, N, sp, c, T, KX, FD, hc, S, hb, hT, nT, C, hsp, B⟩ := F w mg fa _ Y G.T.g hmg
  have bmain : s₁.heap.BuiltinsAt mg T := by
    obtain ⟨bm, ob, b1, b2, b3, b4, b5, b6⟩ := G.T.bmain
    refine ⟨bm, ob, b1, b2, fun z => ?_, fun z => ?_, b3, b4, b5, b6⟩
    · obtain ⟨o, es, ep, e, dd, _⟩ := G.T.g
      rw [z, e] at b3
      cases b3
      rw [dd] at b6
      cases b6
    · rw [z, hT] at b3
      cases b3
      cases b6
  exact law_runT FD hc S B hb hr (fun H tT hS => hsp H a ns hlen tT hS) KX G.T.g G.T.b G.T.builtins G.T.nolimit hg hT nT C bmain hobj hints (Nat.le_trans hlen hn2)
end L2


namespace Toy
open PySem L2
abbrev sShuf : Stmt := top 18
/-! ### a row of texts in any order -/
theorem erase_perm {α : Type} : ∀ (l : List α) (j : Nat) (h : j < l.length), (l[j] :: l.eraseIdx j).Perm l
  | x :: l, 0, _ => List.Perm.refl _
  | x :: l, j + 1, h => (List.Perm.swap x _ _).trans (.cons x (erase_perm l j (Nat.lt_of_succ_lt_succ h)))
theorem erase_map {α β : Type} (f : α → β) : ∀ (l : List α) (j : Nat), (l.map f).eraseIdx j = (l.eraseIdx j).map f
  | [], _ => rfl
  | _ :: _, 0 => rfl
  | x :: l, j + 1 => congrArg (f x :: ·) (erase_map f l j)
/-- all that stood stands, but at d, at a list L and at a list G -/
def spShuf : Sp := fun vs H Q _ => ∃ (d l p : Addr) (n : Nat) (ks : List Str), vs = [.ref d, .ref p] ∧ Tape H d l n ∧ n ≤ 900000 ∧ H p = some (.lst (ks.map V.str)) ∧ ks.length ≤ 20 ∧ (∀ k ∈ ks, PyData.strOk k = true) ∧
  ∀ H' R (ys : List Str), But d H H' → Tape H' d l (n + ks.length) → H R = none → H' R = some (.lst (ys.map V.str)) → ys.Perm ks → Q (.ref R) H'
section
variable {P : Program} {w : World} {K : PySem.W.Frag} {mg : Str → Option Value} {base : Heap}
theorem scSh : FnScope ["_law_tape", "_law_items", "_law_left", "_law_got"] ["_law_tape", "_law_items"] (defScope sShuf) := ⟨rfl, rfl, rfl, by decide +kernel, rfl, by decide +kernel, by decide +kernel⟩
theorem ok_shuf {f fD : Addr} {fd fdD : FuncData} (F : Fun K "_law_shuffled" "_law_shuffled" sShuf f fd) (GD : FnOk P w K mg base CX0 1 fD fdD ["_law_tape", "_law_many"] spDraw) (mD : mg "_law_draw" = some (.ref fD)) (kD : PySem.W.keepIn K (.ref fD) = true) (bD : Binds K fdD ["_law_tape", "_law_many"] []) (mLen : mg "len" = none) (mList : mg "list" = none) :
    FnOk P w K mg base CX0 2 f fd ["_law_tape", "_law_items"] spShuf := by
  refine F.ok scSh (fun vs H Q E h => ?_) (fun cdv A outer s H vs Q E hr h => ?_)
  · obtain ⟨d, l, p, n, ks, rfl, _⟩ := h
    rfl
  · obtain ⟨d, l, p, n, ks, rfl, hT, hn, hp, hlen, hok, q⟩ := h
    refine ⟨_, pss_cons (ps_par (i := 2) (j := 3) rfl scSh.nd rfl rfl (by decide) rfl rfl (pa_cons (pe_callTy call_list_of (by rfl) mList (by decide +kernel) (pa_cons (pv 1) pa_nil)) (pa_cons (pe_lst pa_nil) pa_nil)) (by rfl))
      (pss_cons (ps_while PassesOwn.never (pt_cmpR (op_neD hr.units) (pv 2) (pe_lst pa_nil) (nomark _))
        (pss_one (ps_expr (pe_bm PySem.F.plainAttrs_list PySem.F.slot_list_append PySem.F.type_list_append mt_append (pv 3) (pa_cons (pe_bm PySem.F.plainAttrs_list PySem.F.slot_list_pop PySem.F.type_list_pop mt_popAt (pv 2)
          (pa_cons (pe_call GD hr (by rfl) mD kD bD .nil pass0 (pa_cons (pv 0) (pa_cons (pe_callB call_len_seq (by rfl) mLen PySem.boot_len (pa_cons (pv 2) pa_nil)) pa_nil))) pa_nil)) pa_nil)))))
      (pss_one (ps_ret (pv 3)))), ?_⟩
    refine ⟨_, rfl, p, _, rfl, .inl (SqL.of hp), fun L nL => ⟨Nat.zero_le _, fun G nG => ⟨_, _, rfl, ?_⟩⟩⟩
    have nLG : L ≠ G := ne_of_none upd_same nG
    have nG0 : H G = none := by rw [upd_ne nLG.symm] at nG; exact nG
    have hd0 : ∃ o, H d = some o := by
      obtain ⟨ns, a, f, h1, _⟩ := hT
      exact ⟨_, h1⟩
    obtain ⟨od, hd0⟩ := hd0
    have ndL : d ≠ L := ne_of_none hd0 nL
    have hl0 : ∃ o, H l = some o := by
      obtain ⟨ns, a, f, _, h1, _⟩ := hT
      exact ⟨_, h1⟩
    obtain ⟨ol, hl0⟩ := hl0
    have nlL : l ≠ L := ne_of_none hl0 nL
    have nlG : l ≠ G := ne_of_none hl0 nG0
    have ndG : d ≠ G := ne_of_none hd0 nG0
    refine ⟨fun m σ H' => ∃ xs ys : List Str, m = xs.length ∧ σ = [some (.ref d), some (.ref p), some (.ref L), some (.ref G)] ∧ (xs ++ ys).Perm ks ∧ Tape H' d l (n + ys.length) ∧ H' L = some (.lst (xs.map V.str)) ∧ H' G = some (.lst (ys.map V.str)) ∧ But d H H',
      ⟨_, ks, [], rfl, rfl, by rw [List.append_nil], (hT.same (same_new (same_new (fun _ _ z => z) nL) nG)), (upd_ne nLG).trans upd_same, upd_same, Same.but (same_new (same_new (fun _ _ z => z) nL) nG) d⟩, fun m σ H1 hW => ?_⟩
    obtain ⟨xs, ys, rfl, rfl, hpm, hT1, hL, hG, hb⟩ := hW
    have okx : ∀ k ∈ xs, PyData.strOk k = true := fun k hk => hok k (hpm.mem_iff.mp (List.mem_append_left _ hk))
    have lens : xs.length + ys.length = ks.length := by rw [← List.length_append]; exact hpm.length_eq
    refine ⟨_, rfl, Nat.zero_le _, fun e ne => ⟨.list (xs.map PyData.str), .list [], .lst (SqL.of ((upd_ne (ne_of_none hL ne)).trans hL)) (dpStrs xs), .lst (SqL.of upd_same) .nil, shapedStrs okx, by decide +kernel, _, rfl, ?_⟩⟩
    have s1 : Same H1 (upd H1 e (.lst [])) := same_new (fun _ _ z => z) ne
    cases xs with
    | nil =>
      have hq : (!PyData.eqv (.list (List.map PyData.str [])) (.list [])) = false := by decide +kernel
      rw [hq]
      refine iteF ⟨_, rfl, q _ G ys (hb.trans (Same.but s1 d)) (hT1.same s1 |> fun t => by
        have e2 : ys.length = ks.length := by simpa using lens
        rw [e2] at t
        exact t) nG0 (s1 _ _ hG) (by simpa using hpm)⟩
    | cons x xs =>
      have hq : (!PyData.eqv (.list (List.map PyData.str (x :: xs))) (.list [])) = true := by
        simp [PyData.eqv, PyData.eqvAll]
      rw [hq]
      refine iteT ?_
      have hL1 := s1 _ _ hL
      have hG1 := s1 _ _ hG
      have lp : (List.map V.str (x :: xs)).length = xs.length + 1 := by rw [List.length_map]; rfl
      refine ⟨fun σ' H' => ∃ xs' ys' : List Str, xs.length = xs'.length ∧ σ' = [some (.ref d), some (.ref p), some (.ref L), some (.ref G)] ∧ (xs' ++ ys').Perm ks ∧ Tape H' d l (n + ys'.length) ∧ H' L = some (.lst (xs'.map V.str)) ∧ H' G = some (.lst (ys'.map V.str)) ∧ But d H H',
        fun σ' H' ⟨xs', ys', h1, h2⟩ => ⟨xs.length, Nat.lt_succ_self _, xs', ys', h1, h2⟩, ?_⟩
      have lens' : xs.length + 1 + ys.length = ks.length := by simpa using lens
      refine ⟨_, rfl, .inl ⟨rfl, _, SqL.of hG1⟩, _, rfl, .inl ⟨rfl, _, SqL.of hL1⟩, _, rfl, _, rfl, L, _, rfl, .inl (SqL.of hL1), d, l, n + ys.length, _, rfl, hT1.same s1, by omega, by rw [lp]; omega, by rw [lp]; omega, fun H2 r b2 t2 r0 r1 => ?_⟩
      rw [lp] at r1
      obtain ⟨j, rfl⟩ : ∃ j : Nat, r = (j : Int) := ⟨r.toNat, by omega⟩
      have hj : j < (x :: xs).length := by simp only [List.length_cons]; omega
      have hL2 := b2 _ _ ndL.symm hL1
      have hG2 := b2 _ _ ndG.symm hG1
      have g1 : (List.map V.str (x :: xs))[j]? = some (.str (x :: xs)[j]) := by rw [List.getElem?_map, List.getElem?_eq_getElem hj]; rfl
      refine ⟨L, _, _, j, _, rfl, rfl, hL2, by omega, by omega, by rw [seqIndex_of (by omega) (by rw [lp]; omega)]; simp, g1, ?_⟩
      refine ⟨G, _, _, rfl, rfl, (upd_ne nLG.symm).trans hG2, small1000 (by rw [List.length_map]; omega), (x :: xs).eraseIdx j, ys ++ [(x :: xs)[j]], ?_, rfl, ?_, ?_, ?_, ?_, ?_⟩
      · rw [List.length_eraseIdx, if_pos hj]
        simp
      · refine List.Perm.trans ?_ hpm
        have z := erase_perm (x :: xs) j hj
        have z2 : ((x :: xs).eraseIdx j ++ (ys ++ [(x :: xs)[j]])).Perm ((x :: xs)[j] :: (x :: xs).eraseIdx j ++ ys) := by
          rw [← List.append_assoc]
          exact List.perm_append_comm.trans (by simp)
        exact z2.trans (List.Perm.append_right ys z)
      · rw [List.length_append]
        obtain ⟨ms, a, f', h1, h2, h3⟩ := t2
        exact ⟨ms, a, f', by rw [upd_ne ndG, upd_ne ndL]; exact h1, by rw [upd_ne nlG, upd_ne nlL]; exact h2, h3⟩
      · rw [upd_ne nLG, upd_same, erase_map]
      · rw [upd_same, List.map_append]
        rfl
      · intro b o hb0 ho
        have h2 := b2 _ _ hb0 (s1 _ _ (hb b o hb0 ho))
        rw [upd_ne (ne_of_none ho nG0), upd_ne (ne_of_none ho nL)]
        exact h2
end
end Toy


namespace Toy
open PySem L2 PyProof.Rows
abbrev sLeaf : Stmt := top 20
/-! ### data, as the tape draws them -/
inductive D where
  | non
  | bl (b : Bool)
  | int (i : Int)
  | str (x : Str)
  | lst (ds : List D)
  | dct (ks : List Str) (ds : List D)
def kvOf (ks : List Str) (us : List V) : List (Key × V) := (ks.zip us).map fun p => (Sum.inr p.1, p.2)
/-- v is the datum, of at most n levels of lists and dicts -/
def Da : Nat → Hp → V → D → Prop
  | _, _, v, .non => v = .non
  | _, _, v, .bl b => v = .bl b
  | _, _, v, .int i => v = .int i
  | _, _, v, .str x => v = .str x ∧ PyData.strOk x = true ∧ x.length ≤ 1000
  | 0, _, _, .lst _ => False
  | 0, _, _, .dct _ _ => False
  | n + 1, H, v, .lst ds => ∃ a xs, v = .ref a ∧ H a = some (.lst xs) ∧ xs.length ≤ 20 ∧ Paired (fun x d => Da n H x d) xs ds
  | n + 1, H, v, .dct ks ds => ∃ a us, v = .ref a ∧ H a = some (.dK (kvOf ks us)) ∧ ks.length ≤ 20 ∧ us.length = ks.length ∧ ks.Nodup ∧ (∀ k ∈ ks, PyData.strOk k = true) ∧ Paired (fun x d => Da n H x d) us ds
theorem Da.mono {H H' : Hp} (s : Same H H') : ∀ {n m : Nat} {v : V} {d : D}, n ≤ m → Da n H v d → Da m H' v d := by
  intro n
  induction n with
  | zero =>
    intro m v d _ h
    cases d with
    | lst ds => simp [Da] at h
    | dct ks ds => simp [Da] at h
    | non => cases m <;> simpa [Da] using h
    | bl b => cases m <;> simpa [Da] using h
    | int i => cases m <;> simpa [Da] using h
    | str x => cases m <;> simpa [Da] using h
  | succ n ih =>
    intro m v d hm h
    obtain ⟨m, rfl⟩ : ∃ k, m = k + 1 := ⟨m - 1, by omega⟩
    have hnm : n ≤ m := by omega
    cases d with
    | lst ds =>
      obtain ⟨a, xs, h1, h2, h3, h4⟩ := (show ∃ a xs, v = .ref a ∧ H a = some (.lst xs) ∧ xs.length ≤ 20 ∧ Paired (fun x d => Da n H x d) xs ds from by simpa [Da] using h)
      show Da (m + 1) H' v (.lst ds)
      simp only [Da]
      exact ⟨a, xs, h1, s _ _ h2, h3, L2.Paired.mapP h4 fun _ _ z => ih hnm z⟩
    | dct ks ds =>
      obtain ⟨a, us, h1, h2, h3, h4, h5, h6, h7⟩ := (show ∃ a us, v = .ref a ∧ H a = some (.dK (kvOf ks us)) ∧ ks.length ≤ 20 ∧ us.length = ks.length ∧ ks.Nodup ∧ (∀ k ∈ ks, PyData.strOk k = true) ∧ Paired (fun x d => Da n H x d) us ds from by simpa only [Da] using h)
      show Da (m + 1) H' v (.dct ks ds)
      simp only [Da]
      exact ⟨a, us, h1, s _ _ h2, h3, h4, h5, h6, L2.Paired.mapP h7 fun _ _ z => ih hnm z⟩
    | non => simpa [Da] using h
    | bl b => simpa [Da] using h
    | int i => simpa [Da] using h
    | str x => simpa [Da] using h
def leafDs : List D := [.non, .bl false, .bl true, .int 0, .int 1, .int 0, .int 1, .int (-1), .int 2, .int (-2), .int (10 ^ 30), .str "", .str "a", .str "b", .str "ab", .str "it's", .non, .int 1]
def leafVs : List V := [.non, .bl false, .bl true, .int 0, .int 1, .int 0, .int 1, .int (-1), .int 2, .int (-2), .int (10 ^ 30), .str "", .str "a", .str "b", .str "ab", .str "it's", .non, .int 1]
def dOf : V → D
  | .bl b => .bl b
  | .int i => .int i
  | .str x => .str x
  | _ => .non
theorem leaf_mem {v : V} (h : v ∈ leafVs) (H : Hp) (n : Nat) : Da n H v (dOf v) := by
  unfold leafVs at h
  simp only [List.mem_cons, List.not_mem_nil, or_false] at h
  rcases h with rfl | rfl | rfl | rfl | rfl | rfl | rfl | rfl | rfl | rfl | rfl | rfl | rfl | rfl | rfl | rfl | rfl | rfl
  all_goals (cases n <;> simp only [dOf, Da, true_and] <;> decide +kernel)
def spLeaf : Sp := fun vs H Q _ => ∃ (d l : Addr) (n : Nat), vs = [.ref d] ∧ Tape H d l n ∧ n ≤ 1000000 ∧ ∀ H' v, But d H H' → Tape H' d l (n + 1) → v ∈ leafVs → Q v H'
section
variable {P : Program} {w : World} {K : PySem.W.Frag} {mg : Str → Option Value} {base : Heap}
theorem scLf : FnScope ["_law_tape"] ["_law_tape"] (defScope sLeaf) := ⟨rfl, rfl, rfl, by decide +kernel, rfl, by decide +kernel, by decide +kernel⟩
theorem ok_leaf {f fP : Addr} {fd fdP : FuncData} (F : Fun K "_law_leaf" "_law_leaf" sLeaf f fd) (GP : FnOk P w K mg base CX0 2 fP fdP ["_law_tape", "_law_items"] spPick) (mP : mg "_law_pick" = some (.ref fP)) (kP : PySem.W.keepIn K (.ref fP) = true) (bP : Binds K fdP ["_law_tape", "_law_items"] []) :
    FnOk P w K mg base CX0 3 f fd ["_law_tape"] spLeaf := by
  refine F.ok scLf (fun vs H Q E h => ?_) (fun cdv A outer s H vs Q E hr h => ?_)
  · obtain ⟨d, l, n, rfl, _⟩ := h
    rfl
  · obtain ⟨d, l, n, rfl, hT, hn, q⟩ := h
    refine ⟨_, pss_one (ps_ret (pe_call GP hr (by rfl) mP kP bP .nil pass0 (pa_cons (pv 0) (pa_cons (pe_lst (pa_cons pe_non (pa_cons pe_bl (pa_cons pe_bl (pa_cons pe_int (pa_cons pe_int (pa_cons pe_int (pa_cons pe_int
      (pa_cons (pe_un un_neg pe_int) (pa_cons pe_int (pa_cons (pe_un un_neg pe_int) (pa_cons (pe_op op_pow pe_int pe_int) (pa_cons pe_str (pa_cons pe_str (pa_cons pe_str (pa_cons pe_str (pa_cons pe_str (pa_cons pe_non (pa_cons pe_int pa_nil))))))))))))))))))) pa_nil)))), ?_⟩
    refine ⟨_, rfl, _, rfl, _, rfl, _, _, rfl, rfl, ⟨by decide, by decide, by decide⟩, few (by show 18 ≤ 1000; decide), fun p np => ?_⟩
    obtain ⟨hd, hl⟩ : (∃ o, H d = some o) ∧ ∃ o, H l = some o := by
      obtain ⟨ns, a, f, h1, h2, _⟩ := hT
      exact ⟨⟨_, h1⟩, _, h2⟩
    refine ⟨d, l, p, n, leafVs, rfl, hT.same (same_new (fun _ _ z => z) np), hn, upd_same, (by intro z; cases z), (by show 18 < 1000000; decide), fun H' v b t m => q H' v (fun x o n e => b x o n ((same_new (fun _ _ z => z) np) x o e)) t m⟩
end
end Toy


namespace Toy
open PySem L2 PyProof.Rows
abbrev sDatum : Stmt := top 21
theorem paired_mono {H H' : Hp} {n m : Nat} (s : Same H H') (h : n ≤ m) {us : List V} {ds : List D} (p : Paired (fun x d => Da n H x d) us ds) : Paired (fun x d => Da m H' x d) us ds := L2.Paired.mapP p fun _ _ z => z.mono s h
/-- what is new in H', behind H -/
def newH (H H' : Hp) : Hp := fun b => match H b with
  | none => H' b
  | some _ => none
theorem newH_some {H H' : Hp} {b : Addr} {o : HO} : newH H H' b = some o ↔ H b = none ∧ H' b = some o := by
  unfold newH
  cases h : H b with
  | none => simp
  | some u => simp
/-- what is none in H1 is none in H -/
def Dom (H H1 : Hp) : Prop := ∀ b, H1 b = none → H b = none
theorem new_le {H H1 H2 H3 : Hp} (dom : Dom H H1) (keep : ∀ b o, H1 b = none → H2 b = some o → H3 b = some o) : Same (newH H1 H2) (newH H H3) := fun b o e => by
  obtain ⟨h1, h2⟩ := newH_some.mp e
  exact newH_some.mpr ⟨dom b h1, keep b o h1 h2⟩
theorem Dom.refl {H : Hp} : Dom H H := fun _ z => z
theorem Dom.trans {H H1 H2 : Hp} (a : Dom H H1) (b : Dom H1 H2) : Dom H H2 := fun x z => a x (b x z)
theorem Dom.but {H H1 : Hp} {d l : Addr} {n : Nat} (b : But d H H1) (t : Tape H1 d l n) : Dom H H1 := fun x z => by
  by_cases e : x = d
  · obtain ⟨ns, a, f, h1, _⟩ := t
    rw [e, h1] at z
    cases z
  · cases h : H x with
    | none => rfl
    | some o =>
      rw [b x o e h] at z
      cases z
theorem Dom.same {H H1 : Hp} (s : Same H H1) : Dom H H1 := fun x z => by
  cases h : H x with
  | none => rfl
  | some o =>
    rw [s x o h] at z
    cases z
theorem Dom.upd {H H1 : Hp} {p : Addr} {u : HO} (a : Dom H H1) : Dom H (L2.upd H1 p u) := fun x z => by
  by_cases e : x = p
  · rw [e, upd_same] at z
    cases z
  · rw [upd_ne e] at z
    exact a x z
/-! what is drawn is small -/
def okI (i : Int) : Bool := (PyData.int i).showable && decide ((PyData.shown (.int i)).length ≤ 40)
def okX (x : Str) : Bool := decide ((PyData.shown (.str x)).length ≤ 20)
def Lim : Nat → D → Prop
  | 0, .lst _ => False
  | 0, .dct _ _ => False
  | n + 1, .lst ds => ds.length ≤ 3 ∧ ∀ x ∈ ds, Lim n x
  | n + 1, .dct ks ds => ds.length ≤ 3 ∧ ks.length ≤ 3 ∧ (∀ k ∈ ks, okX k = true) ∧ ∀ x ∈ ds, Lim n x
  | _, .non => True
  | _, .bl _ => True
  | _, .int i => okI i = true
  | _, .str x => okX x = true
theorem leaf_lim {v : V} (h : v ∈ leafVs) (n : Nat) : Lim n (dOf v) := by
  unfold leafVs at h
  simp only [List.mem_cons, List.not_mem_nil, or_false] at h
  rcases h with rfl | rfl | rfl | rfl | rfl | rfl | rfl | rfl | rfl | rfl | rfl | rfl | rfl | rfl | rfl | rfl | rfl | rfl
  all_goals (cases n <;> simp only [dOf, Lim] <;> decide +kernel)
def spDatum (j : Nat) : Sp := fun vs H Q _ => ∃ (d l p : Addr) (n m : Nat) (ks : List Str), m < j ∧ vs = [.ref d, .ref p, .int m] ∧ Tape H d l n ∧ n + 8 * 4 ^ m ≤ 700000 ∧ H p = some (.lst (ks.map V.str)) ∧ ks.length ≤ 5 ∧ ks.Nodup ∧ (∀ k ∈ ks, PyData.strOk k = true) ∧ (∀ k ∈ ks, okX k = true) ∧
  ∀ H' v dt, But d H H' → Tape H' d l (n + 8 * 4 ^ m) → Da m (newH H H') v dt → Lim m dt → Q v H'
abbrev ND : List Str := ["_law_tape", "_law_keys_here", "_law_deep", "_law_way", "_law_rows", "_law_k", "_law_key"]
section
variable {P : Program} {w : World} {K : PySem.W.Frag} {mg : Str → Option Value} {base : Heap}
theorem lim_snoc {k : Nat} {ds : List D} {z : D} (h : ∀ x ∈ ds, Lim k x) (hz : Lim k z) : ∀ x ∈ ds ++ [z], Lim k x := fun x hx => by
  rcases List.mem_append.mp hx with e | e
  · exact h x e
  · rw [List.mem_singleton.mp e]; exact hz
theorem scDt : FnScope ND ["_law_tape", "_law_keys_here", "_law_deep"] (defScope sDatum) := ⟨rfl, rfl, rfl, by decide +kernel, rfl, by decide +kernel, by decide +kernel⟩
theorem ok_datum {f fL fS fD : Addr} {fd fdL fdS fdD : FuncData} (F : Fun K "_law_datum" "_law_datum" sDatum f fd)
    (GD : FnOk P w K mg base CX0 1 fD fdD ["_law_tape", "_law_many"] spDraw) (mD : mg "_law_draw" = some (.ref fD)) (kD : PySem.W.keepIn K (.ref fD) = true) (bD : Binds K fdD ["_law_tape", "_law_many"] [])
    (GS : FnOk P w K mg base CX0 2 fS fdS ["_law_tape", "_law_items"] spShuf) (mS : mg "_law_shuffled" = some (.ref fS)) (kS : PySem.W.keepIn K (.ref fS) = true) (bS : Binds K fdS ["_law_tape", "_law_items"] [])
    (GL : FnOk P w K mg base CX0 3 fL fdL ["_law_tape"] spLeaf) (mL : mg "_law_leaf" = some (.ref fL)) (kL : PySem.W.keepIn K (.ref fL) = true) (bL : Binds K fdL ["_law_tape"] [])
    (mF : mg "_law_datum" = some (.ref f)) (kF : PySem.W.keepIn K (.ref f) = true) (bF : Binds K fd ["_law_tape", "_law_keys_here", "_law_deep"] []) (mRange : mg "range" = none) (mDict : mg "dict" = none) :
    ∀ j : Nat, FnOk P w K mg base CX0 (j + 4) f fd ["_law_tape", "_law_keys_here", "_law_deep"] (spDatum j) := by
  intro j
  induction j with
  | zero => exact F.ok (k := 3) scDt (fun vs H Q E h => by obtain ⟨d, l, p, n, m, ks, h0, _⟩ := h; exact absurd h0 (Nat.not_lt_zero _)) (fun cdv A outer s H vs Q E hr h => by obtain ⟨d, l, p, n, m, ks, h0, _⟩ := h; exact absurd h0 (Nat.not_lt_zero _))
  | succ j ih =>
    refine F.ok (k := j + 4) scDt (fun vs H Q E h => ?_) (fun cdv A outer s H vs Q E hr h => ?_)
    · obtain ⟨d, l, p, n, m, ks, _, rfl, _⟩ := h
      rfl
    · obtain ⟨d, l, p, n, m, ks, hmj, rfl, hT, hn, hp, hl5, hnd, hok, hox, q⟩ := h
      have hr1 : Room 1 _ := hr.mono (show 1 ≤ j + 4 by omega)
      have hr2 : Room 2 _ := hr.mono (show 2 ≤ j + 4 by omega)
      have hr3 : Room 3 _ := hr.mono (show 3 ≤ j + 4 by omega)
      refine ⟨_, pss_cons (ps_set (i := 3) scDt.nd rfl (Or.inl rfl) (pe_ifExp (pt_cmpR op_gt (pv 2) pe_int (nomark _)) (pe_call GD hr1 (by rfl) mD kD bD .nil pass0 (pa_cons (pv 0) (pa_cons pe_int pa_nil))) pe_int))
        (pss_cons (ps_if (pt_cmpR op_lt (pv 3) pe_int (nomark _)) (pss_one (ps_ret (pe_call GL hr3 (by rfl) mL kL bL .nil pass0 (pa_cons (pv 0) pa_nil)))) pss_nil)
        (pss_cons (ps_if (pt_cmpR op_lt (pv 3) pe_int (nomark _)) (pss_one (ps_ret (pe_lc (own := [("_law_k", 5)]) (g := gName 5) (by rfl) scDt.nd (pi_range1 (by rfl) mRange (pa_cons (pe_call GD hr1 (by rfl) mD kD bD .nil pass0 (pa_cons (pv 0) (pa_cons pe_int pa_nil))) pa_nil))
            (blkOk_by (own := [("_law_k", 5)]) (N := ND) (sc := defScope sDatum) (by decide +kernel)) (fun _ _ _ _ _ => pg_name (i := 5) scDt.nd rfl (Or.inl rfl)) (fun _ _ _ _ _ => pts_nil)
            (fun _ _ _ _ _ => pe_call ih hr (by rfl) mF kF bF .nil pass0 (pa_cons (pv 0) (pa_cons (pv 1) (pa_cons (pe_op op_sub (pv 2) pe_int) pa_nil))))))) pss_nil)
        (pss_cons (ps_set (i := 4) scDt.nd rfl (Or.inl rfl) (pe_slice sl_list (pe_call GS hr2 (by rfl) mS kS bS .nil pass0 (pa_cons (pv 0) (pa_cons (pv 1) pa_nil))) po_none (po_some (pe_call GD hr1 (by rfl) mD kD bD .nil pass0 (pa_cons (pv 0) (pa_cons pe_int pa_nil))))))
        (pss_one (ps_ret (pe_callTy (call_dictP rfl) (by rfl) mDict (by decide +kernel) (pa_cons (pe_lc (own := [("_law_key", 6)]) (g := gName 6) (by rfl) scDt.nd (pi_list (pv 4))
            (blkOk_by (own := [("_law_key", 6)]) (N := ND) (sc := defScope sDatum) (by decide +kernel)) (fun _ _ _ _ _ => pg_name (i := 6) scDt.nd rfl (Or.inl rfl)) (fun _ _ _ _ _ => pts_nil)
            (fun _ _ _ _ _ => pe_tup (pa_cons (pv 6) (pa_cons (pe_call ih hr (by rfl) mF kF bF .nil pass0 (pa_cons (pv 0) (pa_cons (pv 1) (pa_cons (pe_op op_sub (pv 2) pe_int) pa_nil)))) pa_nil)))) pa_nil))))))), ?_⟩
      refine ⟨_, rfl, _, _, rfl, rfl, _, rfl, ?_⟩
      have c1 : 1 ≤ 4 ^ m := Nat.pos_of_ne_zero (by simp)
      have npd : p ≠ d := by
        obtain ⟨ns, a, f, hd, _⟩ := hT
        exact ne_of hp hd (by intro z; cases z)
      refine ite2 (fun c => ?_) (fun c => ?_)
      · have c0 : 0 < (m : Int) := of_decide_eq_true c
        obtain ⟨k, rfl⟩ : ∃ k, m = k + 1 := ⟨m - 1, by omega⟩
        have ck : 1 ≤ 4 ^ k := Nat.pos_of_ne_zero (by simp)
        have cm : 4 ^ (k + 1) = 4 * 4 ^ k := by rw [Nat.pow_succ, Nat.mul_comm]
        have em : [V.ref d, V.ref p, V.int (((k + 1 : Nat) : Int) - 1)] = [V.ref d, V.ref p, V.int (k : Int)] := by
          rw [show ((k + 1 : Nat) : Int) - 1 = (k : Int) by omega]
        refine ⟨_, rfl, d, l, n, 6, rfl, hT, by omega, by decide, by decide, fun H1 r b1 t1 r0 r6 => ?_⟩
        refine ⟨_, rfl, _, _, rfl, rfl, _, rfl, ite2 (fun c2 => ?_) (fun c2 => ?_)⟩
        · refine ⟨_, rfl, d, l, n + 1, rfl, t1, by omega, fun H2 v b2 t2 mv => q H2 v (dOf v) (b1.trans b2) (t2.more (by omega)) (leaf_mem mv _ _) (leaf_lim mv _)⟩
        refine ⟨_, rfl, _, _, rfl, rfl, _, rfl, ite2 (fun c3 => ?_) (fun c3 => ?_)⟩
        · refine ⟨_, rfl, d, l, n + 1, 4, rfl, t1, by omega, by decide, by decide, fun H2 r2 b2 t2 r20 r24 => ?_⟩
          have hp2 : H2 p = some (.lst (ks.map V.str)) := b2 _ _ npd (b1 _ _ npd hp)
          refine ⟨_, rfl, by omega, by omega, fun D nD => ?_⟩
          have ndD : d ≠ D := by
            obtain ⟨_, ho⟩ := t2.at.1
            exact ne_of_none ho nD
          have nlD : l ≠ D := by
            obtain ⟨_, ho⟩ := t2.at.2
            exact ne_of_none ho nD
          have tD : Tape (upd H2 D (.lst [])) d l (n + 2) := t2.upd ndD nlD
          have domD : Dom H (upd H2 D (.lst [])) := Dom.upd ((Dom.but b1 t1).trans (Dom.but b2 t2))
          refine lc_range (lo := 0) (n := r2.toNat) (fun i H' => ∃ acc ds, H' D = some (.lst acc) ∧ acc.length = i ∧ But d H2 H' ∧ Tape H' d l (n + 2 + i * (8 * 4 ^ k)) ∧ Dom (upd H2 D (.lst [])) H' ∧ Paired (fun x z => Da k (newH (upd H2 D (.lst [])) H') x z) acc ds ∧ ∀ z ∈ ds, Lim k z)
            ⟨[], [], upd_same, rfl, Same.but (same_new (fun _ _ z => z) nD) d, tD.more (by omega), Dom.refl, .nil, fun _ z => by cases z⟩ ?_ ?_
          · rintro i H3 hi ⟨acc, ds, hD3, lacc, b3, t3, dom3, pr, lm⟩
            have hi3 : i ≤ 2 := by omega
            have im : i * (8 * 4 ^ k) ≤ 2 * (8 * 4 ^ k) := Nat.mul_le_mul_right _ hi3
            have hp3 : H3 p = some (.lst (ks.map V.str)) := b3 _ _ npd hp2
            refine ⟨rfl, _, rfl, _, rfl, _, rfl, _, _, rfl, rfl, d, l, p, n + 2 + i * (8 * 4 ^ k), k, ks, by omega, em, t3, by omega, hp3, hl5, hnd, hok, hox, fun H4 v dt b4 t4 q4 m4 => ?_⟩
            have hD4 : H4 D = some (.lst acc) := b4 _ _ ndD.symm hD3
            refine ⟨acc, hD4, small1000 (by omega), acc ++ [v], ds ++ [dt], upd_same, by rw [List.length_append, lacc]; rfl, ?_, ?_, ?_, ?_, lim_snoc lm m4⟩
            · intro b o hb ho
              rw [upd_ne (ne_of_none ho nD)]
              exact b4 _ _ hb (b3 _ _ hb ho)
            · refine (t4.upd ndD nlD).more ?_
              have : (i + 1) * (8 * 4 ^ k) = i * (8 * 4 ^ k) + 8 * 4 ^ k := Nat.succ_mul _ _
              omega
            · exact Dom.upd (dom3.trans (Dom.but b4 t4))
            · have keepD : ∀ b o, H3 b = none → H4 b = some o → (upd H4 D (.lst (acc ++ [v]))) b = some o := fun b o h1 h2 => by
                rw [upd_ne (fun z => by rw [z, hD3] at h1; cases h1)]
                exact h2
              refine Paired.snoc (paired_mono (new_le Dom.refl fun b o h1 h2 => ?_) (Nat.le_refl _) pr) (q4.mono (new_le dom3 keepD) (Nat.le_refl _))
              have hbD : b ≠ D := fun z => by rw [z, upd_same] at h1; cases h1
              have hbd : b ≠ d := fun z => by
                obtain ⟨_, ho⟩ := tD.at.1
                rw [z, ho] at h1
                cases h1
              rw [upd_ne hbD]
              exact b4 _ _ hbd h2
          · rintro H3 ⟨acc, ds, hD3, lacc, b3, t3, dom3, pr, lm⟩
            have im : r2.toNat * (8 * 4 ^ k) ≤ 3 * (8 * 4 ^ k) := Nat.mul_le_mul_right _ (by omega)
            refine q H3 (.ref D) (.lst ds) ((b1.trans b2).trans b3) (t3.more (by omega)) ?_ (by
              have e := Paired.length pr
              simp only [Lim]
              exact ⟨by omega, lm⟩)
            simp only [Da]
            refine ⟨D, acc, rfl, newH_some.mpr ⟨(Dom.but b1 t1) _ ((Dom.but b2 t2) _ nD), hD3⟩, by omega, paired_mono (new_le domD fun b o _ h => h) (Nat.le_refl _) pr⟩
        · refine ⟨_, rfl, _, rfl, d, l, p, n + 1, ks, rfl, t1, by omega, b1 _ _ npd hp, by omega, hok, fun H2 R ys b2 t2 nR0 hR perm => ?_⟩
          have nd2 : ys.Nodup := perm.nodup_iff.mpr hnd
          have ok2 : ∀ z ∈ ys, PyData.strOk z = true := fun z hz => hok z (perm.mem_iff.mp hz)
          have ly : ys.length ≤ 5 := by rw [perm.length_eq]; exact hl5
          have ndR : d ≠ R := by
            obtain ⟨_, ho⟩ := t1.at.1
            exact ne_of_none ho nR0
          refine ⟨_, rfl, d, l, n + 1 + ks.length, 4, rfl, t2, by omega, by decide, by decide, fun H3 r3 b3 t3 r30 r34 => ⟨r3, rfl, R, _, rfl, SqL.of (b3 _ _ ndR.symm hR), fun S nS => ?_⟩⟩
          have ecut : cutV (ys.map V.str) none (some r3) = (ys.take r3.toNat).map V.str := by
            obtain ⟨i, rfl⟩ : ∃ i : Nat, r3 = (i : Int) := ⟨r3.toNat, by omega⟩
            unfold cutV
            rw [show HT.sIx (ys.map V.str).length (ys.map V.str).length (some (i : Int)) = min i (ys.map V.str).length from HT.sIx_nat _ _ i, HT.sIx_none, List.drop_zero, Nat.sub_zero, List.map_take, Int.toNat_natCast]
            by_cases h : i ≤ (ys.map V.str).length
            · rw [Nat.min_eq_left h]
            · rw [Nat.min_eq_right (by omega), List.take_of_length_le (Nat.le_refl _), List.take_of_length_le (by omega)]
          rw [ecut]
          generalize hrk : ys.take r3.toNat = rk
          have lrk : rk.length ≤ 3 := by rw [← hrk, List.length_take]; omega
          have ndrk : rk.Nodup := by rw [← hrk]; exact nd2.sublist (List.take_sublist _ _)
          have okrk : ∀ z ∈ rk, PyData.strOk z = true := by
            rw [← hrk]
            exact fun z hz => ok2 z (List.mem_of_mem_take hz)
          have oxrk : ∀ z ∈ rk, okX z = true := by
            rw [← hrk]
            exact fun z hz => hox z (perm.mem_iff.mp (List.mem_of_mem_take hz))
          have ndS : d ≠ S := by
            obtain ⟨_, ho⟩ := t3.at.1
            exact ne_of_none ho nS
          have nlS : l ≠ S := by
            obtain ⟨_, ho⟩ := t3.at.2
            exact ne_of_none ho nS
          have npS : p ≠ S := ne_of_none (b3 _ _ npd (b2 _ _ npd (b1 _ _ npd hp))) nS
          have tS : Tape (upd H3 S (.lst (rk.map V.str))) d l (n + 7) := (t3.upd ndS nlS).more (by omega)
          have hpS : (upd H3 S (.lst (rk.map V.str))) p = some (.lst (ks.map V.str)) := (upd_ne npS).trans (b3 _ _ npd (b2 _ _ npd (b1 _ _ npd hp)))
          have domS : Dom H (upd H3 S (.lst (rk.map V.str))) := Dom.upd (((Dom.but b1 t1).trans (Dom.but b2 t2)).trans (Dom.but b3 t3))
          have bS : But d H (upd H3 S (.lst (rk.map V.str))) := fun b o hb ho => by
            have z := b3 _ _ hb (b2 _ _ hb (b1 _ _ hb ho))
            rw [upd_ne (ne_of_none z nS)]
            exact z
          generalize hHS : upd H3 S (.lst (rk.map V.str)) = HS at tS hpS domS bS ⊢
          have hS : HS S = some (.lst (rk.map V.str)) := by rw [← hHS]; exact upd_same
          refine ⟨_, rfl, S, rfl, ⟨_, SqL.of hS⟩, fun D nD => ?_⟩
          have ndD : d ≠ D := by
            obtain ⟨_, ho⟩ := tS.at.1
            exact ne_of_none ho nD
          have nlD : l ≠ D := by
            obtain ⟨_, ho⟩ := tS.at.2
            exact ne_of_none ho nD
          have nSD : S ≠ D := ne_of_none hS nD
          have nSd : S ≠ d := ndS.symm
          have tD : Tape (upd HS D (.lst [])) d l (n + 7) := tS.upd ndD nlD
          have domD : Dom H (upd HS D (.lst [])) := Dom.upd domS
          refine lc_list (K := K) (a := S) (xs := rk.map V.str) (fun i H' => ∃ (ts : List Addr) (us : List V) (ds : List Toy.D), H' D = some (.lst (ts.map V.ref)) ∧ us.length = i ∧ ts.length = i ∧ But d HS H' ∧ Tape H' d l (n + 7 + i * (8 * 4 ^ k)) ∧ Dom (upd HS D (.lst [])) H' ∧ Paired (fun t kv => H' t = some (.tup [kV kv.1, kv.2])) ts (kvOf (rk.take i) us) ∧ Paired (fun x z => Da k (newH (upd HS D (.lst [])) H') x z) us ds ∧ ∀ z ∈ ds, Lim k z)
            ⟨[], [], [], upd_same, rfl, rfl, Same.but (same_new (fun _ _ z => z) nD) d, tD.more (by omega), Dom.refl, by simp [kvOf]; exact .nil, .nil, fun _ z => by cases z⟩ ?_ ?_ ?_
          · rintro i H' _ ⟨ts, us, ds, _, _, _, b4, _⟩
            exact SqL.of (b4 _ _ nSd hS)
          · rintro i x H4 hx ⟨ts, us, ds, hD4, lus, lts, b4, t4, dom4, pt, pr, lm⟩
            obtain ⟨key, hk1, rfl⟩ : ∃ key, rk[i]? = some key ∧ V.str key = x := by simpa using hx
            have hi : i < rk.length := by
              rcases Nat.lt_or_ge i rk.length with z | z
              · exact z
              · rw [List.getElem?_eq_none z] at hk1
                cases hk1
            have im : i * (8 * 4 ^ k) ≤ 2 * (8 * 4 ^ k) := Nat.mul_le_mul_right _ (by omega)
            refine ⟨rfl, _, rfl, _, rfl, _, rfl, _, rfl, _, _, rfl, rfl, d, l, p, n + 7 + i * (8 * 4 ^ k), k, ks, by omega, em, t4, by omega, b4 _ _ npd hpS, hl5, hnd, hok, hox, fun H5 v dt b5 t5 q5 m5 => ⟨few (by show 2 ≤ 1000; decide), fun T nT => ?_⟩⟩
            have hD5 : H5 D = some (.lst (ts.map V.ref)) := b5 _ _ ndD.symm hD4
            have nDT : D ≠ T := ne_of_none hD5 nT
            have ndT : d ≠ T := by
              obtain ⟨_, ho⟩ := t5.at.1
              exact ne_of_none ho nT
            have nlT : l ≠ T := by
              obtain ⟨_, ho⟩ := t5.at.2
              exact ne_of_none ho nT
            have keep : ∀ b o, b ≠ d → b ≠ D → H4 b = some o → (upd (upd H5 T (.tup [.str key, v])) D (.lst (ts.map V.ref ++ [.ref T]))) b = some o := fun b o h1 h2 h3 => by
              have z := b5 _ _ h1 h3
              rw [upd_ne h2, upd_ne (ne_of_none z nT)]
              exact z
            refine ⟨ts.map V.ref, (upd_ne nDT).trans hD5, small1000 (by rw [List.length_map]; omega), ts ++ [T], us ++ [v], ds ++ [dt], by rw [upd_same, List.map_append]; rfl, by rw [List.length_append, lus]; rfl, by rw [List.length_append, lts]; rfl, ?_, ?_, ?_, ?_, ?_, lim_snoc lm m5⟩
            · intro b o hb ho
              exact keep b o hb (ne_of_none ho nD) (b4 _ _ hb ho)
            · refine ((t5.upd ndT nlT).upd ndD nlD).more ?_
              have : (i + 1) * (8 * 4 ^ k) = i * (8 * 4 ^ k) + 8 * 4 ^ k := Nat.succ_mul _ _
              omega
            · exact Dom.upd (Dom.upd (dom4.trans (Dom.but b5 t5)))
            · have ek : kvOf (rk.take (i + 1)) (us ++ [v]) = kvOf (rk.take i) us ++ [(Sum.inr key, v)] := by
                unfold kvOf
                rw [List.take_add_one, hk1, Option.toList_some, List.zip_append (by rw [List.length_take, lus]; omega), List.map_append]
                rfl
              rw [ek]
              refine Paired.snoc (L2.Paired.mapP pt fun t kv ht => ?_) ?_
              · refine keep t _ ?_ ?_ ht
                · intro z
                  obtain ⟨ns, a, f, e1, _⟩ := t4
                  rw [z, e1] at ht
                  cases ht
                · intro z
                  rw [z, hD4] at ht
                  cases ht
              · exact (upd_ne nDT.symm).trans upd_same
            · have n1 : ∀ b o, H4 b = none → H5 b = some o → (upd (upd H5 T (.tup [.str key, v])) D (.lst (ts.map V.ref ++ [.ref T]))) b = some o := fun b o h1 h2 => by
                rw [upd_ne (fun z => by rw [z, hD4] at h1; cases h1), upd_ne (ne_of_none h2 nT)]
                exact h2
              refine Paired.snoc (paired_mono (new_le Dom.refl fun b o h1 h2 => ?_) (Nat.le_refl _) pr) (q5.mono (new_le dom4 n1) (Nat.le_refl _))
              refine keep b o ?_ ?_ h2
              · intro z
                obtain ⟨_, ho⟩ := tD.at.1
                rw [z, ho] at h1
                cases h1
              · intro z
                rw [z, upd_same] at h1
                cases h1
          · rintro H4 ⟨ts, us, ds, hD4, lus, lts, b4, t4, dom4, pt, pr, lm⟩
            rw [List.length_map] at lus lts t4 pt
            rw [List.take_length] at pt
            have im : rk.length * (8 * 4 ^ k) ≤ 3 * (8 * 4 ^ k) := Nat.mul_le_mul_right _ lrk
            refine ⟨D, ts, kvOf rk us, rfl, SqL.of hD4, L2.Paired.mapP pt fun t kv ht => SqT.of ht, fun e ne => ?_⟩
            have keys : (kvOf rk us).map (·.1) = rk.map Sum.inr := by
              unfold kvOf
              rw [List.map_map]
              have : ((fun x : Key × V => x.1) ∘ fun p : Str × V => ((Sum.inr p.1 : Key), p.2)) = (fun p : Str × V => (Sum.inr p.1 : Key)) := rfl
              rw [this]
              have z : ((rk.zip us).map Prod.fst).map (Sum.inr : Str → Key) = rk.map Sum.inr := by rw [List.map_fst_zip (by omega)]
              rw [List.map_map] at z
              exact z
            have em2 : mergeK [] (kvOf rk us) = kvOf rk us := by
              refine merge_new _ [] ?_
              rw [List.nil_append, keys]
              exact List.Pairwise.map _ (fun a b h z => h (Sum.inr.inj z)) ndrk
            rw [em2]
            refine q _ (.ref e) (.dct rk ds) (fun b o hb ho => ?_) ((t4.upd ?_ ?_).more (by omega)) ?_ (by
              simp only [Lim]
              have e := Paired.length pr
              exact ⟨by omega, lrk, oxrk, lm⟩)
            · have z := b4 _ _ hb (bS _ _ hb ho)
              rw [upd_ne (ne_of_none z ne)]
              exact z
            · obtain ⟨_, ho⟩ := t4.at.1
              exact ne_of_none ho ne
            · obtain ⟨_, ho⟩ := t4.at.2
              exact ne_of_none ho ne
            · simp only [Da]
              refine ⟨e, us, rfl, newH_some.mpr ⟨domD _ (dom4 _ ne), upd_same⟩, by omega, lus, ndrk, okrk, paired_mono (new_le domD fun b o h1 h2 => ?_) (Nat.le_refl _) pr⟩
              rw [upd_ne (ne_of_none h2 ne)]
              exact h2
      · refine ⟨_, rfl, _, _, rfl, rfl, _, rfl, iteT ?_⟩
        refine ⟨_, rfl, d, l, n, rfl, hT, by omega, fun H2 v b2 t2 mv => q H2 v (dOf v) b2 (t2.more (by omega)) (leaf_mem mv _ _) (leaf_lim mv _)⟩
end
end Toy


/-! tuple < tuple, where only the first items that differ must be comparable -/
namespace PySem.SeqAt
open AutoSeq1 (wpAny_loadPart')
open MeetsSeq MeetsSeq2 MeetsSeq3 SeqRoads2
section
theorem ltTupFirst (p q : Addr) (vs ws : Array Value) (n m : Nat) (dv dw : Option Addr) (av aw : Array (Option Value)) (eq less : Nat → Bool) :
    Meets (Builtin.«tuple.__lt__» ⟨[.ref p, .ref q], []⟩) (fun A R s =>
        s.heap.get? p = some { cls := .type "tuple", dict := dv, data := .seq vs n, slots := av } ∧
        s.heap.get? q = some { cls := .type "tuple", dict := dw, data := .seq ws m, slots := aw } ∧
        (∀ j (a : j < vs.size) (b : j < ws.size), EqAt A.in1 s vs[j] ws[j] (eq j)) ∧
        (∀ j (a : j < vs.size) (b : j < ws.size), (∀ i, i < j → eq i = true) → eq j = false → RcLt A.in1 s vs[j] ws[j] (less j)) ∧
        R (.ok (.ret (.bool (firstLt eq less (decide (vs.size < ws.size)) (List.range (min vs.size ws.size)))))) s) :=
  .of_wp fun prog w A R s asked => by
    obtain ⟨heap, gens, d, tk, os⟩ := s
    obtain ⟨hp, hq, heq, hless, asked⟩ := asked
    have subs := AutoSeq1.sub_tuple_tuple
    have both : (vs.toList.zip ws.toList).length = min vs.size ws.size := by simp
    wp_walk using wpAny_loadPart' hp, wpAny_loadPart' hq, wpAny_forIn_list _ (fun left acc s' => acc.1 = none ∧ s' = ⟨heap, gens, d, tk, os⟩ ∧ ∃ i, left = (vs.toList.zip ws.toList).drop i ∧ (∀ i', i' < i → eq i' = true) ∧
      R (.ok (.ret (.bool (firstLt eq less (decide (vs.size < ws.size)) ((List.range (min vs.size ws.size)).drop i))))) ⟨heap, gens, d, tk, os⟩) _
    case turn =>
      rintro ⟨v, u⟩ left acc s' ⟨hacc, rfl, i, hleft, yes, hR⟩
      have small : i < (vs.toList.zip ws.toList).length := by
        rcases Nat.lt_or_ge i (vs.toList.zip ws.toList).length with z | z
        · exact z
        · rw [List.drop_of_length_le z] at hleft
          cases hleft
      have im : i < min vs.size ws.size := both ▸ small
      have iv : i < vs.size := Nat.lt_of_lt_of_le im (Nat.min_le_left _ _)
      have iw : i < ws.size := Nat.lt_of_lt_of_le im (Nat.min_le_right _ _)
      rw [List.drop_eq_getElem_cons small] at hleft
      injection hleft with hvu hrest
      have ev : v = vs[i] := by have z := congrArg Prod.fst hvu; simpa using z
      have eu : u = ws[i] := by have z := congrArg Prod.snd hvu; simpa using z
      subst ev eu
      have drops : (List.range (min vs.size ws.size)).drop i = i :: (List.range (min vs.size ws.size)).drop (i + 1) := by simp [List.drop_eq_getElem_cons, im]
      rw [drops] at hR
      refine wpAny_bind (heq i iv iw prog w _ _ ?_)
      cases ei : eq i with
      | true =>
        rw [firstLt_yes ei] at hR
        wp_walk
        exact ⟨rfl, rfl, i + 1, hrest, fun i' h => by
          rcases Nat.lt_succ_iff_lt_or_eq.mp h with z | z
          · exact yes i' z
          · rw [z]; exact ei, hR⟩
      | false =>
        rw [firstLt_no ei] at hR
        simp only [Bool.not_false, if_true]
        refine wpAny_bind (wpAny_rule (wpAny_bind (hless i iv iw yes ei prog w _ _ ?_)))
        wp_walk
        exact ⟨_, rfl, hR⟩
    case fin =>
      rintro ⟨acc1, acc2⟩ s' ⟨hacc, rfl, i, hleft, yes, hR⟩
      simp only at hacc
      subst hacc
      have over : min vs.size ws.size ≤ i := by
        rcases Nat.lt_or_ge i (vs.toList.zip ws.toList).length with z | z
        · rw [List.drop_eq_getElem_cons z] at hleft
          cases hleft
        · exact both ▸ z
      rw [List.drop_of_length_le (by simpa using over)] at hR
      wp_walk
      exact ⟨_, rfl, by simpa [Builtin.Tuple.tupleCompareSizes, firstLt] using hR⟩
    case h =>
      exact ⟨rfl, rfl, 0, rfl, fun _ h => absurd h (Nat.not_lt_zero _), by simpa using asked⟩
end
theorem RcLt.tupFirst {A : Around} {s : Shared} {p q : Addr} {vs ws : Array Value} {eq less : Nat → Bool} (hp : s.heap.IsTuple p vs) (hq : s.heap.IsTuple q ws) (hu : A.units < cLine)
    (heq : ∀ j (a : j < vs.size) (b : j < ws.size), EqAt A.in1 s vs[j] ws[j] (eq j))
    (hless : ∀ j (a : j < vs.size) (b : j < ws.size), (∀ i, i < j → eq i = true) → eq j = false → RcLt A.in1 s vs[j] ws[j] (less j)) :
    RcLt A s (.ref p) (.ref q) (firstLt eq less (decide (vs.size < ws.size)) (List.range (min vs.size ws.size))) := fun prog w E Q asked => by
  obtain ⟨⟨c1, d1, data1, sl1⟩, ho1, hc1, n1, hd1⟩ := id hp
  obtain ⟨⟨c2, d2, data2, sl2⟩, ho2, hc2, n2, hd2⟩ := id hq
  simp only at hc1 hd1 hc2 hd2
  subst hc1 hd1 hc2 hd2
  refine richCompare_meets_room (op := .Lt) ⟨_, ho1, rfl⟩ ⟨_, ho2, rfl⟩ F.slot_tuple_lt F.entry_tuple_lt (F.args_tuple_lt_2 _ _) (ltTupFirst p q vs ws n1 n2 d1 d2 sl1 sl2 eq less) ?_ hu
  exact ⟨ho1, ho2, heq, hless, show Value.bool (firstLt eq less (decide (vs.size < ws.size)) (List.range (min vs.size ws.size))) ≠ Value.notImplemented ∧ Q (.bool (firstLt eq less (decide (vs.size < ws.size)) (List.range (min vs.size ws.size)))) s from ⟨(fun x => nomatch x), asked⟩⟩
end PySem.SeqAt


namespace PySem.W
open PySem PySem.SeqAt PyProof.Rows
mutual
/-- both can be compared as far as Python does: up to the first items that differ -/
def lk : PyData → PyData → Bool
  | .int _, .int _ => true
  | .str _, .str _ => true
  | .tuple xs, .tuple ys => lkAll xs ys
  | _, _ => false
def lkAll : List PyData → List PyData → Bool
  | x :: xs, y :: ys => lk x y && (!PyData.eqv x y || lkAll xs ys)
  | [], _ => true
  | _ :: _, [] => true
end
theorem lk_cons {x y : PyData} {xs ys : List PyData} (h : lkAll (x :: xs) (y :: ys) = true) : lk x y = true ∧ (PyData.eqv x y = true → lkAll xs ys = true) := by
  rw [lkAll, Bool.and_eq_true] at h
  refine ⟨h.1, fun e => ?_⟩
  have z := h.2
  rw [e] at z
  simpa using z
mutual
theorem toks_lk : ∀ (x y : PyData), lk x y = true → (PyData.eqv x y = true → keyToks x = keyToks y) ∧ (PyData.eqv x y = false → ∀ l m, PyProof.Rows.lexLt itemOrd (keyToks x ++ l) (keyToks y ++ m) = PyProof.Rows.lexLt itemOrd (keyToks x) (keyToks y))
  | .none, y, h => absurd h (by cases y <;> simp [lk])
  | .bool _, y, h => absurd h (by cases y <;> simp [lk])
  | .list _, y, h => absurd h (by cases y <;> simp [lk])
  | .dict _, y, h => absurd h (by cases y <;> simp [lk])
  | .int a, y, h => by
    cases y with
    | int b => exact toks_eqv (.int a) (.int b) (by simp [alike])
    | _ => exact absurd h (by simp [lk])
  | .str a, y, h => by
    cases y with
    | str b => exact toks_eqv (.str a) (.str b) (by simp [alike])
    | _ => exact absurd h (by simp [lk])
  | .tuple xs, y, h => by
    cases y with
    | tuple ys =>
      have t := toksAll_lk xs ys (by simpa [lk] using h)
      simp only [keyToks, PyData.eqv]
      exact t
    | _ => exact absurd h (by simp [lk])
theorem toksAll_lk : ∀ (xs ys : List PyData), lkAll xs ys = true → (PyData.eqvAll xs ys = true → keyToksAll xs = keyToksAll ys) ∧ (PyData.eqvAll xs ys = false → ∀ l m, PyProof.Rows.lexLt itemOrd (keyToksAll xs ++ l) (keyToksAll ys ++ m) = PyProof.Rows.lexLt itemOrd (keyToksAll xs) (keyToksAll ys))
  | [], ys, _ => toksAll_eqv [] ys (by simp [alikeAll])
  | x :: xs, [], _ => toksAll_eqv (x :: xs) [] (by simp [alikeAll])
  | x :: xs, y :: ys, h => by
    obtain ⟨a1, a2⟩ := toks_lk x y (lk_cons h).1
    rw [eqv_all_cons, toks_all_cons, toks_all_cons]
    cases hx : PyData.eqv x y with
    | true =>
      obtain ⟨b1, b2⟩ := toksAll_lk xs ys ((lk_cons h).2 hx)
      rw [a1 hx, Bool.true_and]
      refine ⟨fun e => by rw [b1 e], fun e l m => ?_⟩
      simp only [List.cons_append, List.append_assoc]
      rw [lex_self, lex_pre, b2 e l m, lex_self, lex_pre]
    | false =>
      rw [Bool.false_and]
      refine ⟨fun e => absurd e Bool.false_ne_true, fun _ l m => ?_⟩
      simp only [List.cons_append, List.append_assoc]
      rw [lex_self, a2 hx, lex_self, a2 hx]
end
theorem lt_all_yes {x y : PyData} {xs ys : List PyData} (h : lk x y = true) (e : PyData.eqv x y = true) : PyProof.Rows.lexLt itemOrd (keyToksAll (x :: xs)) (keyToksAll (y :: ys)) = PyProof.Rows.lexLt itemOrd (keyToksAll xs) (keyToksAll ys) := by
  rw [toks_all_cons, toks_all_cons, (toks_lk x y h).1 e, lex_self, lex_pre]
theorem lt_all_no {x y : PyData} {xs ys : List PyData} (h : lk x y = true) (e : PyData.eqv x y = false) : PyProof.Rows.lexLt itemOrd (keyToksAll (x :: xs)) (keyToksAll (y :: ys)) = dataLt x y := by
  rw [toks_all_cons, toks_all_cons, lex_self, (toks_lk x y h).2 e]
  rfl
theorem first_lk : ∀ (xs ys : List PyData), lkAll xs ys = true →
    firstLt (pairEq xs ys) (fun j => dataLt (xs.getD j .none) (ys.getD j .none)) (decide (xs.length < ys.length)) (List.range (min xs.length ys.length)) = PyProof.Rows.lexLt itemOrd (keyToksAll xs) (keyToksAll ys)
  | [], ys, _ => firstLt_toks [] ys (by simp [alikeAll])
  | x :: xs, [], _ => firstLt_toks (x :: xs) [] (by simp [alikeAll])
  | x :: xs, y :: ys, h => by
    obtain ⟨h1, h2⟩ := lk_cons h
    have lens : min (x :: xs).length (y :: ys).length = min xs.length ys.length + 1 := by
      simp only [List.length_cons]
      omega
    have less : decide ((x :: xs).length < (y :: ys).length) = decide (xs.length < ys.length) := decide_eq_decide.mpr (by simp only [List.length_cons]; omega)
    rw [lens, less, List.range_succ_eq_map]
    cases hx : PyData.eqv x y with
    | true =>
      have ih := first_lk xs ys (h2 hx)
      rw [firstLt_yes (show pairEq (x :: xs) (y :: ys) 0 = true from hx), firstLt_map, lt_all_yes h1 hx, ← ih]
      rfl
    | false =>
      rw [firstLt_no (show pairEq (x :: xs) (y :: ys) 0 = false from hx), lt_all_no h1 hx]
      rfl
mutual
theorem rcLt_lk : ∀ (da db : PyData) (A : Around) (s : Shared) (a b : Value) (as bs : List Addr), Reads s.heap a da as → Reads s.heap b db bs → da.canLay0 = true → db.canLay0 = true → lk da db = true → A.units + min da.depth db.depth < cLine → RcLt A s a b (dataLt da db)
  | .none, db, _, _, _, _, _, _, _, _, _, _, h, _ => absurd h (by cases db <;> simp [lk])
  | .bool _, db, _, _, _, _, _, _, _, _, _, _, h, _ => absurd h (by cases db <;> simp [lk])
  | .list _, db, _, _, _, _, _, _, _, _, _, _, h, _ => absurd h (by cases db <;> simp [lk])
  | .dict _, db, _, _, _, _, _, _, _, _, _, _, h, _ => absurd h (by cases db <;> simp [lk])
  | .int x, db, A, s, a, b, as, bs, ra, rb, _, _, h, hu => by
    cases db with
    | int y => exact rcLt_alike (.int x) (.int y) A s a b as bs ra rb (by simp [alike]) (by simp) hu
    | _ => exact absurd h (by simp [lk])
  | .str x, db, A, s, a, b, as, bs, ra, rb, _, _, h, hu => by
    cases db with
    | str y => exact rcLt_alike (.str x) (.str y) A s a b as bs ra rb (by simp [alike]) (by simp) hu
    | _ => exact absurd h (by simp [lk])
  | .tuple xs, db, A, s, a, b, as, bs, ra, rb, ca, cb, h, hu => by
    cases db with
    | tuple ys =>
      have hal : lkAll xs ys = true := by simpa [lk] using h
      cases ra with
      | @tuple l o vs n _ as₁ h1 h2 h3 h4 =>
        cases rb with
        | @tuple l' o' vs' n' _ bs₁ k1 k2 k3 k4 =>
          have n1 : vs.size = xs.length := by simpa using ReadsAll.length _ _ _ h4
          have n2 : vs'.size = ys.length := by simpa using ReadsAll.length _ _ _ k4
          have ca' : PyData.canLayAll0 xs = true := by simpa [PyData.canLay0] using ca
          have cb' : PyData.canLayAll0 ys = true := by simpa [PyData.canLay0] using cb
          rw [dataLt_tuple, ← first_lk xs ys hal, ← n1, ← n2]
          refine RcLt.tupFirst ⟨_, h1, h2, _, h3⟩ ⟨_, k1, k2, _, k3⟩ (room_here hu) (fun j j1 j2 => ?_) fun j j1 j2 hi hj => ?_
          · have z := eqAt_readsAll xs ys A.in1 s vs.toList vs'.toList _ _ h4 k4 ca' cb' (room_in hu) j (by simpa using j1) (by simpa using j2)
            simpa using z
          · have z := rcLt_lkAll xs ys A.in1 s vs.toList vs'.toList _ _ h4 k4 ca' cb' hal (room_in hu) j (by simpa using j1) (by simpa using j2) hi hj
            simpa using z
    | _ => exact absurd h (by simp [lk])
theorem rcLt_lkAll : ∀ (xs ys : List PyData) (A : Around) (s : Shared) (vs ws : List Value) (as bs : List Addr), ReadsAll s.heap vs xs as → ReadsAll s.heap ws ys bs → PyData.canLayAll0 xs = true → PyData.canLayAll0 ys = true → lkAll xs ys = true →
    A.units + min (PyData.depthAll xs) (PyData.depthAll ys) < cLine → ∀ j (h1 : j < vs.length) (h2 : j < ws.length), (∀ i, i < j → pairEq xs ys i = true) → pairEq xs ys j = false → RcLt A s vs[j] ws[j] (dataLt (xs.getD j .none) (ys.getD j .none))
  | [], _, _, _, _, _, _, _, ra, _, _, _, _, _, j, h1, _, _, _ => by cases ra; exact absurd h1 (Nat.not_lt_zero _)
  | _ :: _, [], _, _, _, _, _, _, _, rb, _, _, _, _, j, _, h2, _, _ => by cases rb; exact absurd h2 (Nat.not_lt_zero _)
  | x :: xs, y :: ys, A, s, _, _, _, _, ra, rb, ca, cb, h, hu, j, h1, h2, hi, hj => by
    rw [PyData.canLayAll0, Bool.and_eq_true] at ca cb
    cases ra with
    | cons r rs =>
      cases rb with
      | cons r' rs' =>
        cases j with
        | zero => exact rcLt_lk x y A s _ _ _ _ r r' ca.1 cb.1 (lk_cons h).1 (room_head hu)
        | succ j =>
          have hx : PyData.eqv x y = true := hi 0 (Nat.succ_pos _)
          exact rcLt_lkAll xs ys A s _ _ _ _ rs rs' ca.2 cb.2 ((lk_cons h).2 hx) (room_tail hu) j (Nat.lt_of_succ_lt_succ h1) (Nat.lt_of_succ_lt_succ h2) (fun i q => hi (i + 1) (Nat.succ_lt_succ q)) hj
end
end PySem.W
namespace L2
open PySem PySem.Spec PyProof.Rows
section
variable {X : Cx}
/-- x < y, tuples of data, comparable up to the first difference -/
def rLtK (K : PySem.W.Frag) : R2 := fun x y H Q => ∃ d e, Dp K H x d ∧ Dp K H y e ∧ SeqAt.shaped d = true ∧ SeqAt.shaped e = true ∧ PySem.W.lk d e = true ∧ Q (.bl (PySem.W.dataLt d e)) H
theorem op_ltK (hu : X.A.units + 64 < cLine) : OpR X (compareOp .Lt) (rLtK X.K) := by
  intro pins s σ H x y v u Q I rx ry h
  obtain ⟨d, e, hd, he, sd, se, lkd, q⟩ := h
  obtain ⟨as, r1⟩ := Dp.reads I d x v hd rx
  obtain ⟨bs, r2⟩ := Dp.reads I e y u he ry
  exact PySem.W.rcLt_lk d e X.A s v u as bs r1 r2 (SeqAt.canLay_of_shaped sd) (SeqAt.canLay_of_shaped se) lkd (SeqAt.room_of_shaped sd hu) _ _ _ _ ⟨.bl _, H, I, rfl, q⟩
end
end L2


namespace PySem.W
open PySem PySem.SeqAt PyProof.Rows
section
variable {prog : Program} {w : World} {A : Around} {s : Shared}
theorem katLex_lk {fin : Bool} {Q : Bool → Shared → Prop} : ∀ (xs ys : List PyData) (i : Nat) (vs ws : List Value) (as bs : List Addr), ReadsAll s.heap vs xs as → ReadsAll s.heap ws ys bs → PyData.canLayAll0 xs = true → PyData.canLayAll0 ys = true → lkAll xs ys = true →
    A.units + min (PyData.depthAll xs) (PyData.depthAll ys) < cLine → fin = decide (xs.length < ys.length) → Q (PyProof.Rows.lexLt itemOrd (keyToksAll xs) (keyToksAll ys)) s → KatLex prog w A false fin Q (vs.zip ws) i s
  | [], ys, i, vs, ws, as, bs, ra, rb, _, _, _, hu, hf, hq => katLex_alike [] ys i vs ws as bs ra rb (by simp [alikeAll]) hu (fun z => by cases z) hf hq
  | x :: xs, [], i, vs, ws, as, bs, ra, rb, _, _, _, hu, hf, hq => katLex_alike (x :: xs) [] i vs ws as bs ra rb (by simp [alikeAll]) hu (fun z => by cases z) hf hq
  | x :: xs, y :: ys, i, _, _, _, _, ra, rb, ca, cb, h, hu, hf, hq => by
    obtain ⟨h1, h2⟩ := lk_cons h
    rw [PyData.canLayAll0, Bool.and_eq_true] at ca cb
    have hf' : fin = decide (xs.length < ys.length) := hf.trans (decide_eq_decide.mpr (by simp only [List.length_cons]; omega))
    cases ra with
    | cons r rs =>
      cases rb with
      | cons r' rs' =>
        rw [List.zip_cons_cons]
        refine kat_cons (eqAt_reads x y A s _ _ _ _ r r' ca.1 cb.1 (room_head hu) prog w _ _ ?_)
        cases hx : PyData.eqv x y with
        | true =>
          rw [lt_all_yes h1 hx] at hq
          exact kat_yes (katLex_lk xs ys (i + 1) _ _ _ _ rs rs' ca.2 cb.2 (h2 hx) (room_tail hu) hf' hq)
        | false =>
          rw [lt_all_no h1 hx] at hq
          refine kat_no ?_
          rw [Bool.false_and]
          exact kat_one _ _ (rcLt_lk x y A s _ _ _ _ r r' ca.1 cb.1 h1 (room_head hu) prog w _ _ hq)
end
end PySem.W
namespace SrtO
open PySem PyProof.Rows Srt PySem.W
theorem swo_data {α : Type} (k : α → PyData) : Swo fun v u => dataLt (k v) (k u) := by
  refine ⟨fun x y h => ?_, fun x y z h1 h2 => ?_⟩
  · rcases bcase (dataLt (k y) (k x)) with q | q
    · have t := lex_trans _ _ _ h q
      rw [lex_irrefl] at t
      cases t
    · exact q
  · rcases bcase (dataLt (k z) (k x)) with q | q
    · rcases lex_negTrans _ (PySem.W.keyToks (k y)) _ q with t | t
      · exact absurd h2 (by show ¬ dataLt (k z) (k y) = false; rw [show dataLt (k z) (k y) = true from t]; simp)
      · exact absurd h1 (by show ¬ dataLt (k y) (k x) = false; rw [show dataLt (k y) (k x) = true from t]; simp)
    · exact q
/-- the value reads as a tuple whose first item is a tuple -/
def Tup2 (h : Heap) (v : Value) (d : PyData) : Prop := (∃ xs ys, d = .tuple (.tuple xs :: ys)) ∧ ∃ as, Reads h v d as
theorem tup2_firsts {h : Heap} {k : Value → PyData} : ∀ {vs : List Value}, (∀ v ∈ vs, Tup2 h v (k v)) → ∃ fs, KatTups h vs fs ∧ fs.length = vs.length ∧ ∀ f ∈ fs, ∃ b o, f = Value.ref b ∧ h.get? b = some o ∧ o.cls = .type "tuple"
  | [], _ => ⟨[], .nil, rfl, fun _ h => nomatch h⟩
  | v :: vs, q => by
    obtain ⟨fs, t1, t2, t3⟩ := tup2_firsts (vs := vs) fun u hu => q u (List.mem_cons_of_mem _ hu)
    obtain ⟨⟨xs, ys, e⟩, as, r⟩ := q v List.mem_cons_self
    rw [e] at r
    cases r with
    | @tuple l o its n _ _ h1 h2 h3 h4 =>
      cases hits : its.toList with
      | nil => rw [hits] at h4; cases h4
      | cons f rest =>
        rw [hits] at h4
        cases h4 with
        | cons r1 r2 =>
          cases r1 with
          | @tuple l' o' its' n' _ _ k1 k2 k3 k4 =>
            refine ⟨.ref l' :: fs, .cons h1 h2 h3 ?_ t1, by rw [List.length_cons, List.length_cons, t2], fun g hg => ?_⟩
            · rw [← Array.getElem?_toList, hits]
              rfl
            · rcases List.mem_cons.mp hg with z | z
              · exact ⟨l', o', z, k1, k2⟩
              · exact t3 g z
section
variable {prog : Program} {w : World} {A : Around} {s : Shared}
theorem data_cmp {vs : List Value} {k : Value → PyData} (hp : ∀ v ∈ vs, Tup2 s.heap v (k v)) (hs : ∀ v ∈ vs, SeqAt.shaped (k v) = true) (hl : ∀ v ∈ vs, ∀ u ∈ vs, lk (k v) (k u) = true) (hu : A.units + 64 < cLine) :
    Cmp prog w A s (tuples' false) (fun p => p.1 ∈ vs) (lt2 fun v u => dataLt (k v) (k u)) := by
  intro p q hm hm'
  have l1 := hl _ hm _ hm'
  have s1 := hs _ hm
  have s2 := hs _ hm'
  obtain ⟨⟨xs, ys, e⟩, as, r⟩ := hp _ hm
  obtain ⟨⟨xs', ys', e'⟩, as', r'⟩ := hp _ hm'
  show wpAny (model prog w) A (keyLt' (tuples' false) p.1 q.1) (fun r s' => s' = s ∧ r = dataLt (k p.1) (k q.1)) (fun _ _ => False) s
  rw [e] at r l1 s1 ⊢
  rw [e'] at r' l1 s2 ⊢
  have rm := SeqAt.room_of_shaped (db := .tuple (.tuple xs' :: ys')) s1 hu
  have c1 : PyData.canLayAll0 (.tuple xs :: ys) = true := by simpa [PyData.canLay0] using SeqAt.canLay_of_shaped s1
  have c2 : PyData.canLayAll0 (.tuple xs' :: ys') = true := by simpa [PyData.canLay0] using SeqAt.canLay_of_shaped s2
  have l2 : lkAll (.tuple xs :: ys) (.tuple xs' :: ys') = true := by simpa [lk] using l1
  generalize p.1 = v at r ⊢
  generalize q.1 = u at r' ⊢
  cases r with
  | @tuple l o its n _ _ h1 h2 h3 h4 =>
    cases r' with
    | @tuple l' o' its' n' _ _ k1 k2 k3 k4 =>
      have n1 : its.size = (PyData.tuple xs :: ys).length := by simpa using SeqAt.ReadsAll.length _ _ _ h4
      have n2 : its'.size = (PyData.tuple xs' :: ys').length := by simpa using SeqAt.ReadsAll.length _ _ _ k4
      refine kat_lt h1 h3 k1 k3 (katLex_lk _ _ 0 _ _ _ _ h4 k4 c1 c2 l2 (by have z := SeqAt.room_in rm; change A.units + 1 + _ < cLine at z; omega) ?_ ⟨rfl, ?_⟩)
      · rw [n1, n2]
      · rw [dataLt_tuple]
theorem data_sortableO {a : Addr} {vs : List Value} {k : Value → PyData} (h0 : 0 < vs.length) (hp : ∀ h' : Heap, (∀ b o, b ≠ a → s.heap.get? b = some o → h'.get? b = some o) → ∀ v ∈ vs, Tup2 h' v (k v)) (hs : ∀ v ∈ vs, SeqAt.shaped (k v) = true) (hl : ∀ v ∈ vs, ∀ u ∈ vs, lk (k v) (k u) = true) (hu : A.units + 64 < cLine) :
    SortableO prog w A s a vs fun v u => dataLt (k v) (k u) := by
  intro h' keep
  obtain ⟨fs, h1, h2, h3⟩ := tup2_firsts (hp h' keep)
  refine ⟨tuples' false, fun Q E hq => ?_, data_cmp (s := { s with heap := h' }) (hp h' keep) hs hl hu⟩
  refine PySem.W.kat_kind (T := .type "tuple") h1 (by omega) (fun f hm => ?_) (by rfl) ?_
  · obtain ⟨b, o, rfl, ho, hc⟩ := h3 f hm
    rw [← hc]
    exact (PySem.W.Looks.ld ho).andThen .now
  · have e : (Value.type "tuple" != Value.type "tuple") = false := by first | decide +kernel | rfl | decide
    rw [e]
    exact hq
end
end SrtO
namespace L2
open PySem PySem.Spec PyProof.Rows
/-- sorted(xs), xs a list of tuples whose first items are tuples (k says of which data) -/
def rSortK (K : PySem.W.Frag) : List V → Hp → VK → Prop := fun vs H Q => ∃ (a : Addr) (xs : List V) (k : V → PyData), vs = [V.ref a] ∧ SqL K H a xs ∧ (∀ x ∈ xs, (∃ t, x = V.ref t) ∧ Dp K H x (k x) ∧ SeqAt.shaped (k x) = true ∧ ∃ r rest, k x = .tuple (.tuple r :: rest)) ∧
  (∀ x ∈ xs, ∀ y ∈ xs, PySem.W.lk (k x) (k y) = true) ∧ ∀ ys p, SrtO.Srtd (fun x y => PySem.W.dataLt (k x) (k y)) ys → ys.Perm xs → H p = none → Q (.ref p) (upd H p (.lst ys))
section
variable {X : Cx}
theorem cr_sortedK (hu : X.A.units + 80 < cLine) : CallR X (.builtin "sorted") (rSortK X.K) := by
  intro pins s σ H vs us Q I r h
  obtain ⟨a, xs, k, rfl, hs, hx, hlk, q⟩ := h
  obtain ⟨its, rv, hl, hz⟩ := I.list hs
  obtain ⟨u, rfl, ru⟩ := vals1 r
  obtain rfl : u = Value.ref a := ru
  obtain ⟨e1, e2⟩ := refs_back rv fun x m => (hx x m).1
  have mem : ∀ v ∈ its, backV v ∈ xs := fun v hv => by rw [e1]; exact List.mem_map.mpr ⟨v, hv, rfl⟩
  refine SrtO.sorted_ord (SrtO.swo_data fun v => k (backV v)) hl.isList (by rw [← rv.length]; exact hz) (fun h2 h₁ b hb kk => ?_) fun out hsd hb => ?_
  · refine SrtO.data_sortableO (s := { s with heap := h₁ }) (k := fun v => k (backV v)) (by omega) (fun h' keep v hv => ?_) (fun v hv => (hx _ (mem v hv)).2.2.1) (fun v hv u hu => hlk _ (mem v hv) _ (mem u hu)) ?_
    · obtain ⟨t, rfl⟩ := e2 v hv
      obtain ⟨_, hd, _, ht⟩ := hx _ (mem _ hv)
      obtain ⟨as, rd⟩ := Dp.reads I _ _ (Value.ref t) hd rfl
      exact ⟨ht, as, PyProof.Rows.Reads.keeps (fun b' o' e => keep b' o' (kk b' o' e).1 (kk b' o' e).2) rd⟩
    · show X.A.units + 1 + 1 + 64 < cLine
      omega
  · have h3 : ∀ u ∈ out, ∃ a, u = Value.ref a := fun u hu => e2 u (hb.perm.mem_iff.mp hu)
    obtain ⟨n, hn⟩ := PyProof.Rows.sortedAll_at s.heap its out.toArray
    have hp : (out.map backV).Perm xs := by
      rw [e1]
      exact hb.perm.map backV
    refine ⟨.ref _, upd H (s.heap.objs.size + 1) (.lst (out.map backV)), I.laid (t' := s.toks) (fun _ _ => PyProof.Rows.sortedAll_old) (Nat.le_succ _) ⟨?_, out, n, vals_back h3, hn⟩, rfl, q _ _ (SrtO.srtd_map hsd) hp (I.hok.fresh (Nat.le_succ _))⟩
    rw [hp.length_eq]
    exact hz
end
end L2


namespace Toy
open PySem PySem.Spec L2 PyProof.Rows PySem.W
/-! ### the order of data: the program's key and the law's rank say one thing -/
def leS (a b : Str) : Bool := !ltCps b.cps.toList a.cps.toList
def skeys (ks : List Str) : List Str := ks.mergeSort leS
def look : List Str → List D → Str → D
  | k :: ks, d :: ds, x => if k = x then d else look ks ds x
  | _, _, _ => .non
def inner : D → List D
  | .lst ds => ds
  | .dct ks ds => (skeys ks).map (look ks ds)
  | _ => []
def cnt : Nat → D → Int
  | 0, _ => 1
  | n + 1, d => 1 + ((inner d).map (cnt n)).sum
def place : D → Int
  | .non => 0
  | .bl false => 1
  | .bl true => 2
  | .int _ => 3
  | .str _ => 4
  | .lst _ => 5
  | .dct _ _ => 6
def pairsP (ks : List Str) (xs : List PyData) : List PyData := List.zipWith (fun k x => PyData.tuple [.str k, x]) ks xs
/-- the parts, one level lower -/
def low (f : D → PyData) (g : Nat → D → PyData) : Nat → List D → List PyData
  | 0, _ => []
  | n + 1, ds => ds.map (g n)
def keyT (inn : List PyData) (c : Int) : D → PyData
  | .int i => .tuple [.int 1, .int 3, .int (if i > 0 then 2 * i - 1 else -2 * i)]
  | .str x => .tuple [.int 1, .int 4, .int x.length, .str x]
  | .dct ks ds => .tuple [.int c, .int 6, .tuple (pairsP (skeys ks) inn)]
  | d => .tuple [.int c, .int (place d), .tuple inn]
def key : Nat → D → PyData
  | 0, d => keyT [] 1 d
  | n + 1, d => keyT ((inner d).map (key n)) (cnt (n + 1) d) d
def rankT (inn : List PyData) (c : Int) : D → PyData
  | .int i => .tuple [.int 1, .int 3, .int (if i < 0 then -i else i), .int (if i < 0 then 1 else 0)]
  | .str x => .tuple [.int 1, .int 4, .int x.length, .str x]
  | .lst ds => .tuple [.int c, .int 5, .tuple inn]
  | .dct ks ds => .tuple [.int c, .int 6, .tuple (pairsP (skeys ks) inn)]
  | d => .tuple [.int 1, .int (place d)]
def rank : Nat → D → PyData
  | 0, d => rankT [] 1 d
  | n + 1, d => rankT ((inner d).map (rank n)) (cnt (n + 1) d) d
/-! two pairs that compare alike -/
def S2 (x y x' y' : PyData) : Prop := lk x y = true ∧ lk x' y' = true ∧ PyData.eqv x y = PyData.eqv x' y' ∧ dataLt x y = dataLt x' y'
def S2L (xs ys xs' ys' : List PyData) : Prop := lkAll xs ys = true ∧ lkAll xs' ys' = true ∧ PyData.eqvAll xs ys = PyData.eqvAll xs' ys' ∧ rowLt xs ys = rowLt xs' ys'
theorem row_cons {x y : PyData} {xs ys : List PyData} (h : lk x y = true) : rowLt (x :: xs) (y :: ys) = if PyData.eqv x y = true then rowLt xs ys else dataLt x y := by
  unfold rowLt
  cases e : PyData.eqv x y with
  | true => rw [if_pos rfl, lt_all_yes h e]
  | false => rw [if_neg Bool.false_ne_true, lt_all_no h e]
theorem S2L.cons {x y x' y' : PyData} {xs ys xs' ys' : List PyData} (h : S2 x y x' y') (t : PyData.eqv x y = true → S2L xs ys xs' ys') : S2L (x :: xs) (y :: ys) (x' :: xs') (y' :: ys') := by
  obtain ⟨h1, h2, h3, h4⟩ := h
  unfold S2L
  rw [row_cons h1, row_cons h2, eqv_all_cons, eqv_all_cons, lkAll, lkAll, h1, h2, ← h3, h4]
  cases e : PyData.eqv x y with
  | false => simp
  | true =>
    obtain ⟨t1, t2, t3, t4⟩ := t e
    rw [t1, t2, t3, t4]
    simp
theorem S2L.nil : S2L [] [] [] [] := by
  refine ⟨by simp [lkAll], by simp [lkAll], rfl, rfl⟩
theorem S2L.short {y y' : PyData} {ys ys' : List PyData} : S2L [] (y :: ys) [] (y' :: ys') := by
  refine ⟨by simp [lkAll], by simp [lkAll], by simp [PyData.eqvAll], ?_⟩
  unfold rowLt
  rw [toks_all_cons, toks_all_cons]
  simp only [keyToksAll]
  rw [lex_diff (O := itemOrd) (by simp), lex_diff (O := itemOrd) (by simp)]
theorem S2L.long {y y' : PyData} {ys ys' : List PyData} : S2L (y :: ys) [] (y' :: ys') [] := by
  refine ⟨by simp [lkAll], by simp [lkAll], by simp [PyData.eqvAll], ?_⟩
  unfold rowLt
  rw [toks_all_cons, toks_all_cons]
  simp only [keyToksAll]
  rw [lex_diff (O := itemOrd) (by simp), lex_diff (O := itemOrd) (by simp)]
theorem S2.tup {xs ys xs' ys' : List PyData} (h : S2L xs ys xs' ys') : S2 (.tuple xs) (.tuple ys) (.tuple xs') (.tuple ys') := by
  obtain ⟨h1, h2, h3, h4⟩ := h
  refine ⟨by simpa [lk] using h1, by simpa [lk] using h2, by simpa [PyData.eqv] using h3, ?_⟩
  rw [dataLt_tuple, dataLt_tuple]
  exact h4
theorem S2.int (i j : Int) : S2 (.int i) (.int j) (.int i) (.int j) := ⟨by simp [lk], by simp [lk], rfl, rfl⟩
theorem S2.str (x y : Str) : S2 (.str x) (.str y) (.str x) (.str y) := ⟨by simp [lk], by simp [lk], rfl, rfl⟩
theorem S2L.same {xs ys : List PyData} (h : lkAll xs ys = true) : S2L xs ys xs ys := ⟨h, h, rfl, rfl⟩
theorem S2L.maps {f g : D → PyData} (h : ∀ a b, S2 (f a) (f b) (g a) (g b)) : ∀ as bs : List D, S2L (as.map f) (bs.map f) (as.map g) (bs.map g)
  | [], [] => S2L.nil
  | [], _ :: _ => S2L.short
  | _ :: _, [] => S2L.long
  | a :: as, b :: bs => S2L.cons (h a b) fun _ => S2L.maps h as bs
theorem S2L.pairs {f g : D → PyData} (h : ∀ a b, S2 (f a) (f b) (g a) (g b)) : ∀ (ks ls : List Str) (as bs : List D), S2L (pairsP ks (as.map f)) (pairsP ls (bs.map f)) (pairsP ks (as.map g)) (pairsP ls (bs.map g))
  | [], [], _, _ => S2L.nil
  | k :: ks, ls, [], bs => by
    cases ls with
    | nil => exact S2L.nil
    | cons l ls =>
      cases bs with
      | nil => exact S2L.nil
      | cons b bs => exact S2L.short
  | [], l :: ls, as, bs => by
    cases bs with
    | nil => exact S2L.nil
    | cons b bs => exact S2L.short
  | k :: ks, [], a :: as, bs => S2L.long
  | k :: ks, l :: ls, a :: as, [] => S2L.long
  | k :: ks, l :: ls, a :: as, b :: bs => S2L.cons (S2.tup (S2L.cons (S2.str k l) fun _ => S2L.cons (h a b) fun _ => S2L.nil)) fun _ => S2L.pairs h ks ls as bs
theorem eqv_int (i j : Int) : PyData.eqv (.int i) (.int j) = decide (i = j) := by
  simp only [PyData.eqv]
  by_cases h : i = j <;> simp [h]
theorem int_tail (i j : Int) : S2L [.int (if i > 0 then 2 * i - 1 else -2 * i)] [.int (if j > 0 then 2 * j - 1 else -2 * j)] [.int (if i < 0 then -i else i), .int (if i < 0 then 1 else 0)] [.int (if j < 0 then -j else j), .int (if j < 0 then 1 else 0)] := by
  have key : ∀ a b c d e f : Int, (decide (a = b) = (decide (c = d) && decide (e = f))) → (decide (a < b) = if c = d then decide (e < f) else decide (c < d)) → S2L [.int a] [.int b] [.int c, .int e] [.int d, .int f] := by
    intro a b c d e f h1 h2
    refine ⟨by simp [lkAll, lk], by simp [lkAll, lk], ?_, ?_⟩
    · rw [eqv_all_cons, eqv_all_cons, eqv_all_cons, eqv_int, eqv_int, eqv_int, h1]
      simp [PyData.eqvAll]
    · rw [row_cons (by simp [lk]), row_cons (by simp [lk]), row_cons (by simp [lk]), eqv_int, eqv_int, eqv_int, dataLt_int, dataLt_int, dataLt_int]
      have z : rowLt [] [] = false := lex_irrefl _
      rw [z]
      by_cases hab : a = b
      · have h1' := h1
        rw [decide_eq_true hab] at h1'
        have : c = d ∧ e = f := by simpa using h1'.symm
        simp [hab, this.1, this.2]
      · by_cases hcd : c = d
        · rw [if_pos hcd] at h2
          by_cases hef : e = f
          · rw [decide_eq_false hab, decide_eq_true hcd, decide_eq_true hef] at h1
            cases h1
          · simp [hab, hcd, hef, h2]
        · rw [if_neg hcd] at h2
          simp [hab, hcd, h2]
  apply key
  · by_cases h1 : i > 0 <;> by_cases h2 : j > 0 <;> by_cases h3 : i < 0 <;> by_cases h4 : j < 0 <;> simp only [h1, h2, h3, h4, if_true, if_false, decide_true, decide_false, Bool.and_true, Bool.and_false, reduceIte] <;> first | omega | (apply Bool.eq_iff_iff.mpr; simp; omega)
  · by_cases h1 : i > 0 <;> by_cases h2 : j > 0 <;> by_cases h3 : i < 0 <;> by_cases h4 : j < 0 <;> simp only [h1, h2, h3, h4, if_true, if_false] <;> first | omega | (split <;> apply Bool.eq_iff_iff.mpr <;> simp <;> omega)
end Toy


namespace Toy
open PySem PySem.Spec L2 PyProof.Rows PySem.W
def innP (f : Nat → D → PyData) : Nat → D → List PyData
  | 0, _ => []
  | n + 1, d => (inner d).map (f n)
def keyTail (n : Nat) : D → List PyData
  | .int i => [.int (if i > 0 then 2 * i - 1 else -2 * i)]
  | .str x => [.int x.length, .str x]
  | .dct ks ds => [.tuple (pairsP (skeys ks) (innP key n (.dct ks ds)))]
  | d => [.tuple (innP key n d)]
def rankTail (n : Nat) : D → List PyData
  | .int i => [.int (if i < 0 then -i else i), .int (if i < 0 then 1 else 0)]
  | .str x => [.int x.length, .str x]
  | .lst ds => [.tuple (innP rank n (.lst ds))]
  | .dct ks ds => [.tuple (pairsP (skeys ks) (innP rank n (.dct ks ds)))]
  | _ => []
theorem cnt_leaf {n : Nat} {d : D} (h : inner d = []) : cnt n d = 1 := by
  cases n with
  | zero => rfl
  | succ n => rw [cnt, h]; rfl
theorem key_form (n : Nat) (d : D) : key n d = .tuple (.int (cnt n d) :: .int (place d) :: keyTail n d) := by
  cases d with
  | int i => rw [cnt_leaf rfl]; cases n <;> rfl
  | str x => rw [cnt_leaf rfl]; cases n <;> rfl
  | non => rw [cnt_leaf rfl]; cases n <;> rfl
  | bl b => rw [cnt_leaf rfl]; cases n <;> cases b <;> rfl
  | lst ds => cases n <;> rfl
  | dct ks ds => cases n <;> rfl
theorem rank_form (n : Nat) (d : D) : rank n d = .tuple (.int (cnt n d) :: .int (place d) :: rankTail n d) := by
  cases d with
  | int i => rw [cnt_leaf rfl]; cases n <;> rfl
  | str x => rw [cnt_leaf rfl]; cases n <;> rfl
  | non => rw [cnt_leaf rfl]; cases n <;> rfl
  | bl b => rw [cnt_leaf rfl]; cases n <;> cases b <;> rfl
  | lst ds => cases n <;> rfl
  | dct ks ds => cases n <;> rfl
theorem place_bl (b : Bool) : place (.bl b) = if b = true then 2 else 1 := by cases b <;> rfl
theorem tails {n : Nat} (ih : ∀ a b, S2L (innP key n a) (innP key n b) (innP rank n a) (innP rank n b)) (ihp : ∀ (ks ls : List Str) a b, S2L (pairsP ks (innP key n a)) (pairsP ls (innP key n b)) (pairsP ks (innP rank n a)) (pairsP ls (innP rank n b))) (a b : D) (h : place a = place b) :
    S2L (keyTail n a) (keyTail n b) (rankTail n a) (rankTail n b) := by
  have em : ∀ d, inner d = [] → innP key n d = [] := fun d e => by cases n with
    | zero => rfl
    | succ n => rw [innP, e]; rfl
  have one : S2L [.tuple []] [.tuple []] [] [] := by
    refine ⟨by simp [lkAll, lk], by simp [lkAll], by simp [PyData.eqvAll, PyData.eqv], ?_⟩
    rw [row_cons (by simp [lk, lkAll])]
    simp [PyData.eqv, PyData.eqvAll]
  cases a with
  | non =>
    cases b with
    | non => simp only [keyTail, rankTail]; rw [em _ rfl]; exact one
    | bl b => rw [place_bl] at h; cases b <;> simp [place] at h
    | _ => simp [place] at h
  | bl c =>
    cases b with
    | bl d => simp only [keyTail, rankTail]; rw [em _ rfl, em _ rfl]; exact one
    | non => rw [place_bl] at h; cases c <;> simp [place] at h
    | int j => rw [place_bl] at h; cases c <;> simp [place] at h
    | str j => rw [place_bl] at h; cases c <;> simp [place] at h
    | lst j => rw [place_bl] at h; cases c <;> simp [place] at h
    | dct j k => rw [place_bl] at h; cases c <;> simp [place] at h
  | int i =>
    cases b with
    | int j => exact int_tail i j
    | bl b => rw [place_bl] at h; cases b <;> simp [place] at h
    | _ => simp [place] at h
  | str x =>
    cases b with
    | str y => exact S2L.cons (S2.int _ _) fun _ => S2L.cons (S2.str _ _) fun _ => S2L.nil
    | bl b => rw [place_bl] at h; cases b <;> simp [place] at h
    | _ => simp [place] at h
  | lst ds =>
    cases b with
    | lst es => exact S2L.cons (S2.tup (ih _ _)) fun _ => S2L.nil
    | bl b => rw [place_bl] at h; cases b <;> simp [place] at h
    | _ => simp [place] at h
  | dct ks ds =>
    cases b with
    | dct ls es => exact S2L.cons (S2.tup (ihp _ _ _ _)) fun _ => S2L.nil
    | bl b => rw [place_bl] at h; cases b <;> simp [place] at h
    | _ => simp [place] at h
theorem same_order : ∀ (n : Nat) (a b : D), S2 (key n a) (key n b) (rank n a) (rank n b)
  | 0, a, b => by
    rw [key_form, key_form, rank_form, rank_form]
    refine S2.tup (S2L.cons (S2.int _ _) fun _ => S2L.cons (S2.int _ _) fun e => tails (n := 0) (fun _ _ => S2L.nil) (fun ks ls a b => ?_) a b ?_)
    · simp only [innP, pairsP, List.zipWith_nil_right]
      exact S2L.nil
    · rw [eqv_int] at e
      exact of_decide_eq_true e
  | n + 1, a, b => by
    rw [key_form, key_form, rank_form, rank_form]
    refine S2.tup (S2L.cons (S2.int _ _) fun _ => S2L.cons (S2.int _ _) fun e => tails (n := n + 1) (fun a b => S2L.maps (same_order n) _ _) (fun ks ls a b => S2L.pairs (same_order n) _ _ _ _) a b ?_)
    rw [eqv_int] at e
    exact of_decide_eq_true e
/-! which data are alike -/
def alk (n : Nat) (a b : D) : Bool := PyData.eqv (rank n a) (rank n b)
theorem alk_form (n : Nat) (a b : D) : alk n a b = (decide (cnt n a = cnt n b) && (decide (place a = place b) && PyData.eqvAll (rankTail n a) (rankTail n b))) := by
  unfold alk
  rw [rank_form, rank_form]
  simp only [PyData.eqv]
  rw [eqv_all_cons, eqv_all_cons, eqv_int, eqv_int]
theorem alk_cnt {n : Nat} {a b : D} (h : alk n a b = true) : cnt n a = cnt n b ∧ place a = place b := by
  rw [alk_form, Bool.and_eq_true, Bool.and_eq_true] at h
  exact ⟨of_decide_eq_true h.1, of_decide_eq_true h.2.1⟩
theorem alk_other {n : Nat} {a b : D} (h : place a ≠ place b) : alk n a b = false := by
  rw [alk_form, decide_eq_false h]
  simp
theorem eqv_maps (n : Nat) : ∀ as bs : List D, PyData.eqvAll (as.map (rank n)) (bs.map (rank n)) = (decide (as.length = bs.length) && (List.zipWith (alk n) as bs).all id)
  | [], [] => by simp [PyData.eqvAll]
  | [], _ :: _ => by simp [PyData.eqvAll]
  | _ :: _, [] => by simp [PyData.eqvAll]
  | a :: as, b :: bs => by
    rw [List.map_cons, List.map_cons, eqv_all_cons, eqv_maps n as bs]
    show (alk n a b && _) = _
    simp only [List.length_cons, List.zipWith_cons_cons, List.all_cons, id]
    rw [show decide (as.length + 1 = bs.length + 1) = decide (as.length = bs.length) from decide_eq_decide.mpr (by omega)]
    cases alk n a b <;> simp
theorem zip_cnt (n : Nat) : ∀ as bs : List D, as.length = bs.length → (List.zipWith (alk n) as bs).all id = true → (as.map (cnt n)).sum = (bs.map (cnt n)).sum
  | [], [], _, _ => rfl
  | [], _ :: _, h, _ => absurd h (by simp)
  | _ :: _, [], h, _ => absurd h (by simp)
  | a :: as, b :: bs, h, q => by
    simp only [List.zipWith_cons_cons, List.all_cons, id, Bool.and_eq_true] at q
    simp only [List.map_cons, List.sum_cons]
    rw [(alk_cnt q.1).1, zip_cnt n as bs (by simpa using h) q.2]
theorem alk_lst (n : Nat) (ds es : List D) : alk (n + 1) (.lst ds) (.lst es) = (decide (ds.length = es.length) && (List.zipWith (alk n) ds es).all id) := by
  rw [alk_form]
  show (_ && (decide (place (.lst ds) = place (.lst es)) && PyData.eqvAll [.tuple (ds.map (rank n))] [.tuple (es.map (rank n))])) = _
  rw [decide_eq_true (show place (.lst ds) = place (.lst es) from rfl), Bool.true_and, eqv_all_cons]
  have e0 : PyData.eqvAll [] [] = true := rfl
  rw [e0, Bool.and_true]
  have e1 : PyData.eqv (.tuple (ds.map (rank n))) (.tuple (es.map (rank n))) = PyData.eqvAll (ds.map (rank n)) (es.map (rank n)) := rfl
  rw [e1, eqv_maps]
  by_cases h : ds.length = es.length
  · rw [decide_eq_true h, Bool.true_and]
    cases q : (List.zipWith (alk n) ds es).all id with
    | false => simp
    | true =>
      have z : cnt (n + 1) (.lst ds) = cnt (n + 1) (.lst es) := by
        show 1 + ((ds.map (cnt n)).sum) = 1 + ((es.map (cnt n)).sum)
        rw [zip_cnt n ds es h q]
      simp [z]
  · rw [decide_eq_false h]
    simp
theorem eqv_pairs (n : Nat) : ∀ (ks ls : List Str) (as bs : List D), ks.length = as.length → ls.length = bs.length → PyData.eqvAll (pairsP ks (as.map (rank n))) (pairsP ls (bs.map (rank n))) = (decide (ks = ls) && (List.zipWith (alk n) as bs).all id)
  | [], [], [], [], _, _ => by simp [PyData.eqvAll, pairsP]
  | [], l :: ls, [], b :: bs, _, _ => by simp [PyData.eqvAll, pairsP]
  | k :: ks, [], a :: as, [], _, _ => by simp [PyData.eqvAll, pairsP]
  | k :: ks, l :: ls, a :: as, b :: bs, h1, h2 => by
    have ih := eqv_pairs n ks ls as bs (by simpa using h1) (by simpa using h2)
    have e : PyData.eqvAll (pairsP (k :: ks) ((a :: as).map (rank n))) (pairsP (l :: ls) ((b :: bs).map (rank n))) = ((decide (k = l) && (alk n a b && true)) && PyData.eqvAll (pairsP ks (as.map (rank n))) (pairsP ls (bs.map (rank n)))) := by
      show PyData.eqvAll (.tuple [.str k, rank n a] :: pairsP ks (as.map (rank n))) (.tuple [.str l, rank n b] :: pairsP ls (bs.map (rank n))) = _
      rw [eqv_all_cons]
      congr 1
    rw [e, ih]
    by_cases h : k = l
    · by_cases h' : ks = ls
      · simp [h, h']
      · simp [h, h']
    · simp [h]
  | [], _, _ :: _, _, h, _ => absurd h (by simp)
  | _ :: _, _, [], _, h, _ => absurd h (by simp)
  | _, [], _, _ :: _, _, h => absurd h (by simp)
  | _, _ :: _, _, [], _, h => absurd h (by simp)
theorem alk_dct (n : Nat) (ks ls : List Str) (ds es : List D) : alk (n + 1) (.dct ks ds) (.dct ls es) = (decide (skeys ks = skeys ls) && (List.zipWith (alk n) (inner (.dct ks ds)) (inner (.dct ls es))).all id) := by
  rw [alk_form]
  show (_ && (decide (place (.dct ks ds) = place (.dct ls es)) && PyData.eqvAll [.tuple (pairsP (skeys ks) ((inner (.dct ks ds)).map (rank n)))] [.tuple (pairsP (skeys ls) ((inner (.dct ls es)).map (rank n)))])) = _
  rw [decide_eq_true (show place (.dct ks ds) = place (.dct ls es) from rfl), Bool.true_and, eqv_all_cons]
  have e0 : PyData.eqvAll [] [] = true := rfl
  rw [e0, Bool.and_true]
  have e1 : PyData.eqv (.tuple (pairsP (skeys ks) ((inner (.dct ks ds)).map (rank n)))) (.tuple (pairsP (skeys ls) ((inner (.dct ls es)).map (rank n)))) = PyData.eqvAll (pairsP (skeys ks) ((inner (.dct ks ds)).map (rank n))) (pairsP (skeys ls) ((inner (.dct ls es)).map (rank n))) := rfl
  have l1 : (skeys ks).length = (inner (.dct ks ds)).length := by simp [inner]
  have l2 : (skeys ls).length = (inner (.dct ls es)).length := by simp [inner]
  rw [e1, eqv_pairs n _ _ _ _ l1 l2]
  by_cases h : skeys ks = skeys ls
  · rw [decide_eq_true h, Bool.true_and]
    cases q : (List.zipWith (alk n) (inner (.dct ks ds)) (inner (.dct ls es))).all id with
    | false => simp
    | true =>
      have z : cnt (n + 1) (.dct ks ds) = cnt (n + 1) (.dct ls es) := by
        show 1 + (((inner (.dct ks ds)).map (cnt n)).sum) = 1 + (((inner (.dct ls es)).map (cnt n)).sum)
        rw [zip_cnt n _ _ (by rw [← l1, ← l2, h]) q]
      simp [z]
  · rw [decide_eq_false h]
    simp
theorem less_cnt {n : Nat} {a b : D} (h : cnt n a < cnt n b) : dataLt (key n a) (key n b) = true := by
  rw [key_form, key_form, dataLt_tuple]
  show rowLt _ _ = true
  rw [row_cons (by simp [lk]), eqv_int, decide_eq_false (by omega), if_neg Bool.false_ne_true, dataLt_int]
  exact decide_eq_true h
end Toy


namespace Toy
open PySem PySem.Spec L2 PyProof.Rows PySem.W
abbrev sSteps : Stmt := top 5
/-! ### the one sorted row of the keys -/
theorem cNeg {a b c : List Nat} (h : ltCps a c = true) : ltCps a b = true ∨ ltCps b c = true := by
  rw [PyProof.Rows.ltCps_eq] at h ⊢
  rw [PyProof.Rows.ltCps_eq]
  exact PyProof.Rows.strKind.negTrans a b c h
theorem cTot {a b : List Nat} (h : ltCps a b = false) (h' : ltCps b a = false) : a = b := by
  rw [PyProof.Rows.ltCps_eq] at h h'
  exact PyProof.Rows.strKind.total a b h h'
theorem cAsy {a b : List Nat} (h : ltCps a b = true) (h' : ltCps b a = true) : False := by
  rw [PyProof.Rows.ltCps_eq] at h h'
  have z := PyProof.Rows.strKind.trans a b a h h'
  rw [PyProof.Rows.strKind.irrefl] at z
  cases z
theorem rising_pair : ∀ (p : Str) (l : List Str), risingS p l = true → (p :: l).Pairwise fun a b => leS a b = true
  | p, [], _ => List.pairwise_singleton _ _
  | p, x :: r, h => by
    have h' : (!ltCps x.cps.toList p.cps.toList && risingS x r) = true := h
    rw [Bool.and_eq_true] at h'
    have ih := rising_pair x r h'.2
    refine List.pairwise_cons.mpr ⟨fun y hy => ?_, ih⟩
    have h1 : ltCps x.cps.toList p.cps.toList = false := by simpa using h'.1
    have hxp : leS p x = true := h'.1
    rcases List.mem_cons.mp hy with e | hy
    · rw [e]; exact hxp
    · have hxy : leS x y = true := (List.pairwise_cons.mp ih).1 y hy
      have h2 : ltCps y.cps.toList x.cps.toList = false := by simpa [leS] using hxy
      show (!ltCps y.cps.toList p.cps.toList) = true
      cases q : ltCps y.cps.toList p.cps.toList with
      | false => rfl
      | true =>
        rcases cNeg (b := x.cps.toList) q with z | z
        · have z' : ltCps y.cps.toList x.cps.toList = true := z
          rw [h2] at z'
          cases z'
        · have z' : ltCps x.cps.toList p.cps.toList = true := z
          rw [h1] at z'
          cases z'
theorem sorted_pair {l : List Str} (h : sortedS l = true) : l.Pairwise fun a b => leS a b = true := by
  cases l with
  | nil => exact .nil
  | cons x r => exact rising_pair x r h
theorem skeys_perm (ks : List Str) : (skeys ks).Perm ks := List.mergeSort_perm _ _
theorem skeys_uniq {ks ys : List Str} (p : ys.Perm ks) (s : sortedS ys = true) : ys = skeys ks := by
  refine List.Perm.eq_of_pairwise (le := fun a b => leS a b = true) (fun a b _ _ h1 h2 => ?_) (sorted_pair s) ?_ (p.trans (skeys_perm ks).symm)
  · have e1 : ltCps b.cps.toList a.cps.toList = false := by simpa [leS] using h1
    have e2 : ltCps a.cps.toList b.cps.toList = false := by simpa [leS] using h2
    exact str_of_cps (cTot e2 e1)
  · refine List.pairwise_mergeSort (fun a b c h1 h2 => ?_) (fun a b => ?_) ks
    · have e1 : ltCps b.cps.toList a.cps.toList = false := by simpa [leS] using h1
      have e2 : ltCps c.cps.toList b.cps.toList = false := by simpa [leS] using h2
      show (!ltCps c.cps.toList a.cps.toList) = true
      cases q : ltCps c.cps.toList a.cps.toList with
      | false => rfl
      | true =>
        rcases cNeg (b := b.cps.toList) q with z | z
        · have z' : ltCps c.cps.toList b.cps.toList = true := z
          rw [e2] at z'
          cases z'
        · have z' : ltCps b.cps.toList a.cps.toList = true := z
          rw [e1] at z'
          cases z'
    · unfold leS
      cases q : ltCps b.cps.toList a.cps.toList with
      | false => simp
      | true =>
        cases q' : ltCps a.cps.toList b.cps.toList with
        | false => simp
        | true =>
          exact (cAsy q q').elim
/-! ### sorts -/
def sortS : D → Str
  | .non => "null"
  | .bl false => "no"
  | .bl true => "yes"
  | .int _ => "number"
  | .str _ => "text"
  | .lst _ => "list"
  | .dct _ _ => "dict"
def tyS : D → String
  | .non => "NoneType"
  | .bl _ => "bool"
  | .int _ => "int"
  | .str _ => "str"
  | .lst _ => "list"
  | .dct _ _ => "dict"
theorem ty_of {K : PySem.W.Frag} {H : Hp} : ∀ {n : Nat} {v : V} {d : D}, Da n H v d → TyX K H v (.type (tyS d)) := by
  intro n v d h
  cases d with
  | non => cases n <;> (simp only [Da] at h; subst h; exact .base .non)
  | bl b => cases n <;> (simp only [Da] at h; subst h; exact .base (.bl b))
  | int i => cases n <;> (simp only [Da] at h; subst h; exact .base (.int i))
  | str x => cases n <;> (simp only [Da] at h; obtain ⟨rfl, _⟩ := h; exact .base (.str x))
  | lst ds =>
    cases n with
    | zero => simp only [Da] at h
    | succ n =>
      simp only [Da] at h
      obtain ⟨a, xs, rfl, h2, _⟩ := h
      exact .base (.lst h2)
  | dct ks ds =>
    cases n with
    | zero => simp only [Da] at h
    | succ n =>
      simp only [Da] at h
      obtain ⟨a, us, rfl, h2, _⟩ := h
      exact .base (.dK h2)
section
variable {P : Program} {w : World} {K : PySem.W.Frag} {mg : Str → Option Value} {base : Heap}
theorem non_iff {n : Nat} {H : Hp} {v : V} {d : D} (h : Da n H v d) : decide (v = .non) = (match d with | .non => true | _ => false) := by
  cases d with
  | non => cases n <;> (simp only [Da] at h; subst h; rfl)
  | bl b => cases n <;> (simp only [Da] at h; subst h; rfl)
  | int i => cases n <;> (simp only [Da] at h; subst h; rfl)
  | str x => cases n <;> (simp only [Da] at h; obtain ⟨rfl, _⟩ := h; rfl)
  | lst ds =>
    cases n with
    | zero => simp only [Da] at h
    | succ n =>
      simp only [Da] at h
      obtain ⟨a, xs, rfl, _⟩ := h
      rfl
  | dct ks ds =>
    cases n with
    | zero => simp only [Da] at h
    | succ n =>
      simp only [Da] at h
      obtain ⟨a, us, rfl, _⟩ := h
      rfl
end
end Toy


namespace L2
open PySem PySem.Spec PyProof.Rows
section
variable {X : Cx} {e : Expr} {t1 t2 : TE}
/-- what either rule says of one expression -/
def tEither (t1 t2 : TE) : TE := fun σ H Q => t1 σ H Q ∨ t2 σ H Q
theorem pe_either (h1 : PE X e t1) (h2 : PE X e t2) : PE X e (tEither t1 t2) := ⟨fun pins s σ H Q I h => h.elim (h1.run pins s σ H Q I) (h2.run pins s σ H Q I)⟩
end
end L2
namespace Toy
open PySem PySem.Spec L2 PyProof.Rows PySem.W
def stepsV : D → List V
  | .lst ds => (List.range ds.length).map fun i => V.int (i : Nat)
  | .dct ks _ => (skeys ks).map V.str
  | _ => []
/-- the values of the parts, one level lower -/
def Inn : Nat → Hp → List V → List D → Prop
  | 0, _, us, ds => us = [] ∧ ds = []
  | n + 1, H, us, ds => Paired (fun x d => Da n H x d) us ds
theorem paired_get {α β : Type} {R : α → β → Prop} : ∀ {us : List α} {ds : List β}, Paired R us ds → ∀ (i : Nat) (u : α), us[i]? = some u → ∃ d, ds[i]? = some d ∧ R u d
  | _, _, .nil, i, u, h => by simp at h
  | _, _, .cons r t, 0, u, h => by simp at h; exact ⟨_, rfl, h ▸ r⟩
  | _, _, .cons r t, i + 1, u, h => paired_get t i u h
theorem paired_of {α β : Type} {R : α → β → Prop} : ∀ {us : List α} {ds : List β}, us.length = ds.length → (∀ (i : Nat) (u : α) (d : β), us[i]? = some u → ds[i]? = some d → R u d) → Paired R us ds
  | [], [], _, _ => .nil
  | [], _ :: _, h, _ => absurd h (by simp)
  | _ :: _, [], h, _ => absurd h (by simp)
  | u :: us, d :: ds, h, r => .cons (r 0 u d rfl rfl) (paired_of (by simpa using h) fun i u' d' h1 h2 => r (i + 1) u' d' h1 h2)
theorem look_at {R : V → D → Prop} : ∀ {ks : List Str} {us : List V} {ds : List D}, Paired R us ds → us.length = ks.length → ∀ k ∈ ks, ∃ u, valV (kvOf ks us) (Sum.inr k) = some u ∧ R u (look ks ds k)
  | [], _, _, _, _, k, h => absurd h (by simp)
  | _ :: _, _, _, .nil, h, _, _ => absurd h (by simp)
  | k' :: ks, u :: us, d :: ds, .cons r t, hl, k, hk => by
    by_cases e : k' = k
    · refine ⟨u, valV_pos (by rw [e]), ?_⟩
      rw [look, if_pos e]
      exact r
    · have hk' : k ∈ ks := by
        rcases List.mem_cons.mp hk with z | z
        · exact absurd z.symm e
        · exact z
      obtain ⟨u', h1, h2⟩ := look_at t (by simpa using hl) k hk'
      refine ⟨u', (valV_neg (fun z => e (Sum.inr.inj z))).trans h1, ?_⟩
      rw [look, if_neg e]
      exact h2
def spSteps : Sp := fun vs H Q _ => ∃ (v : V) (n : Nat) (d : D), vs = [v] ∧ Da n H v d ∧ ∀ H' R, Same H H' → H R = none → H' R = some (.lst (stepsV d)) → Q (.ref R) H'
section
variable {P : Program} {w : World} {K : PySem.W.Frag} {mg : Str → Option Value} {base : Heap}
theorem scSt : FnScope ["datum"] ["datum"] (defScope sSteps) := ⟨rfl, rfl, rfl, by decide +kernel, rfl, by decide +kernel, by decide +kernel⟩
theorem kv_keys {ks : List Str} {us : List V} (h : us.length = ks.length) : (kvOf ks us).map (·.1) = ks.map Sum.inr := by
  unfold kvOf
  rw [List.map_map]
  have z : ((ks.zip us).map Prod.fst).map (Sum.inr : Str → Key) = ks.map Sum.inr := by rw [List.map_fst_zip (by omega)]
  rw [List.map_map] at z
  exact z
theorem rg_nat (n : Nat) : rgV 0 (n : Int) = (List.range n).map fun i => V.int (i : Nat) := by
  unfold rgV
  rw [Int.sub_zero, Int.toNat_natCast]
  refine List.map_congr_left fun i _ => ?_
  rw [Int.zero_add]
theorem ok_steps {f : Addr} {fd : FuncData} (F : Fun K "steps_into" "steps_into" sSteps f fd) (mI : mg "isinstance" = none) (mL : mg "list" = none) (mD : mg "dict" = none) (mR : mg "range" = none) (mLen : mg "len" = none) (mS : mg "sorted" = none) : FnOk P w K mg base CX0 1 f fd ["datum"] spSteps := by
  refine F.ok scSt (fun vs H Q E h => ?_) (fun cdv A outer s H vs Q E hr h => ?_)
  · obtain ⟨v, n, d, rfl, _⟩ := h
    rfl
  · obtain ⟨v, n, d, rfl, hd, q⟩ := h
    refine ⟨_, pss_cons (ps_if (pt_val (pe_callB call_isi (by rfl) mI PyProof.Rows.boot_isinstance (pa_cons (pv 0) (pa_cons (pe_bltn (v := .ty "list") (by rfl) mL (by decide +kernel) rfl) pa_nil))))
        (pss_one (ps_ret (pe_listRg (by rfl) (by rfl) mL (prg_1 (by rfl) mR (pe_callB call_len_seq (by rfl) mLen PySem.boot_len (pa_cons (pv 0) pa_nil)))))) pss_nil)
      (pss_one (ps_ret (pe_ifExp (pt_val (pe_callB call_isi (by rfl) mI PyProof.Rows.boot_isinstance (pa_cons (pv 0) (pa_cons (pe_bltn (v := .ty "dict") (by rfl) mD (by decide +kernel) rfl) pa_nil)))) (pe_callB (call_sortedD rfl) (by rfl) mS (by decide +kernel) (pa_cons (pv 0) pa_nil)) (pe_lst pa_nil)))), ?_⟩
    have lens : ∀ {m : Nat} {us : List V} {ds : List D}, Paired (fun x d => Da m H x d) us ds → us.length = ds.length := fun p => p.length
    cases d with
    | non =>
      have ty : TyX K H v (.type "NoneType") := ty_of hd
      exact ⟨_, rfl, _, _, _, _, false, rfl, .ty _, ty, kit_ty (by decide +kernel), _, rfl, iteF ⟨_, rfl, _, _, _, _, false, rfl, .ty _, ty, kit_ty (by decide +kernel), _, rfl, iteF ⟨Nat.zero_le _, fun R nR => q _ R (same_new (fun _ _ z => z) nR) nR upd_same⟩⟩⟩
    | bl b =>
      have ty : TyX K H v (.type "bool") := ty_of hd
      exact ⟨_, rfl, _, _, _, _, false, rfl, .ty _, ty, kit_ty (by decide +kernel), _, rfl, iteF ⟨_, rfl, _, _, _, _, false, rfl, .ty _, ty, kit_ty (by decide +kernel), _, rfl, iteF ⟨Nat.zero_le _, fun R nR => q _ R (same_new (fun _ _ z => z) nR) nR upd_same⟩⟩⟩
    | int i =>
      have ty : TyX K H v (.type "int") := ty_of hd
      exact ⟨_, rfl, _, _, _, _, false, rfl, .ty _, ty, kit_ty (by decide +kernel), _, rfl, iteF ⟨_, rfl, _, _, _, _, false, rfl, .ty _, ty, kit_ty (by decide +kernel), _, rfl, iteF ⟨Nat.zero_le _, fun R nR => q _ R (same_new (fun _ _ z => z) nR) nR upd_same⟩⟩⟩
    | str x =>
      have ty : TyX K H v (.type "str") := ty_of hd
      exact ⟨_, rfl, _, _, _, _, false, rfl, .ty _, ty, kit_ty (by decide +kernel), _, rfl, iteF ⟨_, rfl, _, _, _, _, false, rfl, .ty _, ty, kit_ty (by decide +kernel), _, rfl, iteF ⟨Nat.zero_le _, fun R nR => q _ R (same_new (fun _ _ z => z) nR) nR upd_same⟩⟩⟩
    | lst ds =>
      have ty : TyX K H v (.type "list") := ty_of hd
      cases n with
      | zero => simp only [Da] at hd
      | succ n =>
        simp only [Da] at hd
        obtain ⟨a, xs, rfl, h2, h3, h4⟩ := hd
        have e := lens h4
        refine ⟨_, rfl, _, _, _, _, true, rfl, .ty _, ty, kit_ty (by decide +kernel), _, rfl, iteT ⟨_, rfl, a, xs, rfl, .inl (SqL.of h2), _, rfl, RgOk.of_le (by omega) (by omega) (by omega) (by omega), fun R nR => q _ R (same_new (fun _ _ z => z) nR) nR ?_⟩⟩
        rw [upd_same, rg_nat, e]
        rfl
    | dct ks ds =>
      have ty : TyX K H v (.type "dict") := ty_of hd
      cases n with
      | zero => simp only [Da] at hd
      | succ n =>
        simp only [Da] at hd
        obtain ⟨a, us, rfl, h2, h3, h4, h5, h6, h7⟩ := hd
        refine ⟨_, rfl, _, _, _, _, false, rfl, .ty _, ty, kit_ty (by decide +kernel), _, rfl, iteF ⟨_, rfl, _, _, _, _, true, rfl, .ty _, ty, kit_ty (by decide +kernel), _, rfl, iteT ⟨_, rfl, a, _, ks, rfl, .inl h2, kv_keys h4, by omega, fun ys R p1 p2 nR => q _ R (same_new (fun _ _ z => z) nR) nR ?_⟩⟩⟩
        rw [upd_same, skeys_uniq p1 p2]
        rfl
end
end Toy


namespace Toy
open PySem PySem.Spec L2 PyProof.Rows PySem.W
theorem Inn.mono {H H' : Hp} (s : Same H H') : ∀ {n : Nat} {us : List V} {ds : List D}, Inn n H us ds → Inn n H' us ds
  | 0, _, _, h => h
  | _ + 1, _, _, h => paired_mono s (Nat.le_refl _) h
theorem Inn.len {H : Hp} : ∀ {n : Nat} {us : List V} {ds : List D}, Inn n H us ds → us.length = ds.length
  | 0, _, _, h => by rw [h.1, h.2]; rfl
  | _ + 1, _, _, h => Paired.length h
/-- datum[step], step by step -/
def SubOk (K : PySem.W.Frag) (H : Hp) (v x u : V) : Prop := ∀ (H2 : Hp) (Q : VK), Same H H2 → Q u H2 → rIxL K v x H2 Q ∨ ∃ a z, v = .ref a ∧ DGet H2 a x (some z) ∧ Q z H2
theorem sub_read {K : PySem.W.Frag} {H : Hp} : ∀ {n : Nat} {v : V} {d : D}, Da n H v d → ∃ us : List V, Inn n H us (inner d) ∧ us.length = (stepsV d).length ∧ us.length ≤ 20 ∧ ∀ (i : Nat) (x u : V), (stepsV d)[i]? = some x → us[i]? = some u → SubOk K H v x u := by
  intro n v d hd
  have none : stepsV d = [] → inner d = [] → ∃ us : List V, Inn n H us (inner d) ∧ us.length = (stepsV d).length ∧ us.length ≤ 20 ∧ ∀ (i : Nat) (x u : V), (stepsV d)[i]? = some x → us[i]? = some u → SubOk K H v x u := fun e1 e2 => by
    refine ⟨[], ?_, by rw [e1], Nat.zero_le _, fun i x u h1 h2 => by simp at h2⟩
    rw [e2]
    cases n with
    | zero => exact ⟨rfl, rfl⟩
    | succ n => exact .nil
  cases d with
  | non => exact none rfl rfl
  | bl b => exact none rfl rfl
  | int i => exact none rfl rfl
  | str x => exact none rfl rfl
  | lst ds =>
    cases n with
    | zero => simp only [Da] at hd
    | succ n =>
      simp only [Da] at hd
      obtain ⟨a, xs, rfl, h2, h3, h4⟩ := hd
      have e : xs.length = ds.length := Paired.length h4
      refine ⟨xs, h4, by simp [stepsV, e], h3, fun i x u h1 h2' H2 Q s q => ?_⟩
      have hi : x = .int (i : Nat) := by
        simp only [stepsV, List.getElem?_map] at h1
        by_cases hl : i < ds.length
        · rw [List.getElem?_range hl] at h1
          exact (Option.some.inj h1).symm
        · rw [List.getElem?_eq_none (by rw [List.length_range]; omega)] at h1
          cases h1
      subst hi
      exact .inl ⟨a, xs, _, u, rfl, rfl, SqL.of (s _ _ h2), atI_nat h2', q⟩
  | dct ks ds =>
    cases n with
    | zero => simp only [Da] at hd
    | succ n =>
      simp only [Da] at hd
      obtain ⟨a, us, rfl, h2, h3, h4, h5, h6, h7⟩ := hd
      have lk := look_at h7 h4
      refine ⟨(skeys ks).map fun k => (valV (kvOf ks us) (Sum.inr k)).getD .non, ?_, by simp [stepsV], by rw [List.length_map, (skeys_perm ks).length_eq]; exact h3, fun i x u h1 h2' H2 Q s q => ?_⟩
      · refine paired_of (by simp [inner]) fun i u d' g1 g2 => ?_
        simp only [inner, List.getElem?_map] at g1 g2
        cases hk : (skeys ks)[i]? with
        | none => rw [hk] at g1; cases g1
        | some k =>
          rw [hk] at g1 g2
          have mk : k ∈ ks := (skeys_perm ks).mem_iff.mp (List.mem_of_getElem? hk)
          obtain ⟨u', e1, e2⟩ := lk k mk
          have g1' := Option.some.inj g1
          have g2' := Option.some.inj g2
          simp only [e1, Option.getD_some] at g1'
          rw [← g1', ← g2']
          exact e2
      · simp only [stepsV, List.getElem?_map] at h1 h2'
        cases hk : (skeys ks)[i]? with
        | none => rw [hk] at h1; cases h1
        | some k =>
          rw [hk] at h1 h2'
          have mk : k ∈ ks := (skeys_perm ks).mem_iff.mp (List.mem_of_getElem? hk)
          obtain ⟨u', e1, e2⟩ := lk k mk
          have h1' := Option.some.inj h1
          have h2'' := Option.some.inj h2'
          simp only [e1, Option.getD_some] at h2''
          subst h2''
          subst h1'
          have z := DGet.k (k := Sum.inr k) (s _ _ h2)
          rw [e1] at z
          exact .inr ⟨a, u', rfl, z, q⟩
section
variable {P : Program} {w : World} {K : PySem.W.Frag} {mg : Str → Option Value} {base : Heap}
end
end Toy


namespace Toy
open PySem PySem.Spec L2 PyProof.Rows PySem.W
theorem fresh_of {H H1 : Hp} {p : Addr} (s : Same H H1) (n : H1 p = none) : H p = none := by
  cases e : H p with
  | none => rfl
  | some o =>
    rw [s _ _ e] at n
    cases n
section
variable {P : Program} {w : World} {K : PySem.W.Frag} {mg : Str → Option Value} {base : Heap}
end
end Toy


namespace Toy
open PySem PySem.Spec L2 PyProof.Rows PySem.W
/-! ### alike -/
def leafPy : D → PyData
  | .bl b => .bool b
  | .int i => .int i
  | .str x => .str x
  | _ => .none
theorem leaf_dp {K : PySem.W.Frag} {H : Hp} : ∀ {n : Nat} {v : V} {d : D}, Da n H v d → place d < 5 → Dp K H v (leafPy d) ∧ SeqAt.shaped (leafPy d) = true := by
  intro n v d h hp
  cases d with
  | non => cases n <;> (simp only [Da] at h; subst h; exact ⟨.non, by decide +kernel⟩)
  | bl b => cases n <;> (simp only [Da] at h; subst h; exact ⟨.bl b, by simp [leafPy, SeqAt.shaped, PyData.canLay0, PyData.depth]⟩)
  | int i => cases n <;> (simp only [Da] at h; subst h; exact ⟨.int i, by simp [leafPy, SeqAt.shaped, PyData.canLay0, PyData.depth]⟩)
  | str x => cases n <;> (simp only [Da] at h; obtain ⟨rfl, hx⟩ := h; exact ⟨.str x, by simp [leafPy, SeqAt.shaped, PyData.canLay0, PyData.depth, hx]⟩)
  | lst ds => exact absurd hp (by simp [place])
  | dct ks ds => exact absurd hp (by simp [place])
theorem leaf_alk {n : Nat} {a b : D} (h : place a = place b) (hp : place a < 5) : PyData.eqv (leafPy a) (leafPy b) = alk n a b := by
  rw [alk_form, decide_eq_true h, Bool.true_and]
  cases a with
  | non =>
    cases b with
    | non => rw [cnt_leaf rfl]; simp [leafPy, rankTail, PyData.eqv, PyData.eqvAll]
    | bl b => rw [place_bl] at h; cases b <;> simp [place] at h
    | _ => simp [place] at h
  | bl c =>
    cases b with
    | bl d =>
      rw [cnt_leaf rfl, cnt_leaf rfl]
      rw [place_bl, place_bl] at h
      cases c <;> cases d <;> first | (simp [leafPy, rankTail, PyData.eqv, PyData.eqvAll]; done) | simp at h
    | non => rw [place_bl] at h; cases c <;> simp [place] at h
    | int j => rw [place_bl] at h; cases c <;> simp [place] at h
    | str j => rw [place_bl] at h; cases c <;> simp [place] at h
    | lst j => rw [place_bl] at h; cases c <;> simp [place] at h
    | dct j k => rw [place_bl] at h; cases c <;> simp [place] at h
  | int i =>
    cases b with
    | int j =>
      rw [cnt_leaf rfl, cnt_leaf rfl]
      simp only [leafPy, rankTail]
      rw [eqv_all_cons, eqv_all_cons, eqv_int, eqv_int, eqv_int]
      have e0 : PyData.eqvAll [] [] = true := rfl
      rw [e0]
      simp only [decide_true, Bool.true_and, Bool.and_true]
      apply Bool.eq_iff_iff.mpr
      simp only [Bool.and_eq_true, decide_eq_true_eq]
      constructor
      · intro z
        rw [z]
        exact ⟨rfl, rfl⟩
      · rintro ⟨z1, z2⟩
        by_cases h1 : i < 0 <;> by_cases h2 : j < 0 <;> simp only [h1, h2, if_true, if_false] at z1 z2 <;> omega
    | bl b => rw [place_bl] at h; cases b <;> simp [place] at h
    | _ => simp [place] at h
  | str x =>
    cases b with
    | str y =>
      rw [cnt_leaf rfl, cnt_leaf rfl]
      simp only [leafPy, rankTail]
      rw [eqv_all_cons, eqv_all_cons, eqv_int]
      have e0 : PyData.eqvAll [] [] = true := rfl
      rw [e0]
      simp only [decide_true, Bool.true_and, Bool.and_true]
      simp only [PyData.eqv]
      by_cases z : x = y
      · subst z
        simp
      · simp [z]
    | bl b => rw [place_bl] at h; cases b <;> simp [place] at h
    | _ => simp [place] at h
  | lst ds => exact absurd hp (by simp [place])
  | dct ks ds => exact absurd hp (by simp [place])
def placeS : Int → Str
  | 0 => "null"
  | 1 => "no"
  | 2 => "yes"
  | 3 => "number"
  | 4 => "text"
  | 5 => "list"
  | _ => "dict"
theorem sort_place (d : D) : sortS d = placeS (place d) := by
  cases d with
  | bl b => cases b <;> rfl
  | _ => rfl
theorem place_le (d : D) : 0 ≤ place d ∧ place d ≤ 6 := by
  cases d with
  | bl b => cases b <;> simp [place]
  | _ => simp [place]
theorem sort_eq (a b : D) : decide (sortS a = sortS b) = decide (place a = place b) := by
  have key : ∀ i j : Int, 0 ≤ i ∧ i ≤ 6 → 0 ≤ j ∧ j ≤ 6 → (placeS i = placeS j ↔ i = j) := by
    intro i j hi hj
    have ei : i = 0 ∨ i = 1 ∨ i = 2 ∨ i = 3 ∨ i = 4 ∨ i = 5 ∨ i = 6 := by omega
    have ej : j = 0 ∨ j = 1 ∨ j = 2 ∨ j = 3 ∨ j = 4 ∨ j = 5 ∨ j = 6 := by omega
    rcases ei with rfl | rfl | rfl | rfl | rfl | rfl | rfl <;> rcases ej with rfl | rfl | rfl | rfl | rfl | rfl | rfl <;> decide +kernel
  rw [sort_place, sort_place]
  exact decide_eq_decide.mpr (key _ _ (place_le a) (place_le b))
/-! rows of steps -/
def stepsP : D → List PyData
  | .lst ds => (List.range ds.length).map fun i => PyData.int (i : Nat)
  | .dct ks _ => (skeys ks).map PyData.str
  | _ => []
theorem dpInts {K : PySem.W.Frag} {H : Hp} : ∀ l : List Nat, DpAll K H (l.map fun i => V.int (i : Nat)) (l.map fun i => PyData.int (i : Nat))
  | [] => .nil
  | i :: l => .cons (.int _) (dpInts l)
theorem steps_dp {K : PySem.W.Frag} {H : Hp} (d : D) : DpAll K H (stepsV d) (stepsP d) := by
  cases d with
  | lst ds => exact dpInts _
  | dct ks ds => exact dpStrs _
  | _ => exact .nil
theorem layInts : ∀ l : List Nat, PyData.canLayAll0 (l.map fun i => PyData.int (i : Nat)) = true
  | [] => by simp [PyData.canLayAll0]
  | i :: l => by
    simp only [List.map_cons, PyData.canLayAll0, PyData.canLay0]
    rw [layInts l]
    rfl
theorem depthInts : ∀ l : List Nat, PyData.depthAll (l.map fun i => PyData.int (i : Nat)) ≤ 1
  | [] => by simp [PyData.depthAll]
  | i :: l => by
    have := depthInts l
    simp only [List.map_cons, PyData.depthAll, PyData.depth]
    omega
theorem shapedInts (l : List Nat) : SeqAt.shaped (.list (l.map fun i => PyData.int (i : Nat))) = true := by
  unfold SeqAt.shaped
  have z := depthInts l
  rw [show (PyData.list (l.map fun i => PyData.int (i : Nat))).canLay0 = true by simp only [PyData.canLay0]; exact layInts l, Bool.true_and]
  exact decide_eq_true (by simp only [PyData.depth]; omega)
theorem steps_shaped {n : Nat} {H : Hp} {v : V} {d : D} (h : Da n H v d) : SeqAt.shaped (.list (stepsP d)) = true := by
  cases d with
  | lst ds => exact shapedInts _
  | dct ks ds =>
    cases n with
    | zero => simp only [Da] at h
    | succ n =>
      simp only [Da] at h
      obtain ⟨a, us, _, _, _, _, _, hok, _⟩ := h
      exact shapedStrs fun k hk => hok k ((skeys_perm ks).mem_iff.mp hk)
  | _ => exact shapedInts []
theorem eqv_strs : ∀ ks ls : List Str, PyData.eqvAll (ks.map PyData.str) (ls.map PyData.str) = decide (ks = ls)
  | [], [] => by simp [PyData.eqvAll]
  | [], _ :: _ => by simp [PyData.eqvAll]
  | _ :: _, [] => by simp [PyData.eqvAll]
  | k :: ks, l :: ls => by
    rw [List.map_cons, List.map_cons, eqv_all_cons, eqv_strs ks ls]
    simp only [PyData.eqv]
    by_cases h : k = l <;> by_cases h' : ks = ls <;> simp [h, h']
theorem eqv_ints : ∀ ks ls : List Nat, PyData.eqvAll (ks.map fun i => PyData.int (i : Nat)) (ls.map fun i => PyData.int (i : Nat)) = decide (ks = ls)
  | [], [] => by simp [PyData.eqvAll]
  | [], _ :: _ => by simp [PyData.eqvAll]
  | _ :: _, [] => by simp [PyData.eqvAll]
  | k :: ks, l :: ls => by
    rw [List.map_cons, List.map_cons, eqv_all_cons, eqv_ints ks ls, eqv_int]
    by_cases h : k = l
    · by_cases h' : ks = ls <;> simp [h, h']
    · have hz : ¬ ((k : Int) = (l : Int)) := by omega
      simp [h, hz]
theorem range_eq (m n : Nat) : decide (List.range m = List.range n) = decide (m = n) := by
  refine decide_eq_decide.mpr ⟨fun h => ?_, fun h => by rw [h]⟩
  have z := congrArg List.length h
  simpa using z
/-- alike of lists, of dicts: the steps, and step by step -/
theorem alk_steps {n : Nat} {a b : D} (h : place a = place b) (hp : ¬ place a < 5) : alk (n + 1) a b = (PyData.eqv (.list (stepsP a)) (.list (stepsP b)) && (List.zipWith (alk n) (inner a) (inner b)).all id) := by
  cases a with
  | lst ds =>
    cases b with
    | lst es =>
      rw [alk_lst]
      show _ = (PyData.eqvAll (stepsP (.lst ds)) (stepsP (.lst es)) && _)
      simp only [stepsP]
      rw [eqv_ints, range_eq]
      rfl
    | bl b => rw [place_bl] at h; cases b <;> simp [place] at h
    | _ => simp [place] at h
  | dct ks ds =>
    cases b with
    | dct ls es =>
      rw [alk_dct]
      show _ = (PyData.eqvAll (stepsP (.dct ks ds)) (stepsP (.dct ls es)) && _)
      simp only [stepsP]
      rw [eqv_strs]
    | bl b => rw [place_bl] at h; cases b <;> simp [place] at h
    | _ => simp [place] at h
  | bl b => exact absurd (by rw [place_bl]; cases b <;> simp) hp
  | non => exact absurd (by simp [place]) hp
  | int i => exact absurd (by simp [place]) hp
  | str x => exact absurd (by simp [place]) hp
end Toy


namespace Toy
open PySem PySem.Spec L2 PyProof.Rows PySem.W
theorem steps_same {a b : D} (h : place a = place b) (hp : ¬ place a < 5) (e : PyData.eqv (.list (stepsP a)) (.list (stepsP b)) = true) : stepsV a = stepsV b := by
  cases a with
  | lst ds =>
    cases b with
    | lst es =>
      have z : PyData.eqvAll (stepsP (.lst ds)) (stepsP (.lst es)) = true := e
      simp only [stepsP] at z
      rw [eqv_ints, range_eq] at z
      simp only [stepsV, of_decide_eq_true z]
    | bl b => rw [place_bl] at h; cases b <;> simp [place] at h
    | _ => simp [place] at h
  | dct ks ds =>
    cases b with
    | dct ls es =>
      have z : PyData.eqvAll (stepsP (.dct ks ds)) (stepsP (.dct ls es)) = true := e
      simp only [stepsP] at z
      rw [eqv_strs] at z
      simp only [stepsV, of_decide_eq_true z]
    | bl b => rw [place_bl] at h; cases b <;> simp [place] at h
    | _ => simp [place] at h
  | bl b => exact absurd (by rw [place_bl]; cases b <;> simp) hp
  | non => exact absurd (by simp [place]) hp
  | int i => exact absurd (by simp [place]) hp
  | str x => exact absurd (by simp [place]) hp
section
variable {P : Program} {w : World} {K : PySem.W.Frag} {mg : Str → Option Value} {base : Heap}
end
end Toy


namespace Toy
open PySem PySem.Spec L2 PyProof.Rows PySem.W
abbrev sLSort : Stmt := top 22
abbrev sLKeys : Stmt := top 23
def spLSort : Sp := fun vs H Q _ => ∃ (v : V) (n : Nat) (d : D), vs = [v] ∧ Da n H v d ∧ ∀ H', Same H H' → Q (.str (sortS d)) H'
section
variable {P : Program} {w : World} {K : PySem.W.Frag} {mg : Str → Option Value} {base : Heap}
theorem kit_none {t : Value} : PySem.W.kitAny K t [] = some false := rfl
theorem kit_2 {t a b : Value} {x y r : Bool} (h1 : PySem.W.kitOne K t a = some x) (h2 : PySem.W.kitOne K t b = some y) (hr : r = (x || y)) : PySem.W.kitAny K t [a, b] = some r := by
  subst hr
  refine kitAny_cons h1 (fun e => ?_) (fun e => by rw [e]; rfl)
  rw [e]
  refine kitAny_cons h2 (fun e2 => ?_) (fun e2 => by rw [e2]; rfl)
  rw [e2]
  exact kit_none
theorem scLS : FnScope ["_law_datum_here"] ["_law_datum_here"] (defScope sLSort) := ⟨rfl, rfl, rfl, by decide +kernel, rfl, by decide +kernel, by decide +kernel⟩
theorem scLK : FnScope ["_law_datum_here"] ["_law_datum_here"] (defScope sLKeys) := ⟨rfl, rfl, rfl, by decide +kernel, rfl, by decide +kernel, by decide +kernel⟩
theorem ok_lsort {f : Addr} {fd : FuncData} (F : Fun K "_law_sort" "_law_sort" sLSort f fd) (mI : mg "isinstance" = none) (mB : mg "bool" = none) (mN : mg "int" = none) (mS : mg "str" = none) (mL : mg "list" = none) : FnOk P w K mg base CX0 1 f fd ["_law_datum_here"] spLSort := by
  refine F.ok scLS (fun vs H Q E h => ?_) (fun cdv A outer s H vs Q E hr h => ?_)
  · obtain ⟨v, n, d, rfl, _⟩ := h
    rfl
  · obtain ⟨v, n, d, rfl, hd, q⟩ := h
    refine ⟨_, pss_cons (ps_if (pt_cmpR op_isN (pv 0) pe_non (nomark _)) (pss_one (ps_ret pe_str)) pss_nil)
      (pss_cons (ps_if (pt_val (pe_callB call_isi (by rfl) mI PyProof.Rows.boot_isinstance (pa_cons (pv 0) (pa_cons (pe_bltn (v := .ty "bool") (by rfl) mB (by decide +kernel) rfl) pa_nil)))) (pss_one (ps_ret (pe_ifExp (pt_val (pv 0)) pe_str pe_str))) pss_nil)
      (pss_cons (ps_if (pt_val (pe_callB call_isiT (by rfl) mI PyProof.Rows.boot_isinstance (pa_cons (pv 0) (pa_cons (pe_tup (pa_cons (pe_bltn (v := .ty "int") (by rfl) mN (by decide +kernel) rfl) (pa_cons (pe_bltn (v := .ty "str") (by rfl) mS (by decide +kernel) rfl) pa_nil))) pa_nil)))) 
          (pss_one (ps_ret (pe_ifExp (pt_val (pe_callB call_isi (by rfl) mI PyProof.Rows.boot_isinstance (pa_cons (pv 0) (pa_cons (pe_bltn (v := .ty "int") (by rfl) mN (by decide +kernel) rfl) pa_nil)))) pe_str pe_str))) pss_nil)
      (pss_one (ps_ret (pe_ifExp (pt_val (pe_callB call_isi (by rfl) mI PyProof.Rows.boot_isinstance (pa_cons (pv 0) (pa_cons (pe_bltn (v := .ty "list") (by rfl) mL (by decide +kernel) rfl) pa_nil)))) pe_str pe_str))))), ?_⟩
    have nn := non_iff hd
    refine ⟨_, rfl, rfl, _, rfl, ?_⟩
    rw [nn]
    have s0 : Same H H := fun _ _ z => z
    cases d with
    | non => exact iteT (q H s0)
    | bl b =>
      have ty : TyX K H v (.type "bool") := ty_of hd
      have hv : v = .bl b := by cases n <;> simpa only [Da] using hd
      subst hv
      refine iteF ⟨_, rfl, _, _, _, _, true, rfl, .ty _, ty, kit_ty (by decide +kernel), _, rfl, iteT ⟨_, rfl, b, rfl, ?_⟩⟩
      cases b with
      | true => exact iteT (q H s0)
      | false => exact iteF (q H s0)
    | int i =>
      have ty : TyX K H v (.type "int") := ty_of hd
      refine iteF ⟨_, rfl, _, _, _, _, false, rfl, .ty _, ty, kit_ty (by decide +kernel), _, rfl, iteF ⟨_, rfl, few (by show 2 ≤ 1000; decide), fun t nt => ?_⟩⟩
      have s1 := same_new (u := .tup [.ty "int", .ty "str"]) s0 nt
      have ty1 : TyX K (upd H t (.tup [.ty "int", .ty "str"])) v (.type "int") := ty_of (hd.mono s1 (Nat.le_refl _))
      exact ⟨_, t, _, _, [.type "int", .type "str"], true, rfl, upd_same, .cons (.ty _) (.cons (.ty _) .nil), ty1, kit_2 (x := true) (y := false) (kit_ty (by decide +kernel)) (kit_ty (by decide +kernel)) rfl, _, rfl, iteT ⟨_, rfl, _, _, _, _, true, rfl, .ty _, ty1, kit_ty (by decide +kernel), _, rfl, iteT (q _ s1)⟩⟩
    | str x =>
      have ty : TyX K H v (.type "str") := ty_of hd
      refine iteF ⟨_, rfl, _, _, _, _, false, rfl, .ty _, ty, kit_ty (by decide +kernel), _, rfl, iteF ⟨_, rfl, few (by show 2 ≤ 1000; decide), fun t nt => ?_⟩⟩
      have s1 := same_new (u := .tup [.ty "int", .ty "str"]) s0 nt
      have ty1 : TyX K (upd H t (.tup [.ty "int", .ty "str"])) v (.type "str") := ty_of (hd.mono s1 (Nat.le_refl _))
      exact ⟨_, t, _, _, [.type "int", .type "str"], true, rfl, upd_same, .cons (.ty _) (.cons (.ty _) .nil), ty1, kit_2 (x := false) (y := true) (kit_ty (by decide +kernel)) (kit_ty (by decide +kernel)) rfl, _, rfl, iteT ⟨_, rfl, _, _, _, _, false, rfl, .ty _, ty1, kit_ty (by decide +kernel), _, rfl, iteF (q _ s1)⟩⟩
    | lst ds =>
      have ty : TyX K H v (.type "list") := ty_of hd
      refine iteF ⟨_, rfl, _, _, _, _, false, rfl, .ty _, ty, kit_ty (by decide +kernel), _, rfl, iteF ⟨_, rfl, few (by show 2 ≤ 1000; decide), fun t nt => ?_⟩⟩
      have s1 := same_new (u := .tup [.ty "int", .ty "str"]) s0 nt
      have ty1 : TyX K (upd H t (.tup [.ty "int", .ty "str"])) v (.type "list") := ty_of (hd.mono s1 (Nat.le_refl _))
      exact ⟨_, t, _, _, [.type "int", .type "str"], false, rfl, upd_same, .cons (.ty _) (.cons (.ty _) .nil), ty1, kit_2 (x := false) (y := false) (kit_ty (by decide +kernel)) (kit_ty (by decide +kernel)) rfl, _, rfl, iteF ⟨_, rfl, _, _, _, _, true, rfl, .ty _, ty1, kit_ty (by decide +kernel), _, rfl, iteT (q _ s1)⟩⟩
    | dct ks ds =>
      have ty : TyX K H v (.type "dict") := ty_of hd
      refine iteF ⟨_, rfl, _, _, _, _, false, rfl, .ty _, ty, kit_ty (by decide +kernel), _, rfl, iteF ⟨_, rfl, few (by show 2 ≤ 1000; decide), fun t nt => ?_⟩⟩
      have s1 := same_new (u := .tup [.ty "int", .ty "str"]) s0 nt
      have ty1 : TyX K (upd H t (.tup [.ty "int", .ty "str"])) v (.type "dict") := ty_of (hd.mono s1 (Nat.le_refl _))
      exact ⟨_, t, _, _, [.type "int", .type "str"], false, rfl, upd_same, .cons (.ty _) (.cons (.ty _) .nil), ty1, kit_2 (x := false) (y := false) (kit_ty (by decide +kernel)) (kit_ty (by decide +kernel)) rfl, _, rfl, iteF ⟨_, rfl, _, _, _, _, false, rfl, .ty _, ty1, kit_ty (by decide +kernel), _, rfl, iteF (q _ s1)⟩⟩
theorem ok_lkeys {f : Addr} {fd : FuncData} (F : Fun K "_law_keys" "_law_keys" sLKeys f fd) (mI : mg "isinstance" = none) (mL : mg "list" = none) (mD : mg "dict" = none) (mR : mg "range" = none) (mLen : mg "len" = none) (mS : mg "sorted" = none) : FnOk P w K mg base CX0 1 f fd ["_law_datum_here"] spSteps := by
  refine F.ok scLK (fun vs H Q E h => ?_) (fun cdv A outer s H vs Q E hr h => ?_)
  · obtain ⟨v, n, d, rfl, _⟩ := h
    rfl
  · obtain ⟨v, n, d, rfl, hd, q⟩ := h
    refine ⟨_, pss_cons (ps_if (pt_val (pe_callB call_isi (by rfl) mI PyProof.Rows.boot_isinstance (pa_cons (pv 0) (pa_cons (pe_bltn (v := .ty "dict") (by rfl) mD (by decide +kernel) rfl) pa_nil))))
        (pss_one (ps_ret (pe_callB (call_sortedD rfl) (by rfl) mS (by decide +kernel) (pa_cons (pv 0) pa_nil)))) pss_nil)
      (pss_one (ps_ret (pe_ifExp (pt_val (pe_callB call_isi (by rfl) mI PyProof.Rows.boot_isinstance (pa_cons (pv 0) (pa_cons (pe_bltn (v := .ty "list") (by rfl) mL (by decide +kernel) rfl) pa_nil)))) (pe_listRg (by rfl) (by rfl) mL (prg_1 (by rfl) mR (pe_callB call_len_seq (by rfl) mLen PySem.boot_len (pa_cons (pv 0) pa_nil)))) (pe_lst pa_nil)))), ?_⟩
    have lens : ∀ {m : Nat} {us : List V} {ds : List D}, Paired (fun x d => Da m H x d) us ds → us.length = ds.length := fun p => p.length
    cases d with
    | non =>
      have ty : TyX K H v (.type "NoneType") := ty_of hd
      exact ⟨_, rfl, _, _, _, _, false, rfl, .ty _, ty, kit_ty (by decide +kernel), _, rfl, iteF ⟨_, rfl, _, _, _, _, false, rfl, .ty _, ty, kit_ty (by decide +kernel), _, rfl, iteF ⟨Nat.zero_le _, fun R nR => q _ R (same_new (fun _ _ z => z) nR) nR upd_same⟩⟩⟩
    | bl b =>
      have ty : TyX K H v (.type "bool") := ty_of hd
      exact ⟨_, rfl, _, _, _, _, false, rfl, .ty _, ty, kit_ty (by decide +kernel), _, rfl, iteF ⟨_, rfl, _, _, _, _, false, rfl, .ty _, ty, kit_ty (by decide +kernel), _, rfl, iteF ⟨Nat.zero_le _, fun R nR => q _ R (same_new (fun _ _ z => z) nR) nR upd_same⟩⟩⟩
    | int i =>
      have ty : TyX K H v (.type "int") := ty_of hd
      exact ⟨_, rfl, _, _, _, _, false, rfl, .ty _, ty, kit_ty (by decide +kernel), _, rfl, iteF ⟨_, rfl, _, _, _, _, false, rfl, .ty _, ty, kit_ty (by decide +kernel), _, rfl, iteF ⟨Nat.zero_le _, fun R nR => q _ R (same_new (fun _ _ z => z) nR) nR upd_same⟩⟩⟩
    | str x =>
      have ty : TyX K H v (.type "str") := ty_of hd
      exact ⟨_, rfl, _, _, _, _, false, rfl, .ty _, ty, kit_ty (by decide +kernel), _, rfl, iteF ⟨_, rfl, _, _, _, _, false, rfl, .ty _, ty, kit_ty (by decide +kernel), _, rfl, iteF ⟨Nat.zero_le _, fun R nR => q _ R (same_new (fun _ _ z => z) nR) nR upd_same⟩⟩⟩
    | lst ds =>
      have ty : TyX K H v (.type "list") := ty_of hd
      cases n with
      | zero => simp only [Da] at hd
      | succ n =>
        simp only [Da] at hd
        obtain ⟨a, xs, rfl, h2, h3, h4⟩ := hd
        have e := lens h4
        refine ⟨_, rfl, _, _, _, _, false, rfl, .ty _, ty, kit_ty (by decide +kernel), _, rfl, iteF ⟨_, rfl, _, _, _, _, true, rfl, .ty _, ty, kit_ty (by decide +kernel), _, rfl, iteT ⟨_, rfl, a, xs, rfl, .inl (SqL.of h2), _, rfl, RgOk.of_le (by omega) (by omega) (by omega) (by omega), fun R nR => q _ R (same_new (fun _ _ z => z) nR) nR ?_⟩⟩⟩
        rw [upd_same, rg_nat, e]
        rfl
    | dct ks ds =>
      have ty : TyX K H v (.type "dict") := ty_of hd
      cases n with
      | zero => simp only [Da] at hd
      | succ n =>
        simp only [Da] at hd
        obtain ⟨a, us, rfl, h2, h3, h4, h5, h6, h7⟩ := hd
        refine ⟨_, rfl, _, _, _, _, true, rfl, .ty _, ty, kit_ty (by decide +kernel), _, rfl, iteT ⟨_, rfl, a, _, ks, rfl, .inl h2, kv_keys h4, by omega, fun ys R p1 p2 nR => q _ R (same_new (fun _ _ z => z) nR) nR ?_⟩⟩
        rw [upd_same, skeys_uniq p1 p2]
        rfl
end
end Toy


/-! a zip whose last tuple still lives: the next one is a tuple of its own -/
namespace PySem
open Sem (wp)
section
variable {prog : Program} {w : World} {A : Around} {E : Value → Shared → Prop} {s : Shared}
theorem alive_rule {a : Addr} {o : Obj} {Q : Option Obj → Shared → Prop} (ho : s.heap.get? a = some o) (h : Q (some o) s) : wpAny (model prog w) A (loadIfAlive a) Q E s := fun Γ p _ => by
  show Sem.wp _ Γ (.loadIfAlive a .pure) _ _ p s
  rw [Sem.wp_loadIfAlive, ho]
  exact h
abbrev ZipAt (h : Heap) (z TI TO T : Addr) (b : Bool) : Prop := h.get? z = some { cls := .type "zip", dict := none, data := .fields #[rawInt T, .bool b, .bool false, .ref TI, .ref TO], slots := #[] }
/-- h' keeps all of h but at z, and is as large -/
def ButAt (z : Addr) (h h' : Heap) : Prop := (∀ c o, c ≠ z → h.get? c = some o → h'.get? c = some o) ∧ h'.objs.size = h.objs.size
theorem owned_lives {z TI TO T : Addr} {b : Bool} {oT : Obj} {Q : Bool → Shared → Prop} (hz : ZipAt s.heap z TI TO T b) (hT : s.heap.get? T = some oT)
    (h : ∀ h', ZipAt h' z TI TO T true → ButAt z s.heap h' → Q false { s with heap := h' }) : wpAny (model prog w) A (Builtin.SmallTypes.ownedTupleIsFree (.ref z)) Q E s := by
  unfold Builtin.SmallTypes.ownedTupleIsFree
  refine wpAny_bind (wpAny_field hz rfl (x := rawInt T) rfl ?_)
  show wpAny _ _ (loadIfAlive ((T : Int)).toNat >>= _) _ _ _
  rw [Int.toNat_natCast]
  refine wpAny_bind (alive_rule hT ?_)
  simp only [Option.isNone_some, Bool.false_eq_true, if_false]
  refine wpAny_bind ?_
  refine wpAny_field hz rfl (x := .bool b) rfl ?_
  cases b with
  | true => exact wpAny_pure (h s.heap hz ⟨fun _ _ _ e => e, rfl⟩)
  | false =>
    show wpAny _ _ (setField (.ref z) 1 (.bool true) >>= _) _ _ _
    refine wpAny_bind (wpAny_setField_rec hz (by simp) fun h' hz' hs => wpAny_pure (h h' hz' ⟨fun c o n e => hs.extBut c o n e, hs.1⟩))
theorem zip_more {z TI TO T i1 i2 l1 l2 : Addr} {b0 : Bool} {oT : Obj} {k1 k2 : Nat} {xs ys : Array Value} {x y : Value} {Q : Value → Shared → Prop} (D : ZipApart z TI TO i1 i2 l1 l2) (hz : ZipAt s.heap z TI TO T b0) (hTz : s.heap.get? T = some oT)
    (hTI : IsPair s.heap TI (.ref i1) (.ref i2)) (h1 : s.heap.IsListIter i1 l1 k1) (h2 : s.heap.IsListIter i2 l2 k2) (hl1 : s.heap.IsList l1 xs) (hl2 : s.heap.IsList l2 ys) (hx : xs[k1]? = some x) (hy : ys[k2]? = some y)
    (hQ : ∀ h', ZipAt h' z TI TO T true → h'.IsListIter i1 l1 (k1 + 1) → h'.IsListIter i2 l2 (k2 + 1) → IsPair h' s.heap.objs.size x y → h'.objs.size = s.heap.objs.size + 1 →
      (∀ c o, c ≠ z → c ≠ i1 → c ≠ i2 → s.heap.get? c = some o → h'.get? c = some o) → Q (.ref s.heap.objs.size) { s with heap := h' }) :
    wpAny (model prog w) A (Builtin.«zip.__next__» ⟨[.ref z], []⟩) (fun fin s' => ∃ v, fin = .done (.ret v) ∧ Q v s') E s := by
  show wpAny _ _ (field (.ref z) 2 >>= _) _ _ _
  refine wpAny_bind (wpAny_field hz rfl (x := .bool false) rfl ?_)
  show wpAny _ _ (field (.ref z) 3 >>= _) _ _ _
  refine wpAny_bind (wpAny_field hz rfl (x := .ref TI) rfl ?_)
  refine wpAny_bind (wpAny_seqItems hTI rfl ?_)
  show wpAny _ _ (Builtin.SmallTypes.ownedTupleIsFree (.ref z) >>= _) _ _ _
  refine wpAny_bind (owned_lives hz hTz fun g1 gz1 b1 => ?_)
  simp only [Bool.false_eq_true, if_false]
  refine wpAny_bind ?_
  rw [← Array.forIn_toList]
  simp only [List.forIn_cons, List.forIn_nil]
  have up1 : ∀ c o, c ≠ z → s.heap.get? c = some o → g1.get? c = some o := b1.1
  refine wpAny_bind (wpAny_bind (wpAny_holding ?_))
  show wpAny _ _ (Builtin.SmallTypes.nextOf (.ref i1) >>= _) _ _ _
  refine wpAny_bind (wpAny_nextOf_list_item (h1.at fun o e => up1 _ o D.i1z e) (hl1.at fun o e => up1 _ o D.l1z e) hx fun g2 j1 b2 => wpAny_pure ?_)
  refine wpAny_pure ?_
  refine wpAny_bind (wpAny_bind (wpAny_holding ?_))
  show wpAny _ _ (Builtin.SmallTypes.nextOf (.ref i2) >>= _) _ _ _
  refine wpAny_bind (wpAny_nextOf_list_item ((h2.at fun o e => up1 _ o D.i2z e).extBut b2.extBut D.i12.symm) ((hl2.at fun o e => up1 _ o D.l2z e).extBut b2.extBut D.l2i1) hy fun g3 j2 b3 => wpAny_pure ?_)
  refine wpAny_pure (wpAny_pure ?_)
  refine wpAny_bind (wpAny_newTuple ?_ (by show 2 ≤ sizeLine; decide))
  have size : g3.objs.size = s.heap.objs.size := by rw [b3.1, b2.1]; exact b1.2
  have up3 : ∀ c o, c ≠ z → c ≠ i1 → c ≠ i2 → s.heap.get? c = some o → g3.get? c = some o := fun c o c1 c2 c3 e => b3.extBut _ _ c3 (b2.extBut _ _ c2 (up1 _ _ c1 e))
  have gz3 : ZipAt g3 z TI TO T true := b3.extBut _ _ D.i2z.symm (b2.extBut _ _ D.i1z.symm gz1)
  have j13 : g3.IsListIter i1 l1 (k1 + 1) := j1.extBut b3.extBut D.i12
  refine wpAny_pure ⟨_, rfl, ?_⟩
  show Q (.ref g3.objs.size) { s with heap := g3.push { cls := .type "tuple", data := .seq #[x, y] } }
  have push : ∀ c o, g3.get? c = some o → (g3.push { cls := .type "tuple", data := .seq #[x, y] }).get? c = some o := fun c o e => Heap.get?_push_of_some _ e
  have new : IsPair (g3.push { cls := .type "tuple", data := .seq #[x, y] }) g3.objs.size x y := Heap.get?_push_size _ rfl
  have big : (g3.push { cls := .type "tuple", data := .seq #[x, y] }).objs.size = s.heap.objs.size + 1 := by rw [Heap.size_push, size]
  rw [size] at new ⊢
  exact hQ _ (push _ _ gz3) (j13.at fun o e => push _ o e) (j2.at fun o e => push _ o e) new big fun c o c1 c2 c3 e => push _ _ (up3 c o c1 c2 c3 e)
theorem zip_more_end {z TI TO T i1 i2 l1 l2 : Addr} {b0 : Bool} {oT : Obj} {k1 k2 : Nat} {xs ys : Array Value} {Q : Fin → Shared → Prop} (hh : A.handled = none) (D : ZipApart z TI TO i1 i2 l1 l2) (hz : ZipAt s.heap z TI TO T b0) (hTz : s.heap.get? T = some oT)
    (hTI : IsPair s.heap TI (.ref i1) (.ref i2)) (h1 : s.heap.IsListIter i1 l1 k1) (h2 : s.heap.IsListIter i2 l2 k2) (hl1 : s.heap.IsList l1 xs) (hl2 : s.heap.IsList l2 ys) (hx : xs[k1]? = none)
    (hE : ∀ h' e, (∀ c o, c ≠ z → c ≠ i1 → c ≠ i2 → s.heap.get? c = some o → h'.get? c = some o) → (∃ o, h'.get? e = some o ∧ o.cls = .type "StopIteration") → E (.ref e) { s with heap := h' }) :
    wpAny (model prog w) A (Builtin.«zip.__next__» ⟨[.ref z], []⟩) Q E s := by
  show wpAny _ _ (field (.ref z) 2 >>= _) _ _ _
  refine wpAny_bind (wpAny_field hz rfl (x := .bool false) rfl ?_)
  show wpAny _ _ (field (.ref z) 3 >>= _) _ _ _
  refine wpAny_bind (wpAny_field hz rfl (x := .ref TI) rfl ?_)
  refine wpAny_bind (wpAny_seqItems hTI rfl ?_)
  show wpAny _ _ (Builtin.SmallTypes.ownedTupleIsFree (.ref z) >>= _) _ _ _
  refine wpAny_bind (owned_lives hz hTz fun g1 gz1 b1 => ?_)
  simp only [Bool.false_eq_true, if_false]
  refine wpAny_bind ?_
  rw [← Array.forIn_toList]
  simp only [List.forIn_cons, List.forIn_nil]
  have up1 : ∀ c o, c ≠ z → s.heap.get? c = some o → g1.get? c = some o := b1.1
  refine wpAny_bind (wpAny_bind (wpAny_holding ?_))
  show wpAny _ _ (Builtin.SmallTypes.nextOf (.ref i1) >>= _) _ _ _
  exact wpAny_bind (wpAny_nextOf_list_end hh (h1.at fun o e => up1 _ o D.i1z e) (hl1.at fun o e => up1 _ o D.l1z e) hx fun g2 e b2 he => hE g2 e (fun c o c1 c2 c3 q => b2 _ _ c2 (up1 _ _ c1 q)) he)
theorem pyNext_more {z TI TO T i1 i2 l1 l2 : Addr} {b0 : Bool} {oT : Obj} {k1 k2 : Nat} {xs ys : Array Value} {x y : Value} {Q : Option Value → Shared → Prop} (D : ZipApart z TI TO i1 i2 l1 l2) (hz : ZipAt s.heap z TI TO T b0) (hTz : s.heap.get? T = some oT)
    (hTI : IsPair s.heap TI (.ref i1) (.ref i2)) (h1 : s.heap.IsListIter i1 l1 k1) (h2 : s.heap.IsListIter i2 l2 k2) (hl1 : s.heap.IsList l1 xs) (hl2 : s.heap.IsList l2 ys) (hx : xs[k1]? = some x) (hy : ys[k2]? = some y)
    (hQ : ∀ h', ZipAt h' z TI TO T true → h'.IsListIter i1 l1 (k1 + 1) → h'.IsListIter i2 l2 (k2 + 1) → IsPair h' s.heap.objs.size x y → h'.objs.size = s.heap.objs.size + 1 →
      (∀ c o, c ≠ z → c ≠ i1 → c ≠ i2 → s.heap.get? c = some o → h'.get? c = some o) → Q (some (.ref s.heap.objs.size)) { s with heap := h' }) :
    wpAny (model prog w) A (pyNext (.ref z)) Q E s := by
  have ty : s.TypeIs (.ref z) "zip" := ⟨_, hz, rfl⟩
  unfold pyNext
  refine wpAny_bind (wpAny_attempt (wpAny_callSpecial?_slot (name := Str.ofString "__next__") ty F.slot_zip_next (wpAny_call_entry F.slot_zip_next ty F.entry_zip_next ?_ (F.args_zip_next_1 _))))
  exact zip_more D hz hTz hTI h1 h2 hl1 hl2 hx hy fun h' a1 a2 a3 a4 a5 a6 => wpAny_pure (hQ h' a1 a2 a3 a4 a5 a6)
theorem pyNext_more_end {z TI TO T i1 i2 l1 l2 : Addr} {b0 : Bool} {oT : Obj} {k1 k2 : Nat} {xs ys : Array Value} {Q : Option Value → Shared → Prop} (hh : A.handled = none) (D : ZipApart z TI TO i1 i2 l1 l2) (hz : ZipAt s.heap z TI TO T b0) (hTz : s.heap.get? T = some oT)
    (hTI : IsPair s.heap TI (.ref i1) (.ref i2)) (h1 : s.heap.IsListIter i1 l1 k1) (h2 : s.heap.IsListIter i2 l2 k2) (hl1 : s.heap.IsList l1 xs) (hl2 : s.heap.IsList l2 ys) (hx : xs[k1]? = none)
    (hQ : ∀ h', (∀ c o, c ≠ z → c ≠ i1 → c ≠ i2 → s.heap.get? c = some o → h'.get? c = some o) → Q none { s with heap := h' }) : wpAny (model prog w) A (pyNext (.ref z)) Q E s := by
  have ty : s.TypeIs (.ref z) "zip" := ⟨_, hz, rfl⟩
  unfold pyNext
  refine wpAny_bind (wpAny_attempt (wpAny_callSpecial?_slot (name := Str.ofString "__next__") ty F.slot_zip_next (wpAny_call_entry F.slot_zip_next ty F.entry_zip_next ?_ (F.args_zip_next_1 _))))
  refine zip_more_end hh D hz hTz hTI h1 h2 hl1 hl2 hx fun h' e kp he => ?_
  obtain ⟨o, ho, hc⟩ := he
  exact wpAny_bind (wpAny_isInstance (T := "StopIteration") (b := true) ⟨o, ho, hc⟩ isSubtype_stop (wpAny_pure (hQ _ kp)))
end
end PySem


/-! all that a zip of two lists gives, put behind a list -/
namespace PySem
open Sem (wp)
/-- the tuples that came so far: all new behind n0, one behind the other -/
def Got (h : Heap) (n0 : Nat) (bad : List Addr) (xs ys acc : Array Value) (i : Nat) : Prop := acc.size = i ∧ (∀ (j : Nat) (v : Value), acc[j]? = some v → ∃ (T : Addr) (x y : Value), v = .ref T ∧ n0 ≤ T ∧ T ∉ bad ∧ xs[j]? = some x ∧ ys[j]? = some y ∧ IsPair h T x y) ∧
  ∀ (j k : Nat) (T U : Addr), j < k → acc[j]? = some (.ref T) → acc[k]? = some (.ref U) → T < U
theorem Got.keep {h h' : Heap} {n0 : Nat} {bad : List Addr} {xs ys acc : Array Value} {i : Nat} (g : Got h n0 bad xs ys acc i) (k : ∀ c o, c ∉ bad → h.get? c = some o → h'.get? c = some o) : Got h' n0 bad xs ys acc i := ⟨g.1, fun j v e => by
  obtain ⟨T, x, y, h1, h0, h2, h3, h4, h5⟩ := g.2.1 j v e
  exact ⟨T, x, y, h1, h0, h2, h3, h4, k _ _ h2 h5⟩, g.2.2⟩
theorem Got.push {h : Heap} {n0 : Nat} {bad : List Addr} {xs ys acc : Array Value} {i : Nat} {T : Addr} {x y : Value} (g : Got h n0 bad xs ys acc i) (n : T ∉ bad) (h0 : n0 ≤ T) (hx : xs[i]? = some x) (hy : ys[i]? = some y) (hT : IsPair h T x y) (hl : ∀ (j : Nat) (U : Addr), acc[j]? = some (.ref U) → U < T) : Got h n0 bad xs ys (acc.push (.ref T)) (i + 1) := by
  refine ⟨by rw [Array.size_push, g.1], fun j v e => ?_, fun j k A B hjk e1 e2 => ?_⟩
  · rw [Array.getElem?_push] at e
    split at e
    · rename_i q
      rw [g.1] at q
      cases e
      subst q
      exact ⟨T, x, y, rfl, h0, n, hx, hy, hT⟩
    · exact g.2.1 j v e
  · have hk : k < (acc.push (.ref T)).size := (Array.getElem?_eq_some_iff.mp e2).1
    rw [Array.size_push] at hk
    have e1' : acc[j]? = some (.ref A) := by
      rw [Array.getElem?_push, if_neg (by omega)] at e1
      exact e1
    rw [Array.getElem?_push] at e2
    split at e2
    · cases e2
      exact hl j A e1'
    · exact g.2.2 j k A B hjk e1' e2
theorem Got.low {h : Heap} {n0 : Nat} {bad : List Addr} {xs ys acc : Array Value} {i : Nat} (g : Got h n0 bad xs ys acc i) (j : Nat) (U : Addr) (e : acc[j]? = some (.ref U)) : U < h.objs.size := by
  obtain ⟨T, x, y, h1, _, _, _, _, h5⟩ := g.2.1 j _ e
  cases h1
  exact Heap.lt_size h5
/-- the zip as it stands ahead of a pull -/
def ZipGo (h : Heap) (z TI TO i1 i2 : Addr) : Prop := IsZip h z TI TO .none ∨ ∃ T b oT, ZipAt h z TI TO T b ∧ h.get? T = some oT ∧ T ≠ z ∧ T ≠ TO ∧ T ≠ i1 ∧ T ≠ i2
structure ZipSt (h : Heap) (z TI TO i1 i2 l1 l2 : Addr) (xs ys : Array Value) (i : Nat) : Prop where
  go : ZipGo h z TI TO i1 i2
  ti : IsPair h TI (.ref i1) (.ref i2)
  to : ∃ a b, IsPair h TO a b
  j1 : h.IsListIter i1 l1 i
  j2 : h.IsListIter i2 l2 i
  s1 : h.IsList l1 xs
  s2 : h.IsList l2 ys
section
variable {prog : Program} {w : World} {A : Around} {E : Value → Shared → Prop} {s : Shared} {z TI TO i1 i2 l1 l2 : Addr} {xs ys : Array Value} {i : Nat}
theorem zip_lts (D : ZipApart z TI TO i1 i2 l1 l2) (st : ZipSt s.heap z TI TO i1 i2 l1 l2 xs ys i) : z < s.heap.objs.size ∧ TO < s.heap.objs.size ∧ i1 < s.heap.objs.size ∧ i2 < s.heap.objs.size := by
  obtain ⟨go, _, ⟨a, b, to⟩, ⟨o1, e1, _⟩, ⟨o2, e2, _⟩, _, _⟩ := st
  refine ⟨?_, Heap.lt_size to, Heap.lt_size e1, Heap.lt_size e2⟩
  rcases go with q | ⟨T, b, oT, q, _⟩
  · exact Heap.lt_size q
  · exact Heap.lt_size q
theorem zip_pull {Q : Option Value → Shared → Prop} {x y : Value} (D : ZipApart z TI TO i1 i2 l1 l2) (st : ZipSt s.heap z TI TO i1 i2 l1 l2 xs ys i) (hx : xs[i]? = some x) (hy : ys[i]? = some y)
    (hQ : ∀ h', ZipSt h' z TI TO i1 i2 l1 l2 xs ys (i + 1) → IsPair h' s.heap.objs.size x y → h'.objs.size = s.heap.objs.size + 1 → (∀ c o, c ≠ z → c ≠ TO → c ≠ i1 → c ≠ i2 → s.heap.get? c = some o → h'.get? c = some o) → Q (some (.ref s.heap.objs.size)) { s with heap := h' }) :
    wpAny (model prog w) A (pyNext (.ref z)) Q E s := by
  obtain ⟨lz, lTO, li1, li2⟩ := zip_lts D st
  obtain ⟨go, ti, ⟨a, b, to⟩, j1, j2, s1, s2⟩ := st
  rcases go with q | ⟨T, b0, oT, q, hT, n1, n2, n3, n4⟩
  · refine wpAny_pyNext_zip_item D q ti to j1 j2 s1 s2 hx hy fun h' a1 a2 a3 a4 a5 a6 kp => ?_
    exact hQ h' ⟨.inr ⟨s.heap.objs.size, false, _, a1, a5, Nat.ne_of_gt lz, Nat.ne_of_gt lTO, Nat.ne_of_gt li1, Nat.ne_of_gt li2⟩, kp _ _ D.TIz D.TITO D.TIi1 D.TIi2 ti, ⟨_, _, a2⟩, a3, a4, s1.at fun o e => kp _ o D.l1z D.l1TO D.l1i1 D.l1i2 e, s2.at fun o e => kp _ o D.l2z D.l2TO D.l2i1 D.l2i2 e⟩ a5 a6 kp
  · refine pyNext_more D q hT ti j1 j2 s1 s2 hx hy fun h' a1 a2 a3 a4 a5 kp => ?_
    exact hQ h' ⟨.inr ⟨T, true, oT, a1, kp _ _ n1 n3 n4 hT, n1, n2, n3, n4⟩, kp _ _ D.TIz D.TIi1 D.TIi2 ti, ⟨a, b, kp _ _ D.TOz D.TOi1 D.TOi2 to⟩, a2, a3, s1.at fun o e => kp _ o D.l1z D.l1i1 D.l1i2 e, s2.at fun o e => kp _ o D.l2z D.l2i1 D.l2i2 e⟩ a4 a5 fun c o c1 _ c3 c4 e => kp c o c1 c3 c4 e
theorem zip_stop {Q : Option Value → Shared → Prop} (hh : A.handled = none) (D : ZipApart z TI TO i1 i2 l1 l2) (st : ZipSt s.heap z TI TO i1 i2 l1 l2 xs ys i) (hx : xs[i]? = none)
    (hQ : ∀ h', (∀ c o, c ≠ z → c ≠ TO → c ≠ i1 → c ≠ i2 → s.heap.get? c = some o → h'.get? c = some o) → Q none { s with heap := h' }) : wpAny (model prog w) A (pyNext (.ref z)) Q E s := by
  obtain ⟨go, ti, ⟨a, b, to⟩, j1, j2, s1, s2⟩ := st
  rcases go with q | ⟨T, b0, oT, q, hT, n1, n2, n3, n4⟩
  · exact wpAny_pyNext_zip_end hh D q ti to j1 j2 s1 s2 (.inl hx) hQ
  · exact pyNext_more_end hh D q hT ti j1 j2 s1 s2 hx fun h' kp => hQ h' fun c o c1 _ c3 c4 e => kp c o c1 c3 c4 e
theorem ZipSt.keep {h h' : Heap} {S : Addr} (st : ZipSt h z TI TO i1 i2 l1 l2 xs ys i) (nS : S ∉ [z, TI, TO, i1, i2, l1, l2]) (k : ∀ c o, c ≠ S → h.get? c = some o → h'.get? c = some o) (hS : ∃ o, h'.get? S = some o) : ZipSt h' z TI TO i1 i2 l1 l2 xs ys i := by
  simp only [List.mem_cons, List.not_mem_nil, or_false, not_or] at nS
  obtain ⟨m1, m2, m3, m4, m5, m6, m7⟩ := nS
  obtain ⟨go, ti, ⟨a, b, to⟩, j1, j2, s1, s2⟩ := st
  refine ⟨?_, k _ _ (Ne.symm m2) ti, ⟨a, b, k _ _ (Ne.symm m3) to⟩, j1.at fun o e => k _ o (Ne.symm m4) e, j2.at fun o e => k _ o (Ne.symm m5) e, s1.at fun o e => k _ o (Ne.symm m6) e, s2.at fun o e => k _ o (Ne.symm m7) e⟩
  rcases go with q | ⟨T, b0, oT, q, hT, n⟩
  · exact .inl (k _ _ (Ne.symm m1) q)
  · by_cases e : T = S
    · obtain ⟨o, ho⟩ := hS
      exact .inr ⟨T, b0, o, k _ _ (Ne.symm m1) q, e ▸ ho, n⟩
    · exact .inr ⟨T, b0, oT, k _ _ (Ne.symm m1) q, k _ _ e hT, n⟩
theorem zip_loop {R : Result → Shared → Prop} (hh : A.in1.handled = none) (D : ZipApart z TI TO i1 i2 l1 l2) (hlen : xs.size = ys.size) (hn : xs.size ≤ sizeLine) (S : Addr) (nS : S ∉ [z, TI, TO, i1, i2, l1, l2]) (res : Value) (n0 : Nat) :
    ∀ (k i : Nat) (s : Shared) (acc : Array Value) (c : Nat), xs.size - i = k → i ≤ xs.size → ZipSt s.heap z TI TO i1 i2 l1 l2 xs ys i → s.heap.get? S = some { cls := .type "list", dict := none, data := .seq acc c, slots := #[] } → n0 ≤ s.heap.objs.size → Got s.heap n0 [z, TO, i1, i2, S] xs ys acc i →
    (∀ h' acc' c', (∀ c o, c ∉ [z, TO, i1, i2, S] → s.heap.get? c = some o → h'.get? c = some o) → h'.get? S = some { cls := .type "list", dict := none, data := .seq acc' c', slots := #[] } → Got h' n0 [z, TO, i1, i2, S] xs ys acc' xs.size → R (.ok (.ret res)) { s with heap := h' }) →
    codeAny (model prog w) A (.builtin "list.extend.loop" ⟨[.ref S, .ref z, res], []⟩) R s := by
  have nS' := nS
  simp only [List.mem_cons, List.not_mem_nil, or_false, not_or] at nS'
  obtain ⟨m1, m2, m3, m4, m5, m6, m7⟩ := nS'
  have four : ∀ c : Addr, c ∉ [z, TO, i1, i2, S] → c ≠ z ∧ c ≠ TO ∧ c ≠ i1 ∧ c ≠ i2 ∧ c ≠ S := fun c hc => by
    simpa only [List.mem_cons, List.not_mem_nil, or_false, not_or] using hc
  intro k
  induction k with
  | zero =>
    intro i s acc c hk hi st hS hn0 got hR
    obtain rfl : i = xs.size := by omega
    refine codeAny_builtin F.entry_extend_loop ?_
    rw [Around.under_plainId F.plain_extend_loop _]
    show wpAny _ A.in1 (pyNext (.ref z) >>= _) _ _ s
    refine wpAny_bind (zip_stop hh D st (by simp) fun h' kp => ?_)
    have kp' : ∀ c o, c ∉ [z, TO, i1, i2, S] → s.heap.get? c = some o → h'.get? c = some o := fun c o hc e => by
      obtain ⟨c1, c2, c3, c4, _⟩ := four c hc
      exact kp c o c1 c2 c3 c4 e
    exact wpAny_pure (hR h' acc c kp' (kp _ _ m1 m3 m4 m5 hS) (got.keep kp'))
  | succ k ih =>
    intro i s acc c hk hi st hS hn0 got hR
    have ix : i < xs.size := by omega
    have iy : i < ys.size := by omega
    refine codeAny_builtin F.entry_extend_loop ?_
    rw [Around.under_plainId F.plain_extend_loop _]
    show wpAny _ A.in1 (pyNext (.ref z) >>= _) _ _ s
    obtain ⟨lz, lTO, li1, li2⟩ := zip_lts D st
    have lS := Heap.lt_size hS
    refine wpAny_bind (zip_pull D st (Array.getElem?_eq_getElem ix) (Array.getElem?_eq_getElem iy) fun h' st' hT size kp => ?_)
    have kp' : ∀ c o, c ∉ [z, TO, i1, i2, S] → s.heap.get? c = some o → h'.get? c = some o := fun c o hc e => by
      obtain ⟨c1, c2, c3, c4, _⟩ := four c hc
      exact kp c o c1 c2 c3 c4 e
    have hS' := kp _ _ m1 m3 m4 m5 hS
    have nT : s.heap.objs.size ∉ [z, TO, i1, i2, S] := by
      simp only [List.mem_cons, List.not_mem_nil, or_false, not_or]
      exact ⟨Nat.ne_of_gt lz, Nat.ne_of_gt lTO, Nat.ne_of_gt li1, Nat.ne_of_gt li2, Nat.ne_of_gt lS⟩
    have got' := (got.keep kp').push nT hn0 (Array.getElem?_eq_getElem ix) (Array.getElem?_eq_getElem iy) hT got.low
    show wpAny _ A.in1 (updateSeq S (·.push (.ref s.heap.objs.size)) >>= _) _ _ _
    refine wpAny_bind ?_
    refine wpAny_updateSeq hS' rfl (wpAny_pure ⟨plainId_quiet F.plain_extend_loop _, ?_⟩) (by rw [got.1]; omega) (by show (acc.push (.ref s.heap.objs.size)).size ≤ sizeLine + 1; rw [Array.size_push, got.1]; omega)
    have up : ∀ b o, b ≠ S → h'.get? b = some o → (h'.update S (Obj.mapSeq (·.push (.ref s.heap.objs.size)))).get? b = some o := fun b o hb e => (Heap.get?_update_other _ _ (fun h : S = b => hb h.symm)).trans e
    refine ih (i + 1) { s with heap := h'.update S (Obj.mapSeq (·.push (.ref s.heap.objs.size))) } (acc.push (.ref s.heap.objs.size)) _ (by omega) ix (st'.keep nS up ⟨_, Heap.get?_update_self _ hS' rfl⟩) (Heap.get?_update_self _ hS' rfl) (Nat.le_trans hn0 (Nat.le_of_lt (Heap.lt_size (up _ _ (Nat.ne_of_gt lS) hT)))) (got'.keep fun b o hb e => up b o (four b hb).2.2.2.2 e) fun h'' acc'' c'' kp'' hS'' got'' => ?_
    exact hR h'' acc'' c'' (fun b o hb e => kp'' b o hb (up b o (four b hb).2.2.2.2 (kp' b o hb e))) hS'' got''
end
end PySem


/-! tuple(zip(xs, ys)) of two lists of one length -/
namespace PySem
open Sem (wp)
theorem zip_no_len : typeLookup (.type "zip") "__len__" = pure none := by rw [typeLookup_type, builtinLookup_eq_fast]; kernel_rfl
theorem zip_no_hint : typeLookup (.type "zip") "__length_hint__" = pure none := by rw [typeLookup_type, builtinLookup_eq_fast]; kernel_rfl
section
variable {prog : Program} {w : World} {A : Around} {E : Value → Shared → Prop} {s : Shared} {z TI TO i1 i2 l1 l2 : Addr} {xs ys : Array Value} {i : Nat}
theorem ZipSt.iter {h : Heap} (st : ZipSt h z TI TO i1 i2 l1 l2 xs ys i) : ∃ f0 f1, h.get? z = some { cls := .type "zip", dict := none, data := .fields #[f0, f1, .bool false, .ref TI, .ref TO], slots := #[] } := by
  rcases st.go with q | ⟨T, b, _, q, _⟩
  · exact ⟨_, _, q⟩
  · exact ⟨_, _, q⟩
theorem collect_zip {Q : List Value → Shared → Prop} (hh : A.handled = none) (D : ZipApart z TI TO i1 i2 l1 l2) (hlen : xs.size = ys.size) (hn : xs.size ≤ sizeLine) (hz0 : IsZip s.heap z TI TO .none) (st : ZipSt s.heap z TI TO i1 i2 l1 l2 xs ys 0)
    (hQ : ∀ h' acc, (∀ c o, c ≠ z → c ≠ TO → c ≠ i1 → c ≠ i2 → s.heap.get? c = some o → h'.get? c = some o) → s.heap.objs.size ≤ h'.objs.size → Got h' s.heap.objs.size [z, TO, i1, i2, s.heap.objs.size] xs ys acc xs.size → Q acc.toList { s with heap := h' }) :
    wpAny (model prog w) A (collect (.ref z)) Q E s := by
  have old : ∀ c o, s.heap.get? c = some o → c ≠ s.heap.objs.size := fun c o e => Nat.ne_of_lt (Heap.lt_size e)
  have nS : s.heap.objs.size ∉ [z, TI, TO, i1, i2, l1, l2] := by
    obtain ⟨lz, lTO, li1, li2⟩ := zip_lts D st
    obtain ⟨_, ti, _, _, _, ⟨o1, e1, _⟩, ⟨o2, e2, _⟩⟩ := st
    simp only [List.mem_cons, List.not_mem_nil, or_false, not_or]
    exact ⟨Nat.ne_of_gt lz, (old _ _ ti).symm, Nat.ne_of_gt lTO, Nat.ne_of_gt li1, Nat.ne_of_gt li2, (old _ _ e1).symm, (old _ _ e2).symm⟩
  have nz : s.heap.objs.size ≠ z := fun e => nS (by rw [e]; exact List.mem_cons_self)
  unfold collect
  refine wpAny_bind (wpAny_runValue (codeAny_builtin F.entry_proto_collect ?_))
  rw [Around.under_plainId F.plain_proto_collect _]
  show wpAny _ A.in1 (newList [] >>= fun l => again (.builtin "list.__iadd__" ⟨[l, .ref z], []⟩)) _ _ s
  refine wpAny_bind (wpAny_newObj_type ?_)
  refine wpAny_pure ⟨plainId_quiet F.plain_list_iadd _, codeAny_builtin F.entry_list_iadd ?_⟩
  rw [Around.under_plainId F.plain_list_iadd _]
  have up : ∀ c o, s.heap.get? c = some o → (s.heap.push { cls := .type "list", data := .seq ([] : List Value).toArray }).get? c = some o := fun c o e => Heap.get?_push_of_some _ e
  have at1 : (s.heap.push { cls := .type "list", data := .seq ([] : List Value).toArray }).get? s.heap.objs.size = some { cls := .type "list", data := .seq ([] : List Value).toArray } := Heap.get?_push_size _ rfl
  have st1 := st.keep nS (fun c o _ e => up c o e) ⟨_, at1⟩
  have ty : (Shared.mk (s.heap.push { cls := .type "list", data := .seq ([] : List Value).toArray }) s.gens s.drawn s.toks s.os).TypeIs (.ref z) "zip" := ⟨_, up _ _ hz0, rfl⟩
  show wpAny _ A.in1 (Builtin.List.listExtendWith (.ref s.heap.objs.size) (.ref z) (.ref s.heap.objs.size)) _ _ _
  unfold Builtin.List.listExtendWith
  refine wpAny_bind (wpAny_typeOf ty ?_)
  have n1 : Builtin.List.listSameRef (.ref s.heap.objs.size) (.ref z) = false := by simp [Builtin.List.listSameRef, nz]
  have n2 : (Value.type "zip" == Value.type "list") = false := by decide
  have n3 : (Value.type "zip" == Value.type "tuple") = false := by decide
  simp only [n1, n2, n3, Bool.or_false, Bool.false_eq_true, if_false]
  refine wpAny_bind (wpAny_pyIter_zip (up _ _ hz0) ?_)
  refine wpAny_bind (wpAny_holding ?_)
  unfold Builtin.List.listLengthHint
  refine wpAny_bind (wpAny_specialOf ty zip_no_len ?_)
  show wpAny _ A.in1 (specialOf (Value.ref z) (Str.ofString "__length_hint__") >>= _) _ _ _
  refine wpAny_bind (wpAny_specialOf ty zip_no_hint ?_)
  refine wpAny_pure ?_
  show wpAny _ A.in1 (rule "list.extend.makes-room" >>= fun _ => Builtin.List.listTouch (.ref s.heap.objs.size) >>= fun _ =>
    again (.builtin "list.extend.loop" ⟨[.ref s.heap.objs.size, .ref z, .ref s.heap.objs.size], []⟩)) _ _ _
  refine wpAny_bind (wpAny_rule ?_)
  refine wpAny_bind ?_
  show wpAny _ A.in1 (updateSeq s.heap.objs.size (·.push .none) >>= fun _ => updateSeq s.heap.objs.size (·.pop)) _ _ _
  refine wpAny_bind (wpAny_updateSeq at1 rfl ?_)
  have at2 := Heap.get?_update_self (Obj.mapSeq (·.push Value.none)) at1 rfl
  refine wpAny_updateSeq at2 rfl ?_
  have at3 := Heap.get?_update_self (Obj.mapSeq (·.pop)) at2 rfl
  have oth : ∀ b o, b ≠ s.heap.objs.size → (s.heap.push { cls := .type "list", data := .seq ([] : List Value).toArray }).get? b = some o →
      (((s.heap.push { cls := .type "list", data := .seq ([] : List Value).toArray }).update s.heap.objs.size (Obj.mapSeq (·.push Value.none))).update s.heap.objs.size (Obj.mapSeq (·.pop))).get? b = some o :=
    fun b o hb e => (Heap.get?_update_other _ _ (Ne.symm hb)).trans ((Heap.get?_update_other _ _ (Ne.symm hb)).trans e)
  refine wpAny_pure ⟨plainId_quiet F.plain_extend_loop _, zip_loop (i := 0) (s := { s with heap := (((s.heap.push { cls := .type "list", data := .seq ([] : List Value).toArray }).update s.heap.objs.size (Obj.mapSeq (·.push Value.none))).update s.heap.objs.size (Obj.mapSeq (·.pop))) })
    hh D hlen hn s.heap.objs.size nS _ s.heap.objs.size xs.size #[] _ rfl (Nat.zero_le _) (st1.keep nS oth ⟨_, at3⟩) at3 (Nat.le_of_lt (Heap.lt_size at3)) ⟨rfl, (fun j v e => by simp at e), fun j k T U _ e => by simp at e⟩ fun h' acc' c' kp hS got => ?_⟩
  show wpAny _ A (load s.heap.objs.size >>= _) _ _ _
  refine wpAny_bind (wpAny_load hS ?_)
  refine wpAny_pure (hQ h' acc' (fun c o c1 c2 c3 c4 e => kp c o ?_ (oth c o (old c o e) (up c o e))) (Nat.le_of_lt (Heap.lt_size hS)) got)
  simp only [List.mem_cons, List.not_mem_nil, or_false, not_or]
  exact ⟨c1, c2, c3, c4, old c o e⟩
theorem extend_zip {R : Result → Shared → Prop} (hh : A.in1.handled = none) (D : ZipApart z TI TO i1 i2 l1 l2) (hlen : xs.size = ys.size) (hn : xs.size ≤ sizeLine) (hz0 : IsZip s.heap z TI TO .none) (st : ZipSt s.heap z TI TO i1 i2 l1 l2 xs ys 0) (S : Addr) (nS : S ∉ [z, TI, TO, i1, i2, l1, l2]) (c0 : Nat)
    (hS : s.heap.get? S = some { cls := .type "list", data := .seq #[] c0 }) (n0 : Nat) (hn0 : n0 ≤ s.heap.objs.size) (res : Value)
    (hR : ∀ h' acc c', (∀ c o, c ∉ [z, TO, i1, i2, S] → s.heap.get? c = some o → h'.get? c = some o) → h'.get? S = some { cls := .type "list", dict := none, data := .seq acc c', slots := #[] } → Got h' n0 [z, TO, i1, i2, S] xs ys acc xs.size → R (.ok (.ret res)) { s with heap := h' }) :
    wpAny (model prog w) A.in1 (Builtin.List.listExtendWith (.ref S) (.ref z) res)
      (fun fin s' => match fin with | .done f => R (.ok f) s' | .again c' => c'.quiet = true ∧ codeAny (model prog w) A c' R s') (fun e s' => R (.error e) s') s := by
  have nz : S ≠ z := fun e => nS (by rw [e]; exact List.mem_cons_self)
  have ty : s.TypeIs (.ref z) "zip" := ⟨_, hz0, rfl⟩
  unfold Builtin.List.listExtendWith
  refine wpAny_bind (wpAny_typeOf ty ?_)
  have n1 : Builtin.List.listSameRef (.ref S) (.ref z) = false := by simp [Builtin.List.listSameRef, nz]
  have n2 : (Value.type "zip" == Value.type "list") = false := by decide
  have n3 : (Value.type "zip" == Value.type "tuple") = false := by decide
  simp only [n1, n2, n3, Bool.or_false, Bool.false_eq_true, if_false]
  refine wpAny_bind (wpAny_pyIter_zip hz0 ?_)
  refine wpAny_bind (wpAny_holding ?_)
  unfold Builtin.List.listLengthHint
  refine wpAny_bind (wpAny_specialOf ty zip_no_len ?_)
  show wpAny _ A.in1 (specialOf (Value.ref z) (Str.ofString "__length_hint__") >>= _) _ _ _
  refine wpAny_bind (wpAny_specialOf ty zip_no_hint ?_)
  refine wpAny_pure ?_
  show wpAny _ A.in1 (rule "list.extend.makes-room" >>= fun _ => Builtin.List.listTouch (.ref S) >>= fun _ =>
    again (.builtin "list.extend.loop" ⟨[.ref S, .ref z, res], []⟩)) _ _ _
  refine wpAny_bind (wpAny_rule ?_)
  refine wpAny_bind ?_
  show wpAny _ A.in1 (updateSeq S (·.push .none) >>= fun _ => updateSeq S (·.pop)) _ _ _
  refine wpAny_bind (wpAny_updateSeq hS rfl ?_)
  have at2 := Heap.get?_update_self (Obj.mapSeq (·.push Value.none)) hS rfl
  refine wpAny_updateSeq at2 rfl ?_
  have at3 := Heap.get?_update_self (Obj.mapSeq (·.pop)) at2 rfl
  have oth : ∀ b o, b ≠ S → s.heap.get? b = some o → ((s.heap.update S (Obj.mapSeq (·.push Value.none))).update S (Obj.mapSeq (·.pop))).get? b = some o :=
    fun b o hb e => (Heap.get?_update_other _ _ (Ne.symm hb)).trans ((Heap.get?_update_other _ _ (Ne.symm hb)).trans e)
  have big : s.heap.objs.size ≤ ((s.heap.update S (Obj.mapSeq (·.push Value.none))).update S (Obj.mapSeq (·.pop))).objs.size := by
    simp [Heap.size_update]
  refine wpAny_pure ⟨plainId_quiet F.plain_extend_loop _, zip_loop (i := 0) (s := { s with heap := ((s.heap.update S (Obj.mapSeq (·.push Value.none))).update S (Obj.mapSeq (·.pop))) })
    hh D hlen hn S nS res n0 xs.size #[] _ rfl (Nat.zero_le _) (st.keep nS oth ⟨_, at3⟩) at3 (Nat.le_trans hn0 big) ⟨rfl, (fun j v e => by simp at e), fun j k T U _ e => by simp at e⟩ fun h' acc' c' kp hS got => ?_⟩
  exact hR h' acc' c' (fun c o hc e => kp c o hc (oth c o (fun q => hc (by simp [q])) e)) hS got
theorem list_init_zip {R : Result → Shared → Prop} (hh : A.in1.handled = none) (D : ZipApart z TI TO i1 i2 l1 l2) (hlen : xs.size = ys.size) (hn : xs.size ≤ sizeLine) (hz0 : IsZip s.heap z TI TO .none) (st : ZipSt s.heap z TI TO i1 i2 l1 l2 xs ys 0) (S : Addr) (nS : S ∉ [z, TI, TO, i1, i2, l1, l2])
    (hS : s.heap.get? S = some { cls := .type "list", data := .seq #[] }) (n0 : Nat) (hn0 : n0 ≤ s.heap.objs.size)
    (hR : ∀ h' acc c', (∀ c o, c ∉ [z, TO, i1, i2, S] → s.heap.get? c = some o → h'.get? c = some o) → h'.get? S = some { cls := .type "list", dict := none, data := .seq acc c', slots := #[] } → Got h' n0 [z, TO, i1, i2, S] xs ys acc xs.size → R (.ok (.ret .none)) { s with heap := h' }) :
    wpAny (model prog w) A.in1 (Builtin.«list.__init__» ⟨[.ref S, .ref z], []⟩)
      (fun fin s' => match fin with | .done f => R (.ok f) s' | .again c' => c'.quiet = true ∧ codeAny (model prog w) A c' R s') (fun e s' => R (.error e) s') s := by
  have nz : S ≠ z := fun e => nS (by rw [e]; exact List.mem_cons_self)
  show wpAny _ _ (do let old ← Builtin.List.listItems (.ref S); Builtin.List.listUpdate (.ref S) (fun _ => #[]); letGo old.toList.reverse; Builtin.List.listExtendWith (.ref S) (.ref z) .none) _ _ s
  refine wpAny_bind ?_
  unfold Builtin.List.listItems
  refine wpAny_bind (wpAny_seqItems hS rfl (wpAny_pure ?_))
  show wpAny _ _ (updateSeq S (fun _ => #[]) >>= fun _ => letGo (#[] : Array Value).toList.reverse >>= fun _ => Builtin.List.listExtendWith (.ref S) (.ref z) .none) _ _ s
  refine wpAny_bind (wpAny_updateSeq hS rfl ?_)
  have hS₂ := Heap.get?_update_self (Obj.mapSeq (fun _ => (#[] : Array Value))) hS rfl
  have oth : ∀ b o, b ≠ S → s.heap.get? b = some o → (s.heap.update S (Obj.mapSeq (fun _ => (#[] : Array Value)))).get? b = some o :=
    fun b o hb e => (Heap.get?_update_other _ _ (Ne.symm hb)).trans e
  refine wpAny_bind (wpAny_letGo ?_)
  have big : s.heap.objs.size ≤ (s.heap.update S (Obj.mapSeq (fun _ => (#[] : Array Value)))).objs.size := by
    simp [Heap.size_update]
  refine extend_zip (s := { s with heap := s.heap.update S (Obj.mapSeq (fun _ => (#[] : Array Value))) }) hh D hlen hn (oth z _ nz.symm hz0) (st.keep nS oth ⟨_, hS₂⟩) S nS _ hS₂ n0 (Nat.le_trans hn0 big) .none fun h' acc c' kp hS' got => ?_
  exact hR h' acc c' (fun c o hc e => kp c o hc (oth c o (fun q => hc (by simp [q])) e)) hS' got
end
end PySem


namespace PySem
open Sem (wp)
open AutoSeq1 (wpAny_loadPart')
section
variable {prog : Program} {w : World} {A : Around} {E : Value → Shared → Prop} {s : Shared} {z TI TO i1 i2 l1 l2 : Addr} {xs ys : Array Value}
theorem code_tuple_zip {Q₁ : Value → Shared → Prop} (hh : A.handled = none) (D : ZipApart z TI TO i1 i2 l1 l2) (hlen : xs.size = ys.size) (hn : xs.size ≤ sizeLine) (hz0 : IsZip s.heap z TI TO .none) (st : ZipSt s.heap z TI TO i1 i2 l1 l2 xs ys 0)
    (hQ : ∀ h' acc, (∀ c o, c ≠ z → c ≠ TO → c ≠ i1 → c ≠ i2 → s.heap.get? c = some o → h'.get? c = some o) → s.heap.objs.size ≤ h'.objs.size → Got h' s.heap.objs.size [z, TO, i1, i2, s.heap.objs.size] xs ys acc xs.size → Q₁ (.ref h'.objs.size) { s with heap := h'.push { cls := .type "tuple", data := .seq acc } }) :
    codeAny (model prog w) A (.call (.builtin "tuple.__new__") ⟨[.type "tuple", .ref z], []⟩) (wants Q₁ E) s := by
  refine codeAny_of_tree ?_
  show wpAny _ A.in1 (do checkBuiltinCall "tuple.__new__" ⟨[.type "tuple", .ref z], []⟩; again (.builtin "tuple.__new__" ⟨[.type "tuple", .ref z], []⟩)) _ _ s
  refine wpAny_bind (wpAny_of_eq (F.newCall_tuple_1 _) (wpAny_pure ⟨plainId_quiet F.plain_tuple_new _, codeAny_builtin F.entry_tuple_new ?_⟩))
  rw [Around.under_plainId F.plain_tuple_new _]
  have subs := sub_tuple_self
  have inits := init_tuple_lookup
  have mades := madeHere_tuple
  have ty : s.TypeIs (.ref z) "zip" := ⟨_, hz0, rfl⟩
  wp_walk using wpAny_typeOf ty, collect_zip (A := A.in1) hh D hlen hn hz0 st
  intro h' acc kp big got
  show wpAny _ _ (Builtin.Tuple.tupleExact acc.toList.toArray >>= fun v => ret v) _ _ _
  unfold Builtin.Tuple.tupleExact
  refine wpAny_bind (wpAny_newObj_type ?_ (by show acc.toList.toArray.size ≤ sizeLine; simp only [Array.toArray_toList]; rw [got.1]; exact hn))
  refine wpAny_pure ?_
  have e : acc.toList.toArray = acc := by simp
  rw [e]
  exact hQ h' acc kp big got
theorem call_tuple_zip {Q : Value → Shared → Prop} (hh : A.handled = none) (D : ZipApart z TI TO i1 i2 l1 l2) (hlen : xs.size = ys.size) (hn : xs.size ≤ sizeLine) (hz0 : IsZip s.heap z TI TO .none) (st : ZipSt s.heap z TI TO i1 i2 l1 l2 xs ys 0)
    (hQ : ∀ h' acc, (∀ c o, c ≠ z → c ≠ TO → c ≠ i1 → c ≠ i2 → s.heap.get? c = some o → h'.get? c = some o) → s.heap.objs.size ≤ h'.objs.size → Got h' s.heap.objs.size [z, TO, i1, i2, s.heap.objs.size] xs ys acc xs.size → Q (.ref h'.objs.size) { s with heap := h'.push { cls := .type "tuple", data := .seq acc } }) :
    wpAny (model prog w) A (call (.type "tuple") [.ref z]) Q E s := by
  refine callType_codes (Q₁ := fun obj s₁ => s₁.TypeIs obj "tuple" ∧ Q obj s₁) F.called_tuple (F.typeCall_tuple_1 _) F.entry_object_init
    (code_tuple_zip hh D hlen hn hz0 st fun h' acc kp big got => ⟨⟨_, Heap.get?_push_size _ rfl, rfl⟩, hQ h' acc kp big got⟩) fun obj s₁ h₁ => ?_
  exact ⟨h₁.1, F.args_object_init_2 obj _, object_init_meets F.called_tuple.init.lookup F.called_tuple.made (by decide) prog w A.in1 _ s₁ ⟨h₁.1, rfl, h₁.2⟩⟩
theorem call_list_zip {Q : Value → Shared → Prop} (hh : A.handled = none) (D : ZipApart z TI TO i1 i2 l1 l2) (hlen : xs.size = ys.size) (hn : xs.size ≤ sizeLine) (hz0 : IsZip s.heap z TI TO .none) (st : ZipSt s.heap z TI TO i1 i2 l1 l2 xs ys 0)
    (hQ : ∀ h' acc c', (∀ c o, c ≠ z → c ≠ TO → c ≠ i1 → c ≠ i2 → s.heap.get? c = some o → h'.get? c = some o) → h'.get? s.heap.objs.size = some { cls := .type "list", dict := none, data := .seq acc c', slots := #[] } → Got h' s.heap.objs.size [z, TO, i1, i2, s.heap.objs.size] xs ys acc xs.size → Q (.ref s.heap.objs.size) { s with heap := h' }) :
    wpAny (model prog w) A (call (.type "list") [.ref z]) Q E s := by
  have old : ∀ c o, s.heap.get? c = some o → c ≠ s.heap.objs.size := fun c o e => Nat.ne_of_lt (Heap.lt_size e)
  have nS : s.heap.objs.size ∉ [z, TI, TO, i1, i2, l1, l2] := by
    obtain ⟨lz, lTO, li1, li2⟩ := zip_lts D st
    obtain ⟨_, ti, _, _, _, ⟨o1, e1, _⟩, ⟨o2, e2, _⟩⟩ := st
    simp only [List.mem_cons, List.not_mem_nil, or_false, not_or]
    exact ⟨Nat.ne_of_gt lz, (old _ _ ti).symm, Nat.ne_of_gt lTO, Nat.ne_of_gt li1, Nat.ne_of_gt li2, (old _ _ e1).symm, (old _ _ e2).symm⟩
  refine callType_codes (Q₁ := fun obj s₁ => obj = .ref s.heap.objs.size ∧ s₁ = { s with heap := s.heap.push { cls := .type "list", data := .seq #[] } }) F.called_list (F.typeCall_list_1 _) F.entry_list_init
    (code_list_new _ ⟨rfl, rfl⟩) fun obj s₁ h₁ => ?_
  obtain ⟨rfl, rfl⟩ := h₁
  have hS : (s.heap.push { cls := .type "list", data := .seq #[] }).get? s.heap.objs.size = some { cls := .type "list", data := .seq #[] } := Heap.get?_push_size _ rfl
  have up : ∀ c o, s.heap.get? c = some o → (s.heap.push { cls := .type "list", data := .seq #[] }).get? c = some o := fun c o e => Heap.get?_push_of_some _ e
  refine ⟨⟨_, hS, rfl⟩, F.args_list_init_2 _ _, list_init_zip (A := A.in1) (s := { s with heap := s.heap.push { cls := .type "list", data := .seq #[] } }) hh D hlen hn (up _ _ hz0) (st.keep nS (fun c o _ e => up c o e) ⟨_, hS⟩) s.heap.objs.size nS hS s.heap.objs.size (Nat.le_of_lt (Heap.lt_size hS)) fun h' acc c' kp hS' got => ?_⟩
  refine ⟨rfl, hQ h' acc c' (fun c o c1 c2 c3 c4 e => kp c o ?_ (up c o e)) hS' got⟩
  simp only [List.mem_cons, List.not_mem_nil, or_false, not_or]
  exact ⟨c1, c2, c3, c4, old c o e⟩
end
end PySem


namespace L2
open PySem PySem.Spec PyProof.Rows
/-! tuple(zip(xs, ys)), list(zip(xs, ys)), in the hand layer: the pairs are new, and tracked -/
def layT : List (Addr × (V × V)) → Hp → Hp
  | [], H => H
  | p :: r, H => layT r (upd H p.1 (.tup [p.2.1, p.2.2]))
theorem layT_out : ∀ (l : List (Addr × (V × V))) (H : Hp) (c : Addr), c ∉ l.map (·.1) → layT l H c = H c
  | [], _, _, _ => rfl
  | p :: r, H, c, h => by
    simp only [List.map_cons, List.mem_cons, not_or] at h
    show layT r (upd H p.1 (.tup [p.2.1, p.2.2])) c = H c
    rw [layT_out r _ c h.2, upd_ne h.1]
theorem layT_in : ∀ (l : List (Addr × (V × V))) (H : Hp), (l.map (·.1)).Nodup → ∀ p ∈ l, layT l H p.1 = some (.tup [p.2.1, p.2.2])
  | [], _, _, _, h => nomatch h
  | q :: r, H, nd, p, h => by
    rw [List.map_cons, List.nodup_cons] at nd
    show layT r (upd H q.1 (.tup [q.2.1, q.2.2])) p.1 = _
    rcases List.mem_cons.mp h with e | e
    · rw [e, layT_out r _ _ nd.1, upd_same]
    · exact layT_in r _ nd.2 p e
/-- the pairs of xs and ys stand in H2 at ts, all new -/
def ZipNew (H1 H2 : Hp) (xs ys : List V) (ts : List Addr) : Prop := Same H1 H2 ∧ Paired (fun (T : Addr) (p : V × V) => H1 T = none ∧ H2 T = some (.tup [p.1, p.2])) ts (xs.zip ys)
def rZipT (K : PySem.W.Frag) (vs : List V) (H1 : Hp) (Q : VK) : Prop := ∃ (a b : Addr) (xs ys : List V), vs = [.ref a, .ref b] ∧ SqL K H1 a xs ∧ SqL K H1 b ys ∧ xs.length = ys.length ∧ xs.length ≤ 1000 ∧
  ∀ H2 ts t, ZipNew H1 H2 xs ys ts → H1 t = none → H2 t = some (.tup (ts.map V.ref)) → Q (.ref t) H2
def rZipL (K : PySem.W.Frag) (vs : List V) (H1 : Hp) (Q : VK) : Prop := ∃ (a b : Addr) (xs ys : List V), vs = [.ref a, .ref b] ∧ SqL K H1 a xs ∧ SqL K H1 b ys ∧ xs.length = ys.length ∧ xs.length ≤ 1000 ∧
  ∀ H2 ts t, ZipNew H1 H2 xs ys ts → H1 t = none → H2 t = some (.lst (ts.map V.ref)) → Q (.ref t) H2
def tTupZip (K : PySem.W.Frag) (ta : TA) : TE := fun σ H Q => ta σ H fun vs H1 => rZipT K vs H1 Q
def tLstZip (K : PySem.W.Frag) (ta : TA) : TE := fun σ H Q => ta σ H fun vs H1 => rZipL K vs H1 Q
theorem refsZ : ∀ (l : List Value), (∀ v ∈ l, ∃ T : Addr, v = .ref T) → ∃ ts : List Addr, l = ts.map Value.ref
  | [], _ => ⟨[], rfl⟩
  | v :: l, h => by
    obtain ⟨T, rfl⟩ := h v List.mem_cons_self
    obtain ⟨ts, e⟩ := refsZ l fun u hu => h u (List.mem_cons_of_mem _ hu)
    exact ⟨T :: ts, by rw [e]; rfl⟩
theorem valsZ : ∀ ts : List Addr, Vals (ts.map V.ref) (ts.map Value.ref)
  | [] => .nil
  | t :: ts => .cons rfl (valsZ ts)
theorem zipped_map {ts : List Addr} {ps : List (V × V)} (h : ts.length = ps.length) : (ts.zip ps).map (·.1) = ts := List.map_fst_zip (Nat.le_of_eq h)
section
variable {X : Cx} {pins : List (Addr × Obj)} {σ : St} {H1 : Hp} {s1 : Shared}
/-- behind a zip that was told whole: the pairs are tracked -/
theorem track_zip (I1 : Inv X pins σ H1 s1) {xs ys : List V} {its its2 : List Value} (rv : Vals xs its) (rv2 : Vals ys its2) (hl : xs.length = ys.length) (hn : xs.length ≤ 1000) {h3 : Heap} {n0 : Nat} {bad : List Addr} {acc : Array Value} {t : Addr} {u : List Addr → HO}
    (n1 : s1.heap.objs.size ≤ n0) (got : Got h3 n0 bad its.toArray its2.toArray acc xs.length) (k : ∀ b o, s1.heap.get? b = some o → h3.get? b = some o) (ht : s1.heap.objs.size ≤ t) (htb : ∀ (j : Nat) (T : Addr), acc[j]? = some (.ref T) → T ≠ t)
    (hu : ∀ (ts : List Addr) (H2 : Hp), acc.toList = ts.map Value.ref → ts.length = xs.length → ObjOk X.prog X.w H2 h3 t (u ts)) :
    ∃ (ts : List Addr) (H2 : Hp), Inv X pins σ H2 { s1 with heap := h3 } ∧ ZipNew H1 H2 xs ys ts ∧ H1 t = none ∧ H2 t = some (u ts) := by
  obtain ⟨g1, g2, g3⟩ := got
  have at_ : ∀ (j : Nat) (v : Value), acc.toList[j]? = some v → acc[j]? = some v := fun j v e => by rw [← Array.getElem?_toList]; exact e
  obtain ⟨ts, ets⟩ := refsZ acc.toList fun v hv => by
    obtain ⟨j, hj⟩ := List.mem_iff_getElem?.mp hv
    obtain ⟨T, _, _, e, _⟩ := g2 j v (at_ j v hj)
    exact ⟨T, e⟩
  have lts : ts.length = xs.length := by
    have z : acc.toList.length = ts.length := by rw [ets, List.length_map]
    rw [← z, Array.length_toList, g1]
  have lz : (xs.zip ys).length = xs.length := by rw [List.length_zip]; omega
  have acc_at : ∀ (j : Nat) (T : Addr), ts[j]? = some T → acc[j]? = some (.ref T) := fun j T e => at_ j _ (by rw [ets, List.getElem?_map, e]; rfl)
  have nd : ts.Nodup := by
    rw [List.Nodup, List.pairwise_iff_getElem]
    intro i j hi hj hij
    exact Nat.ne_of_lt (g3 i j _ _ hij (acc_at i _ (List.getElem?_eq_getElem hi)) (acc_at j _ (List.getElem?_eq_getElem hj)))
  have emap : (ts.zip (xs.zip ys)).map (·.1) = ts := zipped_map (by rw [lz, lts])
  have big : ∀ T ∈ ts, s1.heap.objs.size ≤ T ∧ T ≠ t := fun T hT => by
    obtain ⟨j, hj⟩ := List.mem_iff_getElem?.mp hT
    obtain ⟨T', _, _, e, h0, _⟩ := g2 j _ (acc_at j T hj)
    cases e
    exact ⟨Nat.le_trans n1 h0, htb j T (acc_at j T hj)⟩
  have out1 : ∀ c, c ∉ ts → layT (ts.zip (xs.zip ys)) H1 c = H1 c := fun c hc => layT_out _ _ c (by rw [emap]; exact hc)
  have in1 : ∀ p ∈ ts.zip (xs.zip ys), layT (ts.zip (xs.zip ys)) H1 p.1 = some (.tup [p.2.1, p.2.2]) := layT_in _ _ (by rw [emap]; exact nd)
  have old : ∀ c, c < s1.heap.objs.size → c ∉ ts ∧ c ≠ t := fun c hc => ⟨fun hm => Nat.lt_irrefl _ (Nat.lt_of_lt_of_le hc (big c hm).1), fun e => Nat.lt_irrefl _ (Nat.lt_of_lt_of_le hc (e ▸ ht))⟩
  have keep1 : ∀ c, c < s1.heap.objs.size → upd (layT (ts.zip (xs.zip ys)) H1) t (u ts) c = H1 c := fun c hc => by
    rw [upd_ne (old c hc).2, out1 c (old c hc).1]
  have tracked : ∀ c o, H1 c = some o → c < s1.heap.objs.size := fun c o e => I1.hok.lt e
  have same : ∀ c o, H1 c = some o → upd (layT (ts.zip (xs.zip ys)) H1) t (u ts) c = some o := fun c o e => (keep1 c (tracked c o e)).trans e
  refine ⟨ts, upd (layT (ts.zip (xs.zip ys)) H1) t (u ts), ?_, ⟨same, ?_⟩, I1.hok.fresh ht, upd_same⟩
  · refine I1.un (t' := s1.toks) ⟨fun b o q _ _ _ => k b o q, fun b o q _ _ _ => ⟨o.slots, k b o q⟩, fun b o q n _ => (keep1 b (Heap.lt_size q)).trans n, fun b o q _ => ⟨o, k b o q⟩, fun b xs q => same b _ q, fun b o u q => same b _ q, fun b ps q => ⟨#[], by rw [same b _ q]; simp⟩⟩ fun c o e => ?_
    by_cases hc : c = t
    · subst hc
      rw [upd_same] at e
      cases e
      exact hu ts _ ets lts
    · rw [upd_ne hc] at e
      by_cases hm : c ∈ ts
      · obtain ⟨j, hj⟩ := List.mem_iff_getElem?.mp hm
        have hjl : j < ts.length := (List.getElem?_eq_some_iff.mp hj).1
        obtain ⟨T', x, y, e1, _, _, hx, hy, hp⟩ := g2 j _ (acc_at j c hj)
        cases e1
        have mx : xs[j]? = some xs[j] := List.getElem?_eq_getElem (by omega)
        have my : ys[j]? = some ys[j] := List.getElem?_eq_getElem (by omega)
        have mz : (c, (xs[j], ys[j])) ∈ ts.zip (xs.zip ys) := by
          refine List.mem_iff_getElem?.mpr ⟨j, ?_⟩
          rw [List.getElem?_zip_eq_some, List.getElem?_zip_eq_some]
          exact ⟨hj, mx, my⟩
        rw [in1 _ mz] at e
        cases e
        obtain ⟨u1, hu1, ru1⟩ := rv.get mx
        obtain ⟨u2, hu2, ru2⟩ := rv2.get my
        have ex : u1 = x := by
          have : its.toArray[j]? = some u1 := by simpa using hu1
          rw [hx] at this
          exact (Option.some.inj this).symm
        have ey : u2 = y := by
          have : its2.toArray[j]? = some u2 := by simpa using hu2
          rw [hy] at this
          exact (Option.some.inj this).symm
        exact ⟨by show 2 ≤ sizeLine; decide, [x, y], .cons (ex ▸ ru1) (.cons (ey ▸ ru2) .nil), ⟨_, hp, rfl, _, rfl⟩⟩
      · rw [out1 c hm] at e
        exact (I1.hok c o e).stay (fun b v _ q => k b v q) (fun b q => same b _ q) fun b xs q => same b _ q
  · have pw : ∀ (l : List Addr) (ps : List (V × V)), l.length = ps.length → (∀ p ∈ l.zip ps, H1 p.1 = none ∧ upd (layT (ts.zip (xs.zip ys)) H1) t (u ts) p.1 = some (.tup [p.2.1, p.2.2])) →
        Paired (fun (T : Addr) (p : V × V) => H1 T = none ∧ upd (layT (ts.zip (xs.zip ys)) H1) t (u ts) T = some (.tup [p.1, p.2])) l ps := by
      intro l
      induction l with
      | nil => intro ps hl _; cases ps with
        | nil => exact .nil
        | cons p ps => simp at hl
      | cons T l ih => intro ps hl h; cases ps with
        | nil => simp at hl
        | cons p ps => exact .cons (h (T, p) (by simp)) (ih ps (by simpa using hl) fun q hq => h q (by simp [hq]))
    refine pw ts (xs.zip ys) (by rw [lz, lts]) fun p hp => ?_
    have hT : p.1 ∈ ts := by
      have := List.mem_map_of_mem (f := fun x : Addr × (V × V) => x.1) hp
      rw [emap] at this
      exact this
    refine ⟨I1.hok.fresh (big _ hT).1, ?_⟩
    rw [upd_ne (big _ hT).2]
    exact in1 p hp
variable {e e2 : Expr} {ta : TA} {p p2 q pos : Pos}
theorem pe_tupZip (hc : X.calm = true) (hg : Gl X "tuple") (hm : X.mg "tuple" = none) (hg2 : Gl X "zip") (hm2 : X.mg "zip" = none) (ha : PA X [e, e2] ta)
    (hs : starEach [e, e2] X.env = (false, eval e X.env) :: starEach [e2] X.env := by rfl) (hpl : (backTo q (starEach [e2] X.env)).any (·.1) = false := by rfl)
    (na : starEach [.Call (.Name "zip" p2) [e, e2] [] q] X.env = (false, eval (.Call (.Name "zip" p2) [e, e2] [] q) X.env) :: starEach [] X.env := by rfl) :
    PE X (.Call (.Name "tuple" p) [.Call (.Name "zip" p2) [e, e2] [] q] [] pos) (tTupZip X.K ta) := by
  refine ⟨fun pins s σ H Q I h => ?_⟩
  refine Call_ (ld_blt I hg hm boot_tuple (PyProof.Rows.callWith_type1 (PyProof.Rows.args_cons ?_ na) na rfl))
  refine Call_ (ld_blt I hg2 hm2 PyProof.Rows.boot_zip (PyProof.Rows.callWith_type1 (thn (ha.run q pins s σ H _ I h) fun us s1 ⟨vs, H1, I1, r1, q1⟩ => ?_) hs hpl))
  obtain ⟨a, b, xs, ys, ex, hqx, hqy, hl, hn, fin⟩ := q1
  subst ex
  cases r1 with
  | cons r rr =>
    cases rr with
    | cons r' rr =>
      cases rr
      cases r
      cases r'
      obtain ⟨its, rv, p1, _⟩ := I1.list hqx
      obtain ⟨its2, rv2, p2, _⟩ := I1.list hqy
      have lx := rv.length
      have ly := rv2.length
      refine call_zip_2 p1.isList p2.isList fun h' hz hTI hTO h1 h2 hsz hk => PyProof.Rows.args_nil ?_
      have st : ZipSt h' (s1.heap.objs.size + 4) (s1.heap.objs.size + 2) (s1.heap.objs.size + 3) s1.heap.objs.size (s1.heap.objs.size + 1) a b its.toArray its2.toArray 0 := ⟨.inl hz, hTI, ⟨_, _, hTO⟩, h1, h2, p1.isList.at fun o e => hk _ o e, p2.isList.at fun o e => hk _ o e⟩
      refine call_tuple_zip (s := { s1 with heap := h' }) (I1.ok.hd hc) (PySem.W.ktu_apart s1.heap.objs.size a b p1.lt p2.lt) (by simp; omega) (by simp; exact Nat.le_of_lt (small1000 (by omega))) hz st fun h3 acc kp big got => ?_
      have size3 : its.toArray.size = xs.length := by simp; omega
      rw [size3] at got
      have far : ∀ b o, s1.heap.get? b = some o → h3.get? b = some o := fun b o e => by
        have lt := Heap.lt_size e
        exact kp b o (Nat.ne_of_lt (Nat.lt_of_lt_of_le lt (Nat.le_add_right _ _))) (Nat.ne_of_lt (Nat.lt_of_lt_of_le lt (Nat.le_add_right _ _))) (Nat.ne_of_lt lt) (Nat.ne_of_lt (Nat.lt_of_lt_of_le lt (Nat.le_add_right _ _))) (hk b o e)
      have push : ∀ b o, h3.get? b = some o → (h3.push { cls := .type "tuple", data := .seq acc }).get? b = some o := fun b o e => Heap.get?_push_of_some _ e
      have got' : Got (h3.push { cls := .type "tuple", data := .seq acc }) h'.objs.size [s1.heap.objs.size + 4, s1.heap.objs.size + 3, s1.heap.objs.size, s1.heap.objs.size + 1, h'.objs.size] its.toArray its2.toArray acc xs.length := got.keep fun c o _ e => push c o e
      obtain ⟨ts, H2, I2, zn, t0, t2⟩ := track_zip (u := fun ts => .tup (ts.map V.ref)) (t := h3.objs.size) I1 rv rv2 hl hn (by omega : s1.heap.objs.size ≤ h'.objs.size) got' (fun b o e => push b o (far b o e)) (by have : h'.objs.size ≤ h3.objs.size := big; omega) (fun j T e => Nat.ne_of_lt (got.low j T e))
        (fun ts H2 ets lts => ⟨by rw [List.length_map, lts]; exact Nat.le_of_lt (small1000 hn), ts.map Value.ref, valsZ ts, ⟨_, Heap.get?_push_size _ rfl, rfl, _, by rw [← ets]⟩⟩)
      exact ⟨.ref h3.objs.size, H2, I2, rfl, fin H2 ts _ zn t0 t2⟩
theorem pe_lstZip (hc : X.calm = true) (hg : Gl X "list") (hm : X.mg "list" = none) (hg2 : Gl X "zip") (hm2 : X.mg "zip" = none) (ha : PA X [e, e2] ta)
    (hs : starEach [e, e2] X.env = (false, eval e X.env) :: starEach [e2] X.env := by rfl) (hpl : (backTo q (starEach [e2] X.env)).any (·.1) = false := by rfl)
    (na : starEach [.Call (.Name "zip" p2) [e, e2] [] q] X.env = (false, eval (.Call (.Name "zip" p2) [e, e2] [] q) X.env) :: starEach [] X.env := by rfl) :
    PE X (.Call (.Name "list" p) [.Call (.Name "zip" p2) [e, e2] [] q] [] pos) (tLstZip X.K ta) := by
  refine ⟨fun pins s σ H Q I h => ?_⟩
  refine Call_ (ld_blt I hg hm boot_list (PyProof.Rows.callWith_type1 (PyProof.Rows.args_cons ?_ na) na rfl))
  refine Call_ (ld_blt I hg2 hm2 PyProof.Rows.boot_zip (PyProof.Rows.callWith_type1 (thn (ha.run q pins s σ H _ I h) fun us s1 ⟨vs, H1, I1, r1, q1⟩ => ?_) hs hpl))
  obtain ⟨a, b, xs, ys, ex, hqx, hqy, hl, hn, fin⟩ := q1
  subst ex
  cases r1 with
  | cons r rr =>
    cases rr with
    | cons r' rr =>
      cases rr
      cases r
      cases r'
      obtain ⟨its, rv, p1, _⟩ := I1.list hqx
      obtain ⟨its2, rv2, p2, _⟩ := I1.list hqy
      have lx := rv.length
      have ly := rv2.length
      refine call_zip_2 p1.isList p2.isList fun h' hz hTI hTO h1 h2 hsz hk => PyProof.Rows.args_nil ?_
      have st : ZipSt h' (s1.heap.objs.size + 4) (s1.heap.objs.size + 2) (s1.heap.objs.size + 3) s1.heap.objs.size (s1.heap.objs.size + 1) a b its.toArray its2.toArray 0 := ⟨.inl hz, hTI, ⟨_, _, hTO⟩, h1, h2, p1.isList.at fun o e => hk _ o e, p2.isList.at fun o e => hk _ o e⟩
      refine call_list_zip (s := { s1 with heap := h' }) (I1.ok.hd hc) (PySem.W.ktu_apart s1.heap.objs.size a b p1.lt p2.lt) (by simp; omega) (by simp; exact Nat.le_of_lt (small1000 (by omega))) hz st fun h3 acc c' kp hS got => ?_
      have size3 : its.toArray.size = xs.length := by simp; omega
      rw [size3] at got
      have far : ∀ b o, s1.heap.get? b = some o → h3.get? b = some o := fun b o e => by
        have lt := Heap.lt_size e
        exact kp b o (Nat.ne_of_lt (Nat.lt_of_lt_of_le lt (Nat.le_add_right _ _))) (Nat.ne_of_lt (Nat.lt_of_lt_of_le lt (Nat.le_add_right _ _))) (Nat.ne_of_lt lt) (Nat.ne_of_lt (Nat.lt_of_lt_of_le lt (Nat.le_add_right _ _))) (hk b o e)
      obtain ⟨ts, H2, I2, zn, t0, t2⟩ := track_zip (u := fun ts => .lst (ts.map V.ref)) (t := h'.objs.size) I1 rv rv2 hl hn (by omega : s1.heap.objs.size ≤ h'.objs.size) got far (by omega) (fun j T e z => by
          obtain ⟨T', _, _, e1, _, nb, _⟩ := got.2.1 j _ e
          cases e1
          exact nb (by simp [z]))
        (fun ts H2 ets lts => ⟨by rw [List.length_map, lts]; exact Nat.le_of_lt (small1000 hn), ts.map Value.ref, c', valsZ ts, by rw [← ets]; simpa using hS⟩)
      exact ⟨.ref h'.objs.size, H2, I2, rfl, fin H2 ts _ zn t0 t2⟩
end
end L2


namespace Toy
open PySem PySem.Spec L2 PyProof.Rows PySem.W
/-! ### nests of tuples of numbers and texts -/
def TK (H H' : Hp) : Prop := ∀ b xs, H b = some (.tup xs) → H' b = some (.tup xs)
theorem TK.refl {H : Hp} : TK H H := fun _ _ h => h
theorem TK.trans {H H1 H2 : Hp} (a : TK H H1) (b : TK H1 H2) : TK H H2 := fun x xs h => b x xs (a x xs h)
theorem tkS {H H' : Hp} (s : Same H H') : TK H H' := fun b _ h => s b _ h
theorem TK.updL {H : Hp} {D : Addr} {acc : List V} {u : HO} (h : H D = some (.lst acc)) : TK H (L2.upd H D u) := fun b xs hb => by
  rw [upd_ne (ne_of hb h (by intro z; cases z))]
  exact hb
mutual
inductive Tp (H : Hp) : V → PyData → Prop
  | int (i : Int) : Tp H (.int i) (.int i)
  | str (x : Str) : Tp H (.str x) (.str x)
  | tup {a : Addr} {xs : List V} {ds : List PyData} : H a = some (.tup xs) → TpAll H xs ds → Tp H (.ref a) (.tuple ds)
inductive TpAll (H : Hp) : List V → List PyData → Prop
  | nil : TpAll H [] []
  | cons {v : V} {vs : List V} {d : PyData} {ds : List PyData} : Tp H v d → TpAll H vs ds → TpAll H (v :: vs) (d :: ds)
end
mutual
theorem Tp.mono {H H' : Hp} (s : TK H H') : ∀ {v : V} {d : PyData}, Tp H v d → Tp H' v d
  | _, _, .int i => .int i
  | _, _, .str x => .str x
  | _, _, .tup h a => .tup (s _ _ h) (TpAll.mono s a)
theorem TpAll.mono {H H' : Hp} (s : TK H H') : ∀ {v : List V} {d : List PyData}, TpAll H v d → TpAll H' v d
  | _, _, .nil => .nil
  | _, _, .cons a b => .cons (Tp.mono s a) (TpAll.mono s b)
end
mutual
theorem Tp.dp {K : PySem.W.Frag} {H : Hp} : ∀ {v : V} {d : PyData}, Tp H v d → Dp K H v d
  | _, _, .int i => .int i
  | _, _, .str x => .str x
  | _, _, .tup h a => .tup (SqT.of h) (TpAll.dp a)
theorem TpAll.dp {K : PySem.W.Frag} {H : Hp} : ∀ {v : List V} {d : List PyData}, TpAll H v d → DpAll K H v d
  | _, _, .nil => .nil
  | _, _, .cons a b => .cons (Tp.dp a) (TpAll.dp b)
end
theorem TpAll.len {H : Hp} : ∀ {v : List V} {d : List PyData}, TpAll H v d → v.length = d.length
  | _, _, .nil => rfl
  | _, _, .cons a b => congrArg Nat.succ (TpAll.len b)
theorem TpAll.snoc {H : Hp} {u : V} {e : PyData} (h : Tp H u e) : ∀ {v : List V} {d : List PyData}, TpAll H v d → TpAll H (v ++ [u]) (d ++ [e])
  | _, _, .nil => .cons h .nil
  | _, _, .cons a b => .cons a (TpAll.snoc h b)
theorem TpAll.get {H : Hp} : ∀ {v : List V} {d : List PyData}, TpAll H v d → ∀ (i : Nat) (x : V), v[i]? = some x → ∃ e, d[i]? = some e ∧ Tp H x e
  | _, _, .nil, i, x, h => by simp at h
  | _, _, .cons a b, 0, x, h => ⟨_, rfl, by rw [← Option.some.inj h]; exact a⟩
  | _, _, .cons a b, i + 1, x, h => TpAll.get b i x h
/-- the first item of such a tuple -/
theorem Tp.first {H : Hp} {v : V} {c : Int} {ds : List PyData} (h : Tp H v (.tuple (.int c :: ds))) : ∃ a xs, v = .ref a ∧ H a = some (.tup (.int c :: xs)) := by
  cases h with
  | tup ha hx =>
    cases hx with
    | cons h1 h2 =>
      cases h1
      exact ⟨_, _, rfl, ha⟩
theorem first_at {H : Hp} {v : V} {c : Int} {xs : List V} : atI (V.int c :: xs) 0 = some (.int c) := by
  exact atI_nat (j := 0) rfl
theorem pairs_tp {H : Hp} : ∀ (ks : List Str) (ws : List V) (ds : List PyData) (ts : List Addr), ks.length = ws.length → TpAll H ws ds → Paired (fun (T : Addr) (p : V × V) => H T = some (.tup [p.1, p.2])) ts ((ks.map V.str).zip ws) → TpAll H (ts.map V.ref) (pairsP ks ds)
  | [], [], _, _, _, .nil, h => by cases h; exact .nil
  | [], _ :: _, _, _, e, _, _ => by simp at e
  | _ :: _, [], _, _, e, _, _ => by simp at e
  | k :: ks, w :: ws, d :: ds, ts, e, .cons a b, h => by
    cases h with
    | cons h1 h2 => exact .cons (.tup h1 (.cons (.str k) (.cons a .nil))) (pairs_tp ks ws ds _ (by simpa using e) b h2)
def sortsL : List Str := ["null", "no", "yes", "number", "text", "list", "dict"]
def SortsK (K : PySem.W.Frag) (aS : Addr) : Prop := ∃ (o : Obj) (its : Array Value) (n : Nat), K.lookup aS = some o ∧ o.cls = .type "tuple" ∧ o.dict = none ∧ o.data = .seq its n ∧ its.size ≤ sizeLine ∧ Vals (sortsL.map V.str) its.toList
theorem SortsK.seq {K : PySem.W.Frag} {aS : Addr} {H : Hp} (h : SortsK K aS) : SqT K H aS (sortsL.map V.str) := by
  obtain ⟨o, its, n, h1, h2, _, h4, h5, h6⟩ := h
  exact .inr ⟨o, its, n, h1, h2, h4, h5, h6⟩
theorem sort_at (d : D) : ∃ j : Nat, (j : Int) = place d ∧ sortsL[j]? = some (sortS d) ∧ ∀ m, m < j → sortsL[m]? ≠ some (sortS d) := by
  cases d with
  | bl b => cases b <;> exact ⟨_, rfl, rfl, by decide +kernel⟩
  | non => exact ⟨0, rfl, rfl, by decide +kernel⟩
  | int i => exact ⟨3, rfl, rfl, show ∀ m, m < 3 → sortsL[m]? ≠ some ("number" : Str) by decide +kernel⟩
  | str x => exact ⟨4, rfl, rfl, show ∀ m, m < 4 → sortsL[m]? ≠ some ("text" : Str) by decide +kernel⟩
  | lst ds => exact ⟨5, rfl, rfl, show ∀ m, m < 5 → sortsL[m]? ≠ some ("list" : Str) by decide +kernel⟩
  | dct ks ds => exact ⟨6, rfl, rfl, show ∀ m, m < 6 → sortsL[m]? ≠ some ("dict" : Str) by decide +kernel⟩
theorem inn_all (f : Nat → D → PyData) {H : Hp} {n : Nat} {us : List V} {d : D} (h : Inn n H us (inner d)) : (innP f n d).length = us.length := by
  cases n with
  | zero => rw [h.1]; rfl
  | succ n => rw [Inn.len h]; simp [innP]
/-- the sum of the parts' counts -/
theorem cnt_sum {H : Hp} {n : Nat} {us : List V} {d : D} (h : Inn n H us (inner d)) : cnt n d = 1 + ((inner d).map fun z => cnt (n - 1) z).sum := by
  cases n with
  | zero => rw [h.2]; rfl
  | succ n => rfl
end Toy


namespace Toy
open PySem PySem.Spec L2 PyProof.Rows PySem.W
def isI : D → Bool
  | .int _ => true
  | _ => false
def isS : D → Bool
  | .str _ => true
  | _ => false
def isD : D → Bool
  | .dct _ _ => true
  | _ => false
theorem sort_num (d : D) : decide (V.str (sortS d) = V.str ("number" : Str)) = isI d := by
  cases d with
  | bl b => cases b <;> decide +kernel
  | non => decide +kernel
  | int i => exact decide_eq_true rfl
  | str x => exact decide_eq_false (show ¬ V.str ("text" : Str) = V.str ("number" : Str) by decide +kernel)
  | lst x => exact decide_eq_false (show ¬ V.str ("list" : Str) = V.str ("number" : Str) by decide +kernel)
  | dct x y => exact decide_eq_false (show ¬ V.str ("dict" : Str) = V.str ("number" : Str) by decide +kernel)
theorem sort_txt (d : D) : decide (V.str (sortS d) = V.str ("text" : Str)) = isS d := by
  cases d with
  | bl b => cases b <;> decide +kernel
  | non => decide +kernel
  | str i => exact decide_eq_true rfl
  | int x => exact decide_eq_false (show ¬ V.str ("number" : Str) = V.str ("text" : Str) by decide +kernel)
  | lst x => exact decide_eq_false (show ¬ V.str ("list" : Str) = V.str ("text" : Str) by decide +kernel)
  | dct x y => exact decide_eq_false (show ¬ V.str ("dict" : Str) = V.str ("text" : Str) by decide +kernel)
theorem sort_dct (d : D) : decide (V.str (sortS d) = V.str ("dict" : Str)) = isD d := by
  cases d with
  | bl b => cases b <;> decide +kernel
  | non => decide +kernel
  | dct i j => exact decide_eq_true rfl
  | int x => exact decide_eq_false (show ¬ V.str ("number" : Str) = V.str ("dict" : Str) by decide +kernel)
  | lst x => exact decide_eq_false (show ¬ V.str ("list" : Str) = V.str ("dict" : Str) by decide +kernel)
  | str x => exact decide_eq_false (show ¬ V.str ("text" : Str) = V.str ("dict" : Str) by decide +kernel)
theorem three_ways (d : D) : (∃ i, d = .int i) ∨ (∃ x, d = .str x) ∨ (isI d = false ∧ isS d = false) := by
  cases d with
  | int i => exact .inl ⟨i, rfl⟩
  | str x => exact .inr (.inl ⟨x, rfl⟩)
  | _ => exact .inr (.inr ⟨rfl, rfl⟩)
theorem dct_of {d : D} (h : isD d = true) : ∃ ks ds, d = .dct ks ds := by
  cases d with
  | dct ks ds => exact ⟨ks, ds, rfl⟩
  | _ => cases h
theorem key_other {n : Nat} {d : D} (h1 : isI d = false) (h2 : isS d = false) (h3 : isD d = false) : key n d = .tuple [.int (cnt n d), .int (place d), .tuple (innP key n d)] := by
  rw [key_form]
  cases d with
  | int i => cases h1
  | str i => cases h2
  | dct i j => cases h3
  | _ => rfl
theorem text_of {n : Nat} {H : Hp} {v : V} {x : Str} (h : Da n H v (.str x)) : v = .str x ∧ PyData.strOk x = true ∧ x.length ≤ 1000 := by
  cases n <;> simpa only [Da] using h
theorem int_of {n : Nat} {H : Hp} {v : V} {i : Int} (h : Da n H v (.int i)) : v = .int i := by
  cases n <;> simpa only [Da] using h
theorem key_first (n : Nat) (d : D) : ∃ tl, key n d = .tuple (.int (cnt n d) :: tl) := ⟨_, key_form n d⟩
theorem rank_first (n : Nat) (d : D) : ∃ tl, rank n d = .tuple (.int (cnt n d) :: tl) := ⟨_, rank_form n d⟩
/-- the rows of the parts, and their counts -/
theorem first_row {f : Nat → D → PyData} (hf : ∀ n d, ∃ tl, f n d = .tuple (.int (cnt n d) :: tl)) {H : Hp} {n : Nat} {d : D} {ws : List V} (h : TpAll H ws (innP f n d)) : ∀ (i : Nat) (x : V), ws[i]? = some x → ∃ d', (inner d)[i]? = some d' ∧ ∃ a xs, x = .ref a ∧ H a = some (.tup (.int (cnt (n - 1) d') :: xs)) := by
  intro i x hx
  obtain ⟨e, he, te⟩ := h.get i x hx
  cases n with
  | zero => simp [innP] at he
  | succ n =>
    simp only [innP, List.getElem?_map] at he
    cases hd : (inner d)[i]? with
    | none => rw [hd] at he; cases he
    | some d' =>
      rw [hd] at he
      obtain ⟨tl, etl⟩ := hf n d'
      have ee : f n d' = e := Option.some.inj he
      rw [← ee, etl] at te
      exact ⟨d', rfl, te.first⟩
section
variable {P : Program} {w : World} {K : PySem.W.Frag} {mg : Str → Option Value} {base : Heap}
end
end Toy


namespace Toy
open PySem PySem.Spec L2 PyProof.Rows PySem.W
abbrev sRank : Stmt := top 24
def spRank (j : Nat) : Sp := fun vs H Q _ => ∃ (v : V) (n : Nat) (d : D), n < j ∧ vs = [v] ∧ Da n H v d ∧ ∀ H' u, Same H H' → Tp H' u (rank n d) → Q u H'
/-- what the call at one part wants -/
def RnkQ (j m i : Nat) (D : Addr) (H1 : Hp) (d : Toy.D) : List V → Hp → Prop := fun vs H4 => ∃ (v' : V) (n' : Nat) (a : Toy.D), n' < j ∧ vs = [v'] ∧ Da n' H4 v' a ∧ ∀ H'' u, Same H4 H'' → Tp H'' u (rank n' a) → ∃ acc, H'' D = some (.lst acc) ∧ acc.length < sizeLine ∧
  (Same H1 (upd H'' D (.lst (acc ++ [u]))) ∧ ∃ ws : List V, (upd H'' D (.lst (acc ++ [u]))) D = some (.lst ws) ∧ ws.length = i + 1 ∧ TpAll (upd H'' D (.lst (acc ++ [u]))) ws ((innP rank (m + 1) d).take (i + 1)))
theorem rank_at (d : D) : ∃ j : Nat, (j : Int) = place d ∧ (sortsL.map V.str)[j]? = some (.str (sortS d)) ∧ eqV (.str (sortS d)) (.str (sortS d)) = true ∧ ∀ (m : Nat) (z' : V), m < j → (sortsL.map V.str)[m]? = some z' → eqV z' (.str (sortS d)) = false := by
  obtain ⟨j, h1, h2, h3⟩ := sort_at d
  refine ⟨j, h1, by rw [List.getElem?_map, h2]; rfl, by simp [eqV], fun m z' hm hz => ?_⟩
  rw [List.getElem?_map] at hz
  cases e : sortsL[m]? with
  | none => rw [e] at hz; cases hz
  | some w =>
    rw [e] at hz
    have ez : V.str w = z' := Option.some.inj hz
    have nw : w ≠ sortS d := fun q => h3 m hm (by rw [e, q])
    rw [← ez]
    simp [eqV, nw]
theorem six_ways (d : D) : d = .non ∨ (∃ b, d = .bl b) ∨ (∃ i, d = .int i) ∨ (∃ x, d = .str x) ∨ ((∃ ds, d = .lst ds) ∨ ∃ ks ds, d = .dct ks ds) := by
  cases d with
  | non => exact .inl rfl
  | bl b => exact .inr (.inl ⟨b, rfl⟩)
  | int i => exact .inr (.inr (.inl ⟨i, rfl⟩))
  | str x => exact .inr (.inr (.inr (.inl ⟨x, rfl⟩)))
  | lst ds => exact .inr (.inr (.inr (.inr (.inl ⟨ds, rfl⟩))))
  | dct ks ds => exact .inr (.inr (.inr (.inr (.inr ⟨ks, ds, rfl⟩))))
theorem big_kit {K : PySem.W.Frag} {d : D} (h : (∃ ds, d = .lst ds) ∨ ∃ ks ds, d = .dct ks ds) : PySem.W.kitOne K (.type (tyS d)) (.type "bool") = some false ∧ PySem.W.kitOne K (.type (tyS d)) (.type "int") = some false ∧ PySem.W.kitOne K (.type (tyS d)) (.type "str") = some false := by
  rcases h with ⟨ds, rfl⟩ | ⟨ks, ds, rfl⟩
  · exact ⟨kit_ty (show kitB "list" "bool" = some false by decide +kernel), kit_ty (show kitB "list" "int" = some false by decide +kernel), kit_ty (show kitB "list" "str" = some false by decide +kernel)⟩
  · exact ⟨kit_ty (show kitB "dict" "bool" = some false by decide +kernel), kit_ty (show kitB "dict" "int" = some false by decide +kernel), kit_ty (show kitB "dict" "str" = some false by decide +kernel)⟩
theorem big_non {d : D} (h : (∃ ds, d = .lst ds) ∨ ∃ ks ds, d = .dct ks ds) {n : Nat} {H : Hp} {v : V} (hd : Da n H v d) : decide (v = .non) = false := by
  rw [non_iff hd]
  rcases h with ⟨ds, rfl⟩ | ⟨ks, ds, rfl⟩ <;> rfl
theorem big_succ {d : D} (h : (∃ ds, d = .lst ds) ∨ ∃ ks ds, d = .dct ks ds) {n : Nat} {H : Hp} {v : V} (hd : Da n H v d) : ∃ m, n = m + 1 := by
  cases n with
  | zero => rcases h with ⟨ds, rfl⟩ | ⟨ks, ds, rfl⟩ <;> simp only [Da] at hd
  | succ m => exact ⟨m, rfl⟩
section
variable {P : Program} {w : World} {K : PySem.W.Frag} {mg : Str → Option Value} {base : Heap}
abbrev NR : List Str := ["_law_datum_here", "_law_sort_here", "_law_rows", "_law_size", "_law_step", "_law_row"]
theorem scRk : FnScope NR ["_law_datum_here"] (defScope sRank) := ⟨rfl, rfl, rfl, by decide +kernel, rfl, by decide +kernel, by decide +kernel⟩
theorem ok_rank {f fS fK : Addr} {fd fdS fdK : FuncData} (F : Fun K "_law_rank" "_law_rank" sRank f fd)
    (GS : FnOk P w K mg base CX0 1 fS fdS ["_law_datum_here"] spLSort) (mS : mg "_law_sort" = some (.ref fS)) (kS : PySem.W.keepIn K (.ref fS) = true) (bS : Binds K fdS ["_law_datum_here"] [])
    (GK : FnOk P w K mg base CX0 1 fK fdK ["_law_datum_here"] spSteps) (mK : mg "_law_keys" = some (.ref fK)) (kK : PySem.W.keepIn K (.ref fK) = true) (bK : Binds K fdK ["_law_datum_here"] [])
    (mF : mg "_law_rank" = some (.ref f)) (kF : PySem.W.keepIn K (.ref f) = true) (bF : Binds K fd ["_law_datum_here"] [])
    (mI : mg "isinstance" = none) (mB : mg "bool" = none) (mN : mg "int" = none) (mT : mg "str" = none) (mL : mg "list" = none) (mAb : mg "abs" = none)
    (mSum : mg "sum" = none) (mLen : mg "len" = none) (mTup : mg "tuple" = none) (mZip : mg "zip" = none) : ∀ j : Nat, FnOk P w K mg base CX0 (j + 2) f fd ["_law_datum_here"] (spRank j) := by
  intro j
  induction j with
  | zero => exact F.ok (k := 1) scRk (fun vs H Q E h => by obtain ⟨v, n, d, h0, _⟩ := h; exact absurd h0 (Nat.not_lt_zero _)) (fun cdv A outer s H vs Q E hr h => by obtain ⟨v, n, d, h0, _⟩ := h; exact absurd h0 (Nat.not_lt_zero _))
  | succ j ih =>
    refine F.ok (k := j + 2) scRk (fun vs H Q E h => ?_) (fun cdv A outer s H vs Q E hr h => ?_)
    · obtain ⟨v, n, d, _, rfl, _⟩ := h
      rfl
    · obtain ⟨v, n, d, hnj, rfl, hd, q⟩ := h
      have hr1 : Room 1 _ := hr.mono (show 1 ≤ j + 2 by omega)
      have hu := hu_of hr
      refine ⟨_, pss_cons (ps_set (i := 1) scRk.nd rfl (Or.inl rfl) (pe_bm PySem.F.plainAttrs_list PySem.F.slot_list_index PySem.F.type_list_index mt_index (pe_lst (pa_cons pe_str (pa_cons pe_str (pa_cons pe_str (pa_cons pe_str (pa_cons pe_str (pa_cons pe_str (pa_cons pe_str pa_nil)))))))) (pa_cons (pe_call GS hr1 (by rfl) mS kS bS .nil pass0 (pa_cons (pv 0) pa_nil)) pa_nil)))
        (pss_cons (ps_if (PW.pt (pw_or (pt_val (pe_callB call_isi (by rfl) mI PyProof.Rows.boot_isinstance (pa_cons (pv 0) (pa_cons (pe_bltn (v := .ty "bool") (by rfl) mB (by decide +kernel) rfl) pa_nil)))) (pw_or1 (pt_cmpR op_isN (pv 0) pe_non (nomark _))))) (pss_one (ps_ret (pe_tup (pa_cons pe_int (pa_cons (pv 1) pa_nil))))) pss_nil)
        (pss_cons (ps_if (pt_val (pe_callB call_isi (by rfl) mI PyProof.Rows.boot_isinstance (pa_cons (pv 0) (pa_cons (pe_bltn (v := .ty "int") (by rfl) mN (by decide +kernel) rfl) pa_nil)))) (pss_one (ps_ret (pe_tup (pa_cons pe_int (pa_cons (pv 1) (pa_cons (pe_callB call_abs (by rfl) mAb (by decide +kernel) (pa_cons (pv 0) pa_nil)) (pa_cons (pe_callTy call_int1 (by rfl) mN (by decide +kernel) (pa_cons (pe_cmpR op_lt (pv 0) pe_int (nomark _)) pa_nil)) pa_nil))))))) pss_nil)
        (pss_cons (ps_if (pt_val (pe_callB call_isi (by rfl) mI PyProof.Rows.boot_isinstance (pa_cons (pv 0) (pa_cons (pe_bltn (v := .ty "str") (by rfl) mT (by decide +kernel) rfl) pa_nil)))) (pss_one (ps_ret (pe_tup (pa_cons pe_int (pa_cons (pv 1) (pa_cons (pe_callB call_len_str (by rfl) mLen PySem.boot_len (pa_cons (pv 0) pa_nil)) (pa_cons (pv 0) pa_nil))))))) pss_nil)
        (pss_cons (ps_setLc (i := 2) (own := [("_law_step", 4)]) (g := gName 4) (te := tCall (spRank j) [] E0 (tCons (tEither (tOp (rIxL K) (tVar 0) (tVar 4)) (tDGet (tVar 0) (tVar 4))) tNil)) (by rfl) scRk.nd rfl rfl (sw_true rfl rfl rfl (by decide +kernel)) (pi_list (pe_call GK hr1 (by rfl) mK kK bK .nil pass0 (pa_cons (pv 0) pa_nil)))
            (blkOk_by (own := [("_law_step", 4)]) (N := NR) (sc := defScope sRank) (by decide +kernel)) (fun _ _ _ _ _ => pg_name (i := 4) scRk.nd rfl (Or.inl rfl)) (fun _ _ _ _ _ => pts_nil)
            (fun _ _ _ _ _ => pe_call ih hr (by rfl) mF kF bF .nil pass0 (pa_cons (pe_either (pe_ix ix_list (pv 0) (pv 4) (fun _ _ => rfl)) (pe_dget hu (pv 0) (pv 4) (fun _ _ => rfl))) pa_nil)))
        (pss_cons (ps_set (i := 3) scRk.nd rfl (Or.inl rfl) (pe_op op_add pe_int (pe_callB (cr_sum rfl) (by rfl) mSum (by decide +kernel) (pa_cons (pe_lc (own := [("_law_row", 5)]) (g := gName 5) (te := tOp (rIxT K) (tVar 5) (tC (.int 0))) (by rfl) scRk.nd (pi_list (pv 2))
            (blkOk_by (own := [("_law_row", 5)]) (N := NR) (sc := defScope sRank) (by decide +kernel)) (fun _ _ _ _ _ => pg_name (i := 5) scRk.nd rfl (Or.inl rfl)) (fun _ _ _ _ _ => pts_nil)
            (fun _ _ _ _ _ => pe_ix ix_tup (pv 5) pe_int (fun _ _ => rfl))) pa_nil))))
        (pss_cons (ps_if (pt_val (pe_callB call_isi (by rfl) mI PyProof.Rows.boot_isinstance (pa_cons (pv 0) (pa_cons (pe_bltn (v := .ty "list") (by rfl) mL (by decide +kernel) rfl) pa_nil)))) (pss_one (ps_ret (pe_tup (pa_cons (pv 3) (pa_cons (pv 1) (pa_cons (pe_callTy call_tuple_of (by rfl) mTup (by decide +kernel) (pa_cons (pv 2) pa_nil)) pa_nil)))))) pss_nil)
        (pss_one (ps_ret (pe_tup (pa_cons (pv 3) (pa_cons (pv 1) (pa_cons (pe_callTy call_tuple_of (by rfl) mTup (by decide +kernel) (pa_cons (pe_lstZip (by rfl) (by rfl) mL (by rfl) mZip (pa_cons (pe_call GK hr1 (by rfl) mK kK bK .nil pass0 (pa_cons (pv 0) pa_nil)) (pa_cons (pv 2) pa_nil))) pa_nil)) pa_nil)))))))))))), ?_⟩
      obtain ⟨p, ep, hp, he, hno⟩ := rank_at d
      refine ⟨few (by show 7 ≤ 1000; decide), fun L nL => ⟨.inl ⟨rfl, _, SqL.of upd_same⟩, ?_⟩⟩
      have sL : Same H (upd H L (.lst (sortsL.map V.str))) := same_new (fun _ _ z => z) nL
      refine ⟨_, rfl, v, n, d, rfl, hd.mono sL (Nat.le_refl _), fun H0 s0 => ⟨L, sortsL.map V.str, .str (sortS d), p, .str (sortS d), rfl, rfl, SqL.of (s0 _ _ upd_same), rfl, by decide +kernel, hp, he, hno, ?_⟩⟩
      rw [ep]
      have sH := sL.trans s0
      have hd0 := hd.mono sH (Nat.le_refl _)
      have ty : TyX K H0 v (.type (tyS d)) := ty_of hd0
      have nn := non_iff hd0
      rcases six_ways d with rfl | ⟨b, rfl⟩ | ⟨i, rfl⟩ | ⟨x, rfl⟩ | big
      · refine ⟨_, rfl, _, _, _, _, false, rfl, .ty _, ty, kit_ty (show kitB "NoneType" "bool" = some false by decide +kernel), _, rfl, iteF ⟨_, rfl, rfl, _, rfl, ?_⟩⟩
        rw [nn]
        refine iteT ⟨_, rfl, few (by show 2 ≤ 1000; decide), fun e ne => q _ _ (same_new sH ne) ?_⟩
        rw [show rank n .non = .tuple [.int 1, .int 0] by cases n <;> rfl]
        exact .tup upd_same (.cons (.int _) (.cons (.int _) .nil))
      · refine ⟨_, rfl, _, _, _, _, true, rfl, .ty _, ty, kit_ty (show kitB "bool" "bool" = some true by decide +kernel), _, rfl, iteT ⟨_, rfl, few (by show 2 ≤ 1000; decide), fun e ne => q _ _ (same_new sH ne) ?_⟩⟩
        rw [show rank n (.bl b) = .tuple [.int 1, .int (place (.bl b))] by cases n <;> cases b <;> rfl]
        exact .tup upd_same (.cons (.int _) (.cons (.int _) .nil))
      · obtain rfl := int_of hd0
        refine ⟨_, rfl, _, _, _, _, false, rfl, .ty _, ty, kit_ty (show kitB "int" "bool" = some false by decide +kernel), _, rfl, iteF ⟨_, rfl, rfl, _, rfl, ?_⟩⟩
        rw [nn]
        refine iteF ⟨_, rfl, _, _, _, _, true, rfl, .ty _, ty, kit_ty (show kitB "int" "int" = some true by decide +kernel), _, rfl, iteT ⟨_, rfl, _, rfl, _, rfl, _, rfl, _, _, rfl, rfl, .inr ⟨_, rfl, few (by show 4 ≤ 1000; decide), fun e ne => q _ _ (same_new sH ne) ?_⟩⟩⟩
        rw [show rank n (.int i) = .tuple [.int 1, .int 3, .int (if i < 0 then -i else i), .int (if decide (i < 0) = true then 1 else 0)] by cases n <;> simp [rank, rankT]]
        exact .tup upd_same (.cons (.int _) (.cons (.int _) (.cons (.int _) (.cons (.int _) .nil))))
      · obtain ⟨rfl, okx, lx⟩ := text_of hd0
        refine ⟨_, rfl, _, _, _, _, false, rfl, .ty _, ty, kit_ty (show kitB "str" "bool" = some false by decide +kernel), _, rfl, iteF ⟨_, rfl, rfl, _, rfl, ?_⟩⟩
        rw [nn]
        refine iteF ⟨_, rfl, _, _, _, _, false, rfl, .ty _, ty, kit_ty (show kitB "str" "int" = some false by decide +kernel), _, rfl, iteF ⟨_, rfl, _, _, _, _, true, rfl, .ty _, ty, kit_ty (show kitB "str" "str" = some true by decide +kernel), _, rfl, iteT ⟨_, rfl, _, rfl, _, rfl, few lx, _, rfl, few (by show 4 ≤ 1000; decide), fun e ne => q _ _ (same_new sH ne) ?_⟩⟩⟩
        rw [show rank n (.str x) = .tuple [.int 1, .int 4, .int x.length, .str x] by cases n <;> rfl]
        exact .tup upd_same (.cons (.int _) (.cons (.int _) (.cons (.int _) (.cons (.str _) .nil))))
      obtain ⟨kb, ki, ks'⟩ := big_kit (K := K) big
      obtain ⟨m, rfl⟩ := big_succ big hd0
      refine ⟨_, rfl, _, _, _, _, false, rfl, .ty _, ty, kb, _, rfl, iteF ⟨_, rfl, rfl, _, rfl, ?_⟩⟩
      rw [big_non big hd0]
      refine iteF ⟨_, rfl, _, _, _, _, false, rfl, .ty _, ty, ki, _, rfl, iteF ⟨_, rfl, _, _, _, _, false, rfl, .ty _, ty, ks', _, rfl, iteF ?_⟩⟩
      obtain ⟨us, inn, lus, l20, sub⟩ := sub_read (K := K) hd0
      refine ⟨_, rfl, v, m + 1, d, rfl, hd0, fun H1 R s1 nR hR => ⟨R, rfl, ⟨_, SqL.of hR⟩, fun D nD => ?_⟩⟩
      have lin := inn_all rank inn
      have lin2 := inn.len
      refine lc_list (K := K) (a := R) (xs := stepsV d) (fun i H' => Same H1 H' ∧ ∃ ws : List V, H' D = some (.lst ws) ∧ ws.length = i ∧ TpAll H' ws ((innP rank (m + 1) d).take i)) ⟨same_new (fun _ _ z => z) nD, [], upd_same, rfl, by rw [List.take_zero]; exact .nil⟩ ?_ ?_ ?_
      · rintro i H' _ ⟨s2, _⟩
        exact SqL.of (s2 _ _ hR)
      · rintro i x H' hx ⟨s2, ws, hD, lws, pr⟩
        have hi := (List.getElem?_eq_some_iff.mp hx).1
        have i1 : i < us.length := by omega
        obtain ⟨d', g1, r1⟩ := paired_get (show Paired (fun x z => Da m H0 x z) us (inner d) from inn) i us[i] (List.getElem?_eq_getElem i1)
        refine ⟨rfl, ?_⟩
        have s02 : Same H0 H' := s1.trans s2
        have fin : RnkQ j m i D H1 d [us[i]] H' := by
          refine ⟨_, m, d', by omega, rfl, r1.mono s02 (Nat.le_refl _), fun H'' u s5 tu => ⟨ws, s5 _ _ hD, small1000 (by omega), fun b o z => ?_, ws ++ [u], upd_same, by rw [List.length_append, lws]; rfl, ?_⟩⟩
          · rw [upd_ne (ne_of_none z nD)]
            exact s5 _ _ (s2 _ _ z)
          · have et : (innP rank (m + 1) d).take (i + 1) = (innP rank (m + 1) d).take i ++ [rank m d'] := by
              rw [List.take_add_one]
              show _ ++ ((inner d).map (rank m))[i]?.toList = _
              rw [List.getElem?_map, g1]
              rfl
            rw [et]
            have tk := TK.updL (u := .lst (ws ++ [u])) (s5 _ _ hD)
            exact TpAll.snoc (tu.mono tk) (pr.mono ((tkS s5).trans tk))
        rcases sub i x us[i] hx (List.getElem?_eq_getElem i1) H' (fun x1 H4 => RnkQ j m i D H1 d [x1] H4) s02 fin with z | z
        · exact .inl ⟨_, rfl, _, rfl, z⟩
        · exact .inr ⟨_, rfl, _, rfl, z⟩
      rintro H2 ⟨s2, ws, hD, lws, pr⟩
      rw [← lus, ← lin, List.take_length] at pr
      have s02 := sH.trans (s1.trans s2)
      refine ⟨_, rfl, D, rfl, ⟨_, SqL.of hD⟩, fun D2 nD2 => ?_⟩
      refine lc_list (K := K) (a := D) (xs := ws) (fun i H' => Same H2 H' ∧ H' D2 = some (.lst ((((inner d).take i).map fun z => cnt (m + 1 - 1) z).map V.int))) ⟨same_new (fun _ _ z => z) nD2, by rw [upd_same]; rfl⟩ ?_ ?_ ?_
      · rintro i H' _ ⟨s3, _⟩
        exact SqL.of (s3 _ _ hD)
      · rintro i x H' hx ⟨s3, hD2⟩
        obtain ⟨d', hd', a, xs, rfl, ha⟩ := first_row rank_first pr i x hx
        have hi := (List.getElem?_eq_some_iff.mp hd').1
        refine ⟨rfl, _, rfl, a, _, _, .int (cnt (m + 1 - 1) d'), rfl, rfl, SqT.of (s3 _ _ ha), first_at (H := H') (v := .non), _, hD2, small1000 (by rw [List.length_map, List.length_map, List.length_take]; omega), fun b o e => ?_, ?_⟩
        · rw [upd_ne (ne_of_none e nD2)]
          exact s3 _ _ e
        · rw [upd_same, List.take_add_one, hd']
          simp
      rintro H3 ⟨s3, hD2⟩
      have s03 := s02.trans s3
      have pr3 := pr.mono (tkS s3)
      have hD3 := s3 _ _ hD
      have hd3 : Da (m + 1) H3 v d := hd0.mono (s1.trans (s2.trans s3)) (Nat.le_refl _)
      have ty3 : TyX K H3 v (.type (tyS d)) := ty_of hd3
      rw [show ws.length = (inner d).length by omega, List.take_length] at hD2
      refine ⟨D2, _, rfl, SqL.of hD2, _, _, rfl, rfl, ?_⟩
      rw [show (fun (i j : Int) => V.int (i + j)) 1 ((inner d).map fun z => cnt (m + 1 - 1) z).sum = V.int (cnt (m + 1) d) from rfl]
      rcases big with ⟨ds, rfl⟩ | ⟨ks, ds, rfl⟩
      · refine ⟨_, rfl, _, _, _, _, true, rfl, .ty _, ty3, kit_ty (show kitB "list" "list" = some true by decide +kernel), _, rfl, iteT ⟨_, rfl, _, rfl, _, rfl, D, _, rfl, .inl ⟨SqL.of hD3, fun e ne => ⟨few (by show 3 ≤ 1000; decide), fun e2 ne2 => ?_⟩⟩⟩⟩
        refine q _ _ (same_new (same_new s03 ne) ne2) ?_
        rw [rank_form]
        exact .tup upd_same (.cons (.int _) (.cons (.int _) (.cons (.tup ((upd_ne (ne_of_none upd_same ne2)).trans upd_same) (pr3.mono (tkS (same_new (same_new (fun _ _ z => z) ne) ne2)))) .nil)))
      · refine ⟨_, rfl, _, _, _, _, false, rfl, .ty _, ty3, kit_ty (show kitB "dict" "list" = some false by decide +kernel), _, rfl, iteF ⟨_, rfl, _, rfl, _, rfl, v, m + 1, _, rfl, hd3, fun H4 S s4 nS hS => ?_⟩⟩
        have lwk : (skeys ks).length = ws.length := by
          have z : (inner (.dct ks ds)).length = (skeys ks).length := by simp [inner]
          omega
        refine ⟨_, rfl, S, D, _, ws, rfl, SqL.of hS, SqL.of (s4 _ _ hD3), by show ((skeys ks).map V.str).length = _; rw [List.length_map]; exact lwk, by show ((skeys ks).map V.str).length ≤ _; rw [List.length_map]; omega, fun H5 ts t zn t0 ht => ⟨t, _, rfl, .inl ⟨SqL.of ht, fun e ne => ⟨few (by show 3 ≤ 1000; decide), fun e2 ne2 => ?_⟩⟩⟩⟩
        have s45 := s4.trans zn.1
        refine q _ _ (same_new (same_new (s03.trans s45) ne) ne2) ?_
        rw [rank_form]
        have tk : TK H5 (upd (upd H5 e (.tup (ts.map V.ref))) e2 (.tup [.int (cnt (m + 1) (.dct ks ds)), .int (place (.dct ks ds)), .ref e])) := tkS (same_new (same_new (fun _ _ z => z) ne) ne2)
        exact .tup upd_same (.cons (.int _) (.cons (.int _) (.cons (.tup ((upd_ne (ne_of_none upd_same ne2)).trans upd_same) ((pairs_tp _ ws _ ts lwk (pr3.mono (tkS s45)) (L2.Paired.mapP zn.2 fun _ _ z => z.2)).mono tk)) .nil)))
end
end Toy


namespace Toy
open PySem PySem.Spec L2 PyProof.Rows PySem.W
/-! ### keys and ranks can be compared -/
def Fine (k : Nat) (e : PyData) : Prop := e.canLay0 = true ∧ e.depth ≤ k
theorem Fine.up {k l : Nat} {e : PyData} (h : Fine k e) (hl : k ≤ l) : Fine l e := ⟨h.1, Nat.le_trans h.2 hl⟩
theorem fine_int (k : Nat) (i : Int) : Fine k (.int i) := ⟨by simp only [PyData.canLay0], by simp only [PyData.depth]; omega⟩
theorem fine_str (k : Nat) {x : Str} (h : PyData.strOk x = true) : Fine k (.str x) := ⟨by simp only [PyData.canLay0]; exact h, by simp only [PyData.depth]; omega⟩
theorem fine_all {k : Nat} : ∀ {l : List PyData}, (∀ e ∈ l, Fine k e) → PyData.canLayAll0 l = true ∧ PyData.depthAll l ≤ k
  | [], _ => ⟨by simp [PyData.canLayAll0], by simp [PyData.depthAll]⟩
  | e :: l, h => by
    obtain ⟨h1, h2⟩ := h e List.mem_cons_self
    obtain ⟨r1, r2⟩ := fine_all fun x hx => h x (List.mem_cons_of_mem _ hx)
    refine ⟨by simp only [PyData.canLayAll0]; rw [h1, r1]; rfl, ?_⟩
    simp only [PyData.depthAll]
    omega
theorem fine_tup {k : Nat} {l : List PyData} (h : ∀ e ∈ l, Fine k e) : Fine (k + 1) (.tuple l) := by
  obtain ⟨h1, h2⟩ := fine_all h
  refine ⟨by simp only [PyData.canLay0]; exact h1, ?_⟩
  simp only [PyData.depth]
  omega
theorem fine_pairs {k : Nat} : ∀ {ks : List Str} {l : List PyData}, (∀ x ∈ ks, PyData.strOk x = true) → (∀ e ∈ l, Fine k e) → ∀ e ∈ pairsP ks l, Fine (k + 1) e
  | [], _, _, _, e, h => by simp [pairsP] at h
  | _ :: _, [], _, _, e, h => by simp [pairsP] at h
  | x :: ks, d :: l, h1, h2, e, h => by
    have h' : e = .tuple [.str x, d] ∨ e ∈ pairsP ks l := by simpa [pairsP] using h
    rcases h' with rfl | h'
    · refine fine_tup fun z hz => ?_
      simp only [List.mem_cons, List.not_mem_nil, or_false] at hz
      rcases hz with rfl | rfl
      · exact fine_str _ (h1 x List.mem_cons_self)
      · exact h2 _ List.mem_cons_self
    · exact fine_pairs (fun y hy => h1 y (List.mem_cons_of_mem _ hy)) (fun y hy => h2 y (List.mem_cons_of_mem _ hy)) e h'
theorem inn_fine {f : Nat → D → PyData} {k n : Nat} (ih : ∀ (H : Hp) (v : V) (d : D), Da n H v d → Fine k (f n d)) {H : Hp} {us : List V} {d : D} (inn : Inn (n + 1) H us (inner d)) : ∀ e ∈ innP f (n + 1) d, Fine k e := by
  intro e he
  have he' : e ∈ (inner d).map (f n) := he
  obtain ⟨d', hd', rfl⟩ := List.mem_map.mp he'
  obtain ⟨u, hu⟩ := Paired.right (show Paired (fun x z => Da n H x z) us (inner d) from inn) d' hd'
  exact ih H u d' hu
theorem dct_texts {n : Nat} {H : Hp} {v : V} {ks : List Str} {ds : List D} (h : Da n H v (.dct ks ds)) : ∀ x ∈ skeys ks, PyData.strOk x = true := by
  cases n with
  | zero => simp only [Da] at h
  | succ n =>
    simp only [Da] at h
    obtain ⟨a, us, _, _, _, _, _, h6, _⟩ := h
    exact fun x hx => h6 x ((skeys_perm ks).mem_iff.mp hx)
theorem fine3 {k : Nat} {a b : Int} {l : List PyData} (h : ∀ e ∈ l, Fine k e) : Fine (k + 1) (.tuple (.int a :: .int b :: l)) := fine_tup fun e he => by
  simp only [List.mem_cons] at he
  rcases he with rfl | rfl | he
  · exact fine_int _ _
  · exact fine_int _ _
  · exact h e he
theorem mem1 {e f : PyData} {k : Nat} (h : Fine k f) (he : e ∈ [f]) : Fine k e := by rw [List.mem_singleton.mp he]; exact h
theorem key_fine (K : PySem.W.Frag) : ∀ (n : Nat) (H : Hp) (v : V) (d : D), Da n H v d → Fine (3 * n + 2) (key n d)
  | 0, H, v, d, h => by
    rw [key_form]
    refine fine3 (k := 1) fun e he => ?_
    cases d with
    | int i => exact mem1 (fine_int _ _) he
    | str x =>
      simp only [keyTail, List.mem_cons, List.not_mem_nil, or_false] at he
      rcases he with rfl | rfl
      · exact fine_int _ _
      · exact fine_str _ (text_of h).2.1
    | lst ds => simp only [Da] at h
    | dct ks ds => simp only [Da] at h
    | non => exact mem1 (fine_tup (k := 0) (fun z hz => by simp [innP] at hz)) he
    | bl b => exact mem1 (fine_tup (k := 0) (fun z hz => by simp [innP] at hz)) he
  | n + 1, H, v, d, h => by
    obtain ⟨us, inn, _, _, _⟩ := sub_read (K := K) h
    have fi := inn_fine (f := key) (key_fine K n) inn
    rw [key_form]
    refine (fine3 (k := 3 * n + 4) fun e he => ?_).up (by omega)
    cases d with
    | int i => exact mem1 (fine_int _ _) he
    | str x =>
      simp only [keyTail, List.mem_cons, List.not_mem_nil, or_false] at he
      rcases he with rfl | rfl
      · exact fine_int _ _
      · exact fine_str _ (text_of h).2.1
    | dct ks ds => exact mem1 (fine_tup (k := 3 * n + 3) (fine_pairs (dct_texts h) fi)) he
    | lst ds => exact mem1 ((fine_tup (k := 3 * n + 2) fi).up (by omega)) he
    | non => exact mem1 ((fine_tup (k := 3 * n + 2) fi).up (by omega)) he
    | bl b => exact mem1 ((fine_tup (k := 3 * n + 2) fi).up (by omega)) he
theorem rank_fine (K : PySem.W.Frag) : ∀ (n : Nat) (H : Hp) (v : V) (d : D), Da n H v d → Fine (3 * n + 2) (rank n d)
  | 0, H, v, d, h => by
    rw [rank_form]
    refine fine3 (k := 1) fun e he => ?_
    cases d with
    | int i =>
      simp only [rankTail, List.mem_cons, List.not_mem_nil, or_false] at he
      rcases he with rfl | rfl
      · exact fine_int _ _
      · exact fine_int _ _
    | str x =>
      simp only [rankTail, List.mem_cons, List.not_mem_nil, or_false] at he
      rcases he with rfl | rfl
      · exact fine_int _ _
      · exact fine_str _ (text_of h).2.1
    | lst ds => simp only [Da] at h
    | dct ks ds => simp only [Da] at h
    | non => simp [rankTail] at he
    | bl b => simp [rankTail] at he
  | n + 1, H, v, d, h => by
    obtain ⟨us, inn, _, _, _⟩ := sub_read (K := K) h
    have fi := inn_fine (f := rank) (rank_fine K n) inn
    rw [rank_form]
    refine (fine3 (k := 3 * n + 4) fun e he => ?_).up (by omega)
    cases d with
    | int i =>
      simp only [rankTail, List.mem_cons, List.not_mem_nil, or_false] at he
      rcases he with rfl | rfl
      · exact fine_int _ _
      · exact fine_int _ _
    | str x =>
      simp only [rankTail, List.mem_cons, List.not_mem_nil, or_false] at he
      rcases he with rfl | rfl
      · exact fine_int _ _
      · exact fine_str _ (text_of h).2.1
    | dct ks ds => exact mem1 (fine_tup (k := 3 * n + 3) (fine_pairs (dct_texts h) fi)) he
    | lst ds => exact mem1 ((fine_tup (k := 3 * n + 2) fi).up (by omega)) he
    | non => simp [rankTail] at he
    | bl b => simp [rankTail] at he
theorem fine_shaped {k : Nat} {e : PyData} (h : Fine k e) (hk : k ≤ 64) : SeqAt.shaped e = true := by
  unfold SeqAt.shaped
  rw [h.1, Bool.true_and]
  exact decide_eq_true (Nat.le_trans h.2 hk)
theorem key_shaped (K : PySem.W.Frag) {n : Nat} {H : Hp} {v : V} {d : D} (h : Da n H v d) (hn : n ≤ 20) : SeqAt.shaped (key n d) = true := fine_shaped (key_fine K n H v d h) (by omega)
theorem rank_shaped (K : PySem.W.Frag) {n : Nat} {H : Hp} {v : V} {d : D} (h : Da n H v d) (hn : n ≤ 20) : SeqAt.shaped (rank n d) = true := fine_shaped (rank_fine K n H v d h) (by omega)
section
variable {P : Program} {w : World} {K : PySem.W.Frag} {mg : Str → Option Value} {base : Heap}
end
end Toy


namespace Toy
open PySem PySem.Spec L2 PyProof.Rows PySem.W
/-! ### places in data, as rows of numbers -/
def sub : List Nat → D → Option D
  | [], d => some d
  | i :: is, d => match (inner d)[i]? with
    | some c => sub is c
    | none => none
def pth : List Nat → D → List V
  | [], _ => []
  | i :: is, d => match (stepsV d)[i]?, (inner d)[i]? with
    | some x, some c => x :: pth is c
    | _, _ => []
def setI (i : Nat) (c : D) : D → D
  | .lst ds => .lst (ds.set i c)
  | .dct ks ds => .dct (skeys ks) ((inner (.dct ks ds)).set i c)
  | d => d
def putI : List Nat → D → D → D
  | [], e, _ => e
  | i :: is, e, d => match (inner d)[i]? with
    | some c => setI i (putI is e c) d
    | none => d
def delI (i : Nat) : D → D
  | .lst ds => .lst (ds.eraseIdx i)
  | .dct ks ds => .dct ((skeys ks).eraseIdx i) ((inner (.dct ks ds)).eraseIdx i)
  | d => d
def lessI : List Nat → D → D
  | [], d => d
  | [i], d => delI i d
  | i :: j :: is, d => match (inner d)[i]? with
    | some c => setI i (lessI (j :: is) c) d
    | none => d
/-- keys ascending throughout -/
def canon : Nat → D → D
  | n + 1, .lst ds => .lst (ds.map (canon n))
  | n + 1, .dct ks ds => .dct (skeys ks) ((inner (.dct ks ds)).map (canon n))
  | _, d => d
/-- no key twice; at most n levels -/
def Wd : Nat → D → Prop
  | 0, .lst _ => False
  | 0, .dct _ _ => False
  | n + 1, .lst ds => ∀ x ∈ ds, Wd n x
  | n + 1, .dct ks ds => ks.Nodup ∧ ks.length = ds.length ∧ ∀ x ∈ ds, Wd n x
  | _, .non => True
  | _, .bl _ => True
  | _, .int _ => True
  | _, .str _ => True
theorem Wd.lst {n : Nat} {ds : List D} (h : Wd (n + 1) (.lst ds)) : ∀ x ∈ ds, Wd n x := by simpa only [Wd] using h
theorem Wd.dct {n : Nat} {ks : List Str} {ds : List D} (h : Wd (n + 1) (.dct ks ds)) : ks.Nodup ∧ ks.length = ds.length ∧ ∀ x ∈ ds, Wd n x := by simpa only [Wd] using h
theorem wd_non (n : Nat) : Wd n .non := by cases n <;> simp [Wd]
theorem inner_len (d : D) : (inner d).length = (stepsV d).length := by
  cases d with
  | dct ks ds => simp [inner, stepsV]
  | lst ds => simp [inner, stepsV]
  | _ => rfl
theorem look_wd {n : Nat} : ∀ {ks : List Str} {ds : List D} {k : Str}, (∀ x ∈ ds, Wd n x) → Wd n (look ks ds k)
  | [], _, _, _ => by rw [look]; exact wd_non n; intros; simp_all
  | _ :: _, [], _, _ => by rw [look]; exact wd_non n; intros; simp_all
  | k' :: ks, d :: ds, k, h => by
    rw [look]
    split
    · exact h _ List.mem_cons_self
    · exact look_wd fun x hx => h x (List.mem_cons_of_mem _ hx)
theorem inner_wd {n : Nat} {d c : D} (h : Wd (n + 1) d) (hc : c ∈ inner d) : Wd n c := by
  cases d with
  | lst ds => exact h.lst c hc
  | dct ks ds =>
    obtain ⟨k, _, rfl⟩ := List.mem_map.mp (show c ∈ (skeys ks).map (look ks ds) from hc)
    exact look_wd h.dct.2.2
  | _ => simp [inner] at hc
theorem wd_zero {d : D} (h : Wd 0 d) : inner d = [] := by
  cases d with
  | lst ds => simp [Wd] at h
  | dct ks ds => simp [Wd] at h
  | _ => rfl
theorem Wd.mono : ∀ {n m : Nat} {d : D}, n ≤ m → Wd n d → Wd m d := by
  intro n
  induction n with
  | zero =>
    intro m d _ h
    cases d with
    | lst ds => simp [Wd] at h
    | dct ks ds => simp [Wd] at h
    | _ => cases m <;> simp [Wd]
  | succ n ih =>
    intro m d hm h
    obtain ⟨m, rfl⟩ : ∃ k, m = k + 1 := ⟨m - 1, by omega⟩
    cases d with
    | lst ds => simp only [Wd]; exact fun x hx => ih (by omega) (h.lst x hx)
    | dct ks ds => simp only [Wd]; exact ⟨h.dct.1, h.dct.2.1, fun x hx => ih (by omega) (h.dct.2.2 x hx)⟩
    | _ => simp [Wd]
/-! sorted keys -/
theorem skeys_pair (ks : List Str) : (skeys ks).Pairwise fun a b => leS a b = true := by
  refine List.pairwise_mergeSort (fun a b c h1 h2 => ?_) (fun a b => ?_) ks
  · have e1 : ltCps b.cps.toList a.cps.toList = false := by simpa [leS] using h1
    have e2 : ltCps c.cps.toList b.cps.toList = false := by simpa [leS] using h2
    show (!ltCps c.cps.toList a.cps.toList) = true
    cases q : ltCps c.cps.toList a.cps.toList with
    | false => rfl
    | true =>
      rcases cNeg (b := b.cps.toList) q with z | z
      · rw [e2] at z; cases z
      · rw [e1] at z; cases z
  · unfold leS
    cases h1 : ltCps b.cps.toList a.cps.toList with
    | false => rfl
    | true =>
      cases h2 : ltCps a.cps.toList b.cps.toList with
      | false => rfl
      | true => exact (cAsy h1 h2).elim
theorem skeys_of {l : List Str} (h : l.Pairwise fun a b => leS a b = true) : skeys l = l := List.mergeSort_of_pairwise h
theorem skeys_idem (ks : List Str) : skeys (skeys ks) = skeys ks := skeys_of (skeys_pair ks)
theorem skeys_nodup {ks : List Str} (h : ks.Nodup) : (skeys ks).Nodup := (skeys_perm ks).nodup_iff.mpr h
theorem skeys_len (ks : List Str) : (skeys ks).length = ks.length := (skeys_perm ks).length_eq
theorem look_at_i : ∀ {ks : List Str} {ds : List D}, ks.Nodup → ∀ (i : Nat) (k : Str) (d : D), ks[i]? = some k → ds[i]? = some d → look ks ds k = d
  | [], _, _, i, k, d, h, _ => by simp at h
  | _ :: _, [], _, i, k, d, _, h => by simp at h
  | k' :: ks, d' :: ds, nd, 0, k, d, h1, h2 => by
    simp only [List.getElem?_cons_zero, Option.some.injEq] at h1 h2
    rw [look, if_pos h1]
    exact h2
  | k' :: ks, d' :: ds, nd, i + 1, k, d, h1, h2 => by
    simp only [List.getElem?_cons_succ] at h1 h2
    have n' := List.nodup_cons.mp nd
    rw [look, if_neg (fun z => n'.1 (by rw [z]; exact List.mem_of_getElem? h1))]
    exact look_at_i n'.2 i k d h1 h2
theorem inner_srt {ks : List Str} {ds : List D} (e : skeys ks = ks) (nd : ks.Nodup) (hl : ks.length = ds.length) : inner (.dct ks ds) = ds := by
  show (skeys ks).map (look ks ds) = ds
  rw [e]
  refine List.ext_getElem? fun i => ?_
  rw [List.getElem?_map]
  by_cases hi : i < ks.length
  · rw [List.getElem?_eq_getElem hi, List.getElem?_eq_getElem (by omega)]
    exact congrArg some (look_at_i nd i _ _ (List.getElem?_eq_getElem hi) (List.getElem?_eq_getElem (by omega)))
  · rw [List.getElem?_eq_none (by omega), List.getElem?_eq_none (by omega)]
    rfl
theorem inner_dlen (ks : List Str) (ds : List D) : (inner (.dct ks ds)).length = (skeys ks).length := by
  show ((skeys ks).map _).length = _
  rw [List.length_map]
/-! what is changed at one step -/
theorem setI_inner {n : Nat} {d c : D} {i : Nat} (h : Wd n d) : inner (setI i c d) = (inner d).set i c ∧ stepsV (setI i c d) = stepsV d ∧ place (setI i c d) = place d := by
  cases d with
  | lst ds => exact ⟨rfl, by simp [setI, stepsV], rfl⟩
  | dct ks ds =>
    cases n with
    | zero => simp [Wd] at h
    | succ n =>
      refine ⟨?_, by simp only [setI, stepsV]; rw [skeys_idem], rfl⟩
      exact inner_srt (skeys_idem ks) (skeys_nodup h.dct.1) (by rw [List.length_set, inner_dlen])
  | non => exact ⟨rfl, rfl, rfl⟩
  | bl b => exact ⟨rfl, rfl, rfl⟩
  | int b => exact ⟨rfl, rfl, rfl⟩
  | str b => exact ⟨rfl, rfl, rfl⟩
theorem canon_inner {n : Nat} {d : D} (h : Wd (n + 1) d) : inner (canon (n + 1) d) = (inner d).map (canon n) ∧ stepsV (canon (n + 1) d) = stepsV d ∧ place (canon (n + 1) d) = place d := by
  cases d with
  | lst ds => exact ⟨rfl, by simp [canon, stepsV], rfl⟩
  | dct ks ds =>
    refine ⟨?_, by simp only [canon, stepsV]; rw [skeys_idem], rfl⟩
    exact inner_srt (skeys_idem ks) (skeys_nodup h.dct.1) (by rw [List.length_map, inner_dlen])
  | _ => exact ⟨rfl, rfl, rfl⟩
theorem eraseIdx_map' {α β : Type} (f : α → β) (l : List α) (i : Nat) : (l.eraseIdx i).map f = (l.map f).eraseIdx i := (erase_map f l i).symm
theorem delI_inner {n : Nat} {d : D} {i : Nat} (h : Wd n d) : inner (delI i d) = (inner d).eraseIdx i ∧ place (delI i d) = place d ∧ (∀ ks ds, d = .dct ks ds → stepsV (delI i d) = (stepsV d).eraseIdx i) := by
  cases d with
  | lst ds => exact ⟨rfl, rfl, fun _ _ z => by cases z⟩
  | dct ks ds =>
    cases n with
    | zero => simp [Wd] at h
    | succ n =>
      have e1 : skeys ((skeys ks).eraseIdx i) = (skeys ks).eraseIdx i := skeys_of ((skeys_pair ks).sublist (List.eraseIdx_sublist _ _))
      refine ⟨inner_srt e1 ((skeys_nodup h.dct.1).sublist (List.eraseIdx_sublist _ _)) (by rw [List.length_eraseIdx, List.length_eraseIdx, inner_dlen]), rfl, fun _ _ _ => ?_⟩
      simp only [delI, stepsV]
      rw [e1, eraseIdx_map']
  | non => exact ⟨rfl, rfl, fun _ _ z => by cases z⟩
  | bl b => exact ⟨rfl, rfl, fun _ _ z => by cases z⟩
  | int b => exact ⟨rfl, rfl, fun _ _ z => by cases z⟩
  | str b => exact ⟨rfl, rfl, fun _ _ z => by cases z⟩
/-! ranks -/
def REq (a b : D) : Prop := ∀ k, rank k a = rank k b
theorem rank_cnt {k : Nat} {a b : D} (h : rank k a = rank k b) : cnt k a = cnt k b := by
  rw [rank_form, rank_form] at h
  simp only [PyData.tuple.injEq, List.cons.injEq, PyData.int.injEq] at h
  exact h.1
theorem ranks_cnt {k : Nat} : ∀ {as bs : List D}, as.map (rank k) = bs.map (rank k) → as.map (cnt k) = bs.map (cnt k)
  | [], [], _ => rfl
  | a :: as, b :: bs, h => by
    simp only [List.map_cons, List.cons.injEq] at h ⊢
    exact ⟨rank_cnt h.1, ranks_cnt h.2⟩
  | [], _ :: _, h => by simp at h
  | _ :: _, [], h => by simp at h
theorem strs_inj : ∀ {as bs : List Str}, as.map V.str = bs.map V.str → as = bs
  | [], [], _ => rfl
  | a :: as, b :: bs, h => by
    simp only [List.map_cons, List.cons.injEq, V.str.injEq] at h
    rw [h.1, strs_inj h.2]
  | [], _ :: _, h => by simp at h
  | _ :: _, [], h => by simp at h
theorem req_node {a b : D} (hp : place a = place b) (h5 : 5 ≤ place a) (hs : (∃ ds, a = .lst ds) ∨ stepsV a = stepsV b) (hr : ∀ k, (inner a).map (rank k) = (inner b).map (rank k)) : REq a b := by
  cases a with
  | lst ds =>
    cases b with
    | lst es =>
      intro k
      cases k with
      | zero => rfl
      | succ k =>
        have e : (inner (.lst ds)).map (rank k) = (inner (.lst es)).map (rank k) := hr k
        have e2 : cnt (k + 1) (.lst ds) = cnt (k + 1) (.lst es) := by rw [cnt, cnt, ranks_cnt e]
        show rankT ((inner (.lst ds)).map (rank k)) (cnt (k + 1) (.lst ds)) (.lst ds) = rankT ((inner (.lst es)).map (rank k)) (cnt (k + 1) (.lst es)) (.lst es)
        rw [e, e2]
        rfl
    | bl b => cases b <;> simp [place] at hp
    | _ => simp [place] at hp
  | dct ks ds =>
    cases b with
    | dct ls es =>
      have hk : skeys ks = skeys ls := by
        rcases hs with ⟨_, h⟩ | h
        · cases h
        · exact strs_inj h
      intro k
      cases k with
      | zero =>
        show PyData.tuple [.int 1, .int 6, .tuple (pairsP (skeys ks) [])] = PyData.tuple [.int 1, .int 6, .tuple (pairsP (skeys ls) [])]
        rw [hk]
      | succ k =>
        have e : (inner (.dct ks ds)).map (rank k) = (inner (.dct ls es)).map (rank k) := hr k
        have e2 : cnt (k + 1) (.dct ks ds) = cnt (k + 1) (.dct ls es) := by rw [cnt, cnt, ranks_cnt e]
        show PyData.tuple [.int (cnt (k + 1) (.dct ks ds)), .int 6, .tuple (pairsP (skeys ks) ((inner (.dct ks ds)).map (rank k)))] = PyData.tuple [.int (cnt (k + 1) (.dct ls es)), .int 6, .tuple (pairsP (skeys ls) ((inner (.dct ls es)).map (rank k)))]
        rw [e, e2, hk]
    | bl b => cases b <;> simp [place] at hp
    | _ => simp [place] at hp
  | bl b => cases b <;> simp [place] at h5
  | _ => simp [place] at h5
theorem leaf_or (d : D) : inner d = [] ∧ (∀ n, canon n d = d) ∧ place d < 5 ∨ 5 ≤ place d := by
  cases d with
  | lst ds => right; simp [place]
  | dct ks ds => right; simp [place]
  | bl b => left; exact ⟨rfl, fun n => by cases n <;> rfl, by cases b <;> simp [place]⟩
  | _ => left; exact ⟨rfl, fun n => by cases n <;> rfl, by simp [place]⟩
theorem req_canon : ∀ {n : Nat} {d : D}, Wd n d → REq (canon n d) d := by
  intro n
  induction n with
  | zero =>
    intro d h k
    cases d with
    | lst ds => simp [Wd] at h
    | dct ks ds => simp [Wd] at h
    | _ => rfl
  | succ n ih =>
    intro d h
    rcases leaf_or d with ⟨_, h2, _⟩ | h5
    · intro k
      rw [h2]
    · obtain ⟨c1, c2, c3⟩ := canon_inner h
      refine req_node c3 (by rw [c3]; exact h5) (.inr c2) fun k => ?_
      rw [c1, List.map_map]
      refine List.map_congr_left fun x hx => ?_
      exact ih (inner_wd h hx) k
theorem set_maps {n : Nat} {d : D} (h : Wd (n + 1) d) {i : Nat} {x y : D} (hxy : REq x y) (k : Nat) : (((inner d).map (canon n)).set i x).map (rank k) = ((inner d).set i y).map (rank k) := by
  rw [List.map_set, List.map_set, hxy k, List.map_map]
  congr 1
  exact List.map_congr_left fun z hz => req_canon (inner_wd h hz) k
theorem canon_wd : ∀ {n : Nat} {d : D}, Wd n d → Wd n (canon n d) := by
  intro n
  induction n with
  | zero => intro d h; cases d <;> simpa [canon] using h
  | succ n ih =>
    intro d h
    cases d with
    | lst ds =>
      simp only [canon, Wd]
      intro x hx
      obtain ⟨y, hy, rfl⟩ := List.mem_map.mp hx
      exact ih (h.lst y hy)
    | dct ks ds =>
      simp only [canon, Wd]
      refine ⟨skeys_nodup h.dct.1, by rw [List.length_map, inner_dlen], fun x hx => ?_⟩
      obtain ⟨y, hy, rfl⟩ := List.mem_map.mp hx
      exact ih (inner_wd h hy)
    | _ => simp [canon, Wd]
theorem place_big {d : D} {i : Nat} {c : D} (h : (inner d)[i]? = some c) : 5 ≤ place d := by
  rcases leaf_or d with ⟨h1, _⟩ | h5
  · rw [h1] at h
    simp at h
  · exact h5
theorem req_put : ∀ (is : List Nat) {n : Nat} {d e e' : D}, REq e' e → Wd n d → REq (putI is e' (canon n d)) (putI is e d)
  | [], n, d, e, e', he, _ => he
  | i :: is, n, d, e, e', he, h => by
    cases n with
    | zero =>
      have h0 := wd_zero h
      have e1 : canon 0 d = d := by cases d <;> rfl
      rw [e1, putI, putI, h0]
      intro k
      rfl
    | succ n =>
      obtain ⟨c1, c2, c3⟩ := canon_inner h
      rw [putI, putI, c1, List.getElem?_map]
      cases hc : (inner d)[i]? with
      | none => exact req_canon h
      | some c =>
        have hw := inner_wd h (List.mem_of_getElem? hc)
        have ih := req_put is he hw
        obtain ⟨s1, s2, s3⟩ := setI_inner (c := putI is e' (canon n c)) (i := i) (canon_wd h)
        obtain ⟨t1, t2, t3⟩ := setI_inner (c := putI is e c) (i := i) h
        have h5 := place_big hc
        show REq (setI i (putI is e' (canon n c)) (canon (n + 1) d)) (setI i (putI is e c) d)
        refine req_node (by rw [s3, t3, c3]) (by rw [s3, c3]; exact h5) (.inr (by rw [s2, t2, c2])) fun k => ?_
        rw [s1, t1, c1]
        exact set_maps h ih k
theorem less_step (i j : Nat) (is : List Nat) (d : D) : lessI (i :: j :: is) d = match (inner d)[i]? with
    | some c => setI i (lessI (j :: is) c) d
    | none => d := rfl
theorem req_less : ∀ (is : List Nat) {n : Nat} {d : D}, Wd n d → REq (lessI is (canon n d)) (lessI is d)
  | [], n, d, h => req_canon h
  | [i], n, d, h => by
    cases n with
    | zero =>
      have e1 : canon 0 d = d := by cases d <;> rfl
      rw [e1]
      intro k
      rfl
    | succ n =>
      obtain ⟨c1, c2, c3⟩ := canon_inner h
      show REq (delI i (canon (n + 1) d)) (delI i d)
      rcases leaf_or d with ⟨_, h2, _⟩ | h5
      · rw [h2]
        intro k
        rfl
      · obtain ⟨s1, s2, s3⟩ := delI_inner (i := i) (canon_wd h)
        obtain ⟨t1, t2, t3⟩ := delI_inner (i := i) h
        refine req_node (by rw [s2, t2, c3]) (by rw [s2, c3]; exact h5) ?_ fun k => ?_
        · cases d with
          | lst ds => exact .inl ⟨_, rfl⟩
          | dct ks ds => exact .inr (by rw [s3 _ _ rfl, t3 _ _ rfl, c2])
          | bl b => cases b <;> simp [place] at h5
          | _ => simp [place] at h5
        · rw [s1, t1, c1, eraseIdx_map', eraseIdx_map', List.map_map]
          congr 1
          exact List.map_congr_left fun z hz => req_canon (inner_wd h hz) k
  | i :: j :: is, n, d, h => by
    cases n with
    | zero =>
      have h0 := wd_zero h
      have e1 : canon 0 d = d := by cases d <;> rfl
      rw [e1, less_step, h0]
      intro k
      rfl
    | succ n =>
      obtain ⟨c1, c2, c3⟩ := canon_inner h
      rw [less_step, less_step, c1, List.getElem?_map]
      cases hc : (inner d)[i]? with
      | none => exact req_canon h
      | some c =>
        have hw := inner_wd h (List.mem_of_getElem? hc)
        have ih := req_less (j :: is) hw
        obtain ⟨s1, s2, s3⟩ := setI_inner (c := lessI (j :: is) (canon n c)) (i := i) (canon_wd h)
        obtain ⟨t1, t2, t3⟩ := setI_inner (c := lessI (j :: is) c) (i := i) h
        have h5 := place_big hc
        show REq (setI i (lessI (j :: is) (canon n c)) (canon (n + 1) d)) (setI i (lessI (j :: is) c) d)
        refine req_node (by rw [s3, t3, c3]) (by rw [s3, c3]; exact h5) (.inr (by rw [s2, t2, c2])) fun k => ?_
        rw [s1, t1, c1]
        exact set_maps h ih k
/-! paths -/
theorem sub_snoc : ∀ {is : List Nat} {d c e : D} {i : Nat}, sub is d = some c → (inner c)[i]? = some e → sub (is ++ [i]) d = some e
  | [], d, c, e, i, h, h2 => by
    cases h
    simp [sub, h2]
  | j :: is, d, c, e, i, h, h2 => by
    rw [sub] at h
    rw [List.cons_append, sub]
    cases hj : (inner d)[j]? with
    | none => rw [hj] at h; cases h
    | some b =>
      rw [hj] at h
      exact sub_snoc h h2
theorem sub_unsnoc : ∀ {is : List Nat} {d e : D} {i : Nat}, sub (is ++ [i]) d = some e → ∃ c, sub is d = some c ∧ (inner c)[i]? = some e
  | [], d, e, i, h => by
    refine ⟨d, rfl, ?_⟩
    rw [List.nil_append, sub] at h
    cases hj : (inner d)[i]? with
    | none => rw [hj] at h; cases h
    | some b => rw [hj] at h; exact h
  | j :: is, d, e, i, h => by
    rw [List.cons_append, sub] at h
    cases hj : (inner d)[j]? with
    | none => rw [hj] at h; cases h
    | some b =>
      rw [hj] at h
      obtain ⟨c, h1, h2⟩ := sub_unsnoc h
      exact ⟨c, by rw [sub, hj]; exact h1, h2⟩
theorem step_of {d : D} {i : Nat} {c : D} (h : (inner d)[i]? = some c) : ∃ x, (stepsV d)[i]? = some x := by
  have hi : i < (inner d).length := (List.getElem?_eq_some_iff.mp h).1
  rw [inner_len] at hi
  exact ⟨_, List.getElem?_eq_getElem hi⟩
theorem pth_snoc : ∀ {is : List Nat} {d c e : D} {i : Nat} {x : V}, sub is d = some c → (inner c)[i]? = some e → (stepsV c)[i]? = some x → pth (is ++ [i]) d = pth is d ++ [x]
  | [], d, c, e, i, x, h, h2, h3 => by
    cases h
    simp [pth, h2, h3]
  | j :: is, d, c, e, i, x, h, h2, h3 => by
    rw [sub] at h
    rw [List.cons_append, pth, pth]
    cases hj : (inner d)[j]? with
    | none => rw [hj] at h; cases h
    | some b =>
      rw [hj] at h
      obtain ⟨y, hy⟩ := step_of hj
      rw [hy]
      dsimp only
      rw [pth_snoc h h2 h3]
      rfl
theorem pth_len : ∀ {is : List Nat} {d c : D}, sub is d = some c → (pth is d).length = is.length
  | [], d, c, h => rfl
  | j :: is, d, c, h => by
    rw [sub] at h
    rw [pth]
    cases hj : (inner d)[j]? with
    | none => rw [hj] at h; cases h
    | some b =>
      rw [hj] at h
      obtain ⟨y, hy⟩ := step_of hj
      rw [hy]
      dsimp only
      rw [List.length_cons, List.length_cons, pth_len h]
theorem put_snoc : ∀ {is : List Nat} {d c e b : D} {i : Nat}, sub is d = some c → (inner c)[i]? = some b → putI (is ++ [i]) e d = putI is (setI i e c) d
  | [], d, c, e, b, i, h, h2 => by
    cases h
    simp [putI, h2]
  | j :: is, d, c, e, b, i, h, h2 => by
    rw [sub] at h
    rw [List.cons_append, putI, putI]
    cases hj : (inner d)[j]? with
    | none => rfl
    | some z =>
      rw [hj] at h
      dsimp only
      rw [put_snoc h h2]
theorem less_snoc : ∀ {is : List Nat} {d c : D} {i : Nat}, sub is d = some c → lessI (is ++ [i]) d = putI is (delI i c) d
  | [], d, c, i, h => by
    cases h
    rfl
  | [j], d, c, i, h => by
    rw [sub] at h
    cases hj : (inner d)[j]? with
    | none => rw [hj] at h; cases h
    | some z =>
      rw [hj] at h
      cases h
      show lessI (j :: i :: []) d = _
      rw [less_step, putI, hj]
      rfl
  | j :: k :: is, d, c, i, h => by
    rw [sub] at h
    cases hj : (inner d)[j]? with
    | none => rw [hj] at h; cases h
    | some z =>
      rw [hj] at h
      show lessI (j :: k :: (is ++ [i])) d = _
      rw [less_step, putI, hj]
      dsimp only
      have := less_snoc (i := i) h
      rw [show k :: (is ++ [i]) = (k :: is) ++ [i] from rfl, this]
theorem sub_wd : ∀ {is : List Nat} {n : Nat} {d c : D}, Wd n d → sub is d = some c → Wd n c ∧ is.length ≤ n
  | [], n, d, c, w, h => by
    cases h
    exact ⟨w, Nat.zero_le _⟩
  | j :: is, n, d, c, w, h => by
    rw [sub] at h
    cases hj : (inner d)[j]? with
    | none => rw [hj] at h; cases h
    | some z =>
      rw [hj] at h
      cases n with
      | zero => rw [wd_zero w] at hj; simp at hj
      | succ n =>
        obtain ⟨h1, h2⟩ := sub_wd (inner_wd w (List.mem_of_getElem? hj)) h
        exact ⟨h1.mono (Nat.le_succ n), by rw [List.length_cons]; omega⟩
theorem sub_canon : ∀ {is : List Nat} {n : Nat} {d c : D}, Wd n d → sub is d = some c → ∃ m, m + is.length = n ∧ Wd m c ∧ sub is (canon n d) = some (canon m c) ∧ pth is (canon n d) = pth is d
  | [], n, d, c, w, h => by
    cases h
    exact ⟨n, rfl, w, rfl, rfl⟩
  | j :: is, n, d, c, w, h => by
    rw [sub] at h
    cases hj : (inner d)[j]? with
    | none => rw [hj] at h; cases h
    | some z =>
      rw [hj] at h
      cases n with
      | zero => rw [wd_zero w] at hj; simp at hj
      | succ n =>
        obtain ⟨c1, c2, c3⟩ := canon_inner w
        obtain ⟨m, h1, h2, h3, h4⟩ := sub_canon (inner_wd w (List.mem_of_getElem? hj)) h
        obtain ⟨y, hy⟩ := step_of hj
        refine ⟨m, by rw [List.length_cons]; omega, h2, ?_, ?_⟩
        · rw [sub, c1, List.getElem?_map, hj]
          exact h3
        · rw [pth, pth, c1, c2, List.getElem?_map, hj, hy]
          dsimp only [Option.map]
          rw [h4]
end Toy


namespace Toy
open PySem PySem.Spec L2 PyProof.Rows PySem.W
/-! ### data, shown -/
def toP : Nat → D → PyData
  | _, .non => .none
  | _, .bl b => .bool b
  | _, .int i => .int i
  | _, .str x => .str x
  | n + 1, .lst ds => .list (ds.map (toP n))
  | n + 1, .dct ks ds => .dict ((ks.map PyData.str).zip (ds.map (toP n)))
  | 0, .lst _ => .none
  | 0, .dct _ _ => .none
theorem kv_vals {ks : List Str} {us : List V} (h : us.length = ks.length) : (kvOf ks us).map (·.2) = us := by
  unfold kvOf
  rw [List.map_map]
  have z : (ks.zip us).map Prod.snd = us := List.map_snd_zip (by omega)
  exact z
theorem sds_paired {K : PySem.W.Frag} {H : Hp} {f : D → PyData} {R : V → D → Prop} (h : ∀ v d, R v d → Sd K H v (f d)) : ∀ {us : List V} {ds : List D}, Paired R us ds → SdAll K H us (ds.map f)
  | _, _, .nil => .nil
  | _, _, .cons r t => .cons (h _ _ r) (sds_paired h t)
theorem da_sd {K : PySem.W.Frag} {H : Hp} : ∀ {n : Nat} {v : V} {d : D}, Da n H v d → Sd K H v (toP n d) := by
  intro n
  induction n with
  | zero =>
    intro v d h
    cases d with
    | lst ds => simp [Da] at h
    | dct ks ds => simp [Da] at h
    | non => obtain rfl : v = .non := by simpa [Da] using h
             exact .non
    | bl b => obtain rfl : v = .bl b := by simpa [Da] using h
              exact .bl b
    | int i => obtain rfl : v = .int i := by simpa [Da] using h
               exact .int i
    | str x => obtain rfl : v = .str x := by simp only [Da] at h; exact h.1
               exact .str x
  | succ n ih =>
    intro v d h
    cases d with
    | non => obtain rfl : v = .non := by simpa [Da] using h
             exact .non
    | bl b => obtain rfl : v = .bl b := by simpa [Da] using h
              exact .bl b
    | int i => obtain rfl : v = .int i := by simpa [Da] using h
               exact .int i
    | str x => obtain rfl : v = .str x := by simp only [Da] at h; exact h.1
               exact .str x
    | lst ds =>
      simp only [Da] at h
      obtain ⟨a, xs, rfl, h2, h3, h4⟩ := h
      exact .lst (SqL.of h2) (sds_paired (fun _ _ r => ih r) h4)
    | dct ks ds =>
      simp only [Da] at h
      obtain ⟨a, us, rfl, h2, h3, h4, h5, h6, h7⟩ := h
      have z : SdAll K H ((kvOf ks us).map (·.2)) (ds.map (toP n)) := by
        rw [kv_vals h4]
        exact sds_paired (fun _ _ r => ih r) h7
      have e : (kvOf ks us).map (fun p => keyD p.1) = ks.map PyData.str := by
        have := congrArg (List.map keyD) (kv_keys h4)
        rw [List.map_map, List.map_map] at this
        exact this
      have := Sd.dct (K := K) h2 z
      rw [e] at this
      exact this
/-- may be shown, at most a deep and b long -/
structure Ft (d : PyData) (a b : Nat) : Prop where
  shw : d.showable = true
  dep : d.depth ≤ a
  len : d.shown.length ≤ b
structure FtL (ds : List PyData) (a b : Nat) : Prop where
  shw : PyData.showableAll ds = true
  dep : PyData.depthAll ds ≤ a
  len : ((PyData.shownAll ds).map fun t => t.length + 2).sum ≤ b
theorem Ft.mono {d : PyData} {a b a' b' : Nat} (h : Ft d a b) (ha : a ≤ a') (hb : b ≤ b') : Ft d a' b' := ⟨h.shw, Nat.le_trans h.dep ha, Nat.le_trans h.len hb⟩
theorem FtL.mono {d : List PyData} {a b a' b' : Nat} (h : FtL d a b) (ha : a ≤ a') (hb : b ≤ b') : FtL d a' b' := ⟨h.shw, Nat.le_trans h.dep ha, Nat.le_trans h.len hb⟩
theorem ftL_nil {a b : Nat} : FtL [] a b := ⟨rfl, Nat.zero_le _, Nat.zero_le _⟩
theorem ftL_cons {d : PyData} {ds : List PyData} {a b c : Nat} (h : Ft d a b) (t : FtL ds a c) : FtL (d :: ds) a (b + 2 + c) := by
  refine ⟨?_, ?_, ?_⟩
  · show (d.showable && PyData.showableAll ds) = true
    rw [h.shw, t.shw]
    rfl
  · show max d.depth (PyData.depthAll ds) ≤ a
    have h1 := h.dep
    have h2 := t.dep
    omega
  · rw [PyData.shownAll, List.map_cons, List.sum_cons]
    have h1 := h.len
    have h2 := t.len
    omega
theorem ftL_all {a b : Nat} : ∀ {ds : List PyData}, (∀ d ∈ ds, Ft d a b) → FtL ds a (ds.length * (b + 2))
  | [], _ => ftL_nil
  | d :: ds, h => by
    have h1 := ftL_cons (h d List.mem_cons_self) (ftL_all fun x hx => h x (List.mem_cons_of_mem _ hx))
    exact h1.mono (Nat.le_refl _) (by rw [List.length_cons, Nat.succ_mul]; omega)
theorem textFrom_le : ∀ (ts : List Str) (k : Nat) (acc : Str), (textFrom k acc ts).length ≤ acc.length + (ts.map fun t => t.length + 2).sum
  | [], _, acc => by show acc.length ≤ _; simp
  | t :: r, k, acc => by
    have ih := textFrom_le r (k + 1) (acc ++ (if k > 0 then ", " else "" : String) ++ t)
    have e : (acc ++ (if k > 0 then ", " else "" : String) ++ t).length ≤ acc.length + 2 + t.length := by
      rw [strLen_append, strLen_append]
      have : ((if k > 0 then ", " else "" : String) : Str).length ≤ 2 := by
        split
        · exact Nat.le_refl 2
        · exact Nat.zero_le 2
      omega
    rw [List.map_cons, List.sum_cons]
    show (textFrom (k + 1) (acc ++ (if k > 0 then ", " else "" : String) ++ t) r).length ≤ _
    omega
theorem piled_eq (ts : List Str) : piled ts = (ts.map fun t => t.length + 2).sum := by
  induction ts with
  | nil => rfl
  | cons t ts ih => rw [List.map_cons, List.sum_cons, ← ih]; simp [piled]
theorem join_le (ts : List Str) : (Str.join ", " ts).length ≤ (ts.map fun t => t.length + 2).sum := by
  cases ts with
  | nil => exact Nat.zero_le _
  | cons x xs =>
    have h2 := join_length_add (x :: xs) (by simp)
    rw [piled_eq] at h2
    omega
theorem ft_lst {ds : List PyData} {a b : Nat} (h : FtL ds a b) : Ft (.list ds) (a + 1) (3 + b) := by
  refine ⟨h.shw, by show PyData.depthAll ds + 1 ≤ _; have := h.dep; omega, ?_⟩
  have h2 := textFrom_le (PyData.shownAll ds) 0 "["
  show (textFrom 0 "[" (PyData.shownAll ds) ++ "]").length ≤ _
  rw [strLen_append]
  have e1 : (("[" : String) : Str).length = 1 := rfl
  have e2 : (("]" : String) : Str).length = 1 := rfl
  have := h.len
  omega
theorem ft_tup {ds : List PyData} {a b : Nat} (h : FtL ds a b) : Ft (.tuple ds) (a + 1) (3 + b) := by
  refine ⟨h.shw, by show PyData.depthAll ds + 1 ≤ _; have := h.dep; omega, ?_⟩
  show (tupleText (PyData.shownAll ds)).length ≤ _
  unfold tupleText
  rw [strLen_append, strLen_append]
  have e1 : (("(" : String) : Str).length = 1 := rfl
  have e2 : ((if (PyData.shownAll ds).length == 1 then ",)" else ")" : String) : Str).length ≤ 2 := by
    split
    · exact Nat.le_refl 2
    · exact (by decide : 1 ≤ 2)
  have h1 := join_le (PyData.shownAll ds)
  have := h.len
  omega
theorem kv_shown : ∀ (ks : List Str) (ds : List PyData), (∀ k ∈ ks, okX k = true) → ((PyData.shownKv ((ks.map PyData.str).zip ds)).map fun t => t.length + 2).sum ≤ 22 * ds.length + ((PyData.shownAll ds).map fun t => t.length + 2).sum
  | [], ds, _ => by simp [PyData.shownKv]
  | k :: ks, [], _ => by simp [PyData.shownKv]
  | k :: ks, d :: ds, h => by
    have ih := kv_shown ks ds fun x hx => h x (List.mem_cons_of_mem _ hx)
    have h1 : (PyData.shown (.str k)).length ≤ 20 := of_decide_eq_true (h k List.mem_cons_self)
    rw [List.map_cons, List.zip_cons_cons, PyData.shownKv, PyData.shownAll, List.map_cons, List.sum_cons, List.map_cons, List.sum_cons, List.length_cons, strLen_append, strLen_append]
    have e1 : ((": " : String) : Str).length = 2 := rfl
    omega
theorem kv_showable : ∀ (ks : List Str) (ds : List PyData), PyData.showableAll ds = true → PyData.showableKv ((ks.map PyData.str).zip ds) = true
  | [], ds, _ => rfl
  | k :: ks, [], _ => rfl
  | k :: ks, d :: ds, h => by
    have h' : (d.showable && PyData.showableAll ds) = true := h
    rw [Bool.and_eq_true] at h'
    show ((PyData.str k).showable && d.showable && PyData.showableKv ((ks.map PyData.str).zip ds)) = true
    rw [h'.1, kv_showable ks ds h'.2]
    rfl
theorem kv_depth : ∀ (ks : List Str) (ds : List PyData), PyData.depthKv ((ks.map PyData.str).zip ds) ≤ PyData.depthAll ds
  | [], ds => by simp [PyData.depthKv]
  | k :: ks, [] => by simp [PyData.depthKv]
  | k :: ks, d :: ds => by
    have ih := kv_depth ks ds
    show max (max (PyData.depth (.str k)) d.depth) (PyData.depthKv ((ks.map PyData.str).zip ds)) ≤ max d.depth (PyData.depthAll ds)
    have : PyData.depth (.str k) = 0 := rfl
    omega
theorem ft_dct {ks : List Str} {ds : List PyData} {a b : Nat} (hk : ∀ k ∈ ks, okX k = true) (h : FtL ds a b) : Ft (.dict ((ks.map PyData.str).zip ds)) (a + 1) (3 + b + 22 * ds.length) := by
  refine ⟨kv_showable ks ds h.shw, by show PyData.depthKv _ + 1 ≤ _; have := h.dep; have := kv_depth ks ds; omega, ?_⟩
  show (dictText (PyData.shownKv ((ks.map PyData.str).zip ds))).length ≤ _
  unfold dictText
  rw [strLen_append, strLen_append]
  have e1 : (("{" : String) : Str).length = 1 := rfl
  have e2 : (("}" : String) : Str).length = 1 := rfl
  have h1 := join_le (PyData.shownKv ((ks.map PyData.str).zip ds))
  have h2 := kv_shown ks ds hk
  have := h.len
  omega
def LB : Nat → Nat
  | 0 => 40
  | n + 1 => 3 * (LB n + 24) + 43
theorem LB_le (n : Nat) : 40 ≤ LB n := by
  cases n with
  | zero => exact Nat.le_refl _
  | succ n => rw [LB]; omega
theorem lim_ft : ∀ {n : Nat} {d : D}, Lim n d → Ft (toP n d) n (LB n) := by
  intro n
  induction n with
  | zero =>
    intro d h
    cases d with
    | lst ds => simp [Lim] at h
    | dct ks ds => simp [Lim] at h
    | non => exact ⟨rfl, Nat.le_refl _, by decide +kernel⟩
    | bl b => exact ⟨rfl, Nat.le_refl _, by cases b <;> decide +kernel⟩
    | int i =>
      simp only [Lim, okI, Bool.and_eq_true, decide_eq_true_eq] at h
      exact ⟨h.1, Nat.le_refl _, h.2⟩
    | str x =>
      simp only [Lim, okX, decide_eq_true_eq] at h
      exact ⟨rfl, Nat.le_refl _, Nat.le_trans h (by decide)⟩
  | succ n ih =>
    intro d h
    have hb := LB_le (n + 1)
    cases d with
    | non => exact ⟨rfl, Nat.zero_le _, Nat.le_trans (by decide +kernel : (PyData.shown .none).length ≤ 40) hb⟩
    | bl b => exact ⟨rfl, Nat.zero_le _, Nat.le_trans (by cases b <;> decide +kernel : (PyData.shown (.bool b)).length ≤ 40) hb⟩
    | int i =>
      simp only [Lim, okI, Bool.and_eq_true, decide_eq_true_eq] at h
      exact ⟨h.1, Nat.zero_le _, Nat.le_trans h.2 hb⟩
    | str x =>
      simp only [Lim, okX, decide_eq_true_eq] at h
      exact ⟨rfl, Nat.zero_le _, Nat.le_trans h (Nat.le_trans (by decide) hb)⟩
    | lst ds =>
      simp only [Lim] at h
      have z := ft_lst (ftL_all (ds := ds.map (toP n)) fun x hx => by
        obtain ⟨y, hy, rfl⟩ := List.mem_map.mp hx
        exact ih (h.2 y hy))
      refine z.mono (Nat.le_refl _) ?_
      rw [List.length_map, LB]
      have := Nat.mul_le_mul_right (LB n + 2) h.1
      omega
    | dct ks ds =>
      simp only [Lim] at h
      have z := ftL_all (ds := ds.map (toP n)) fun x hx => by
        obtain ⟨y, hy, rfl⟩ := List.mem_map.mp hx
        exact ih (h.2.2.2 y hy)
      have hl := h.1
      refine (ft_dct h.2.2.1 z).mono (Nat.le_refl _) ?_
      rw [List.length_map, LB]
      have := Nat.mul_le_mul_right (LB n + 2) hl
      omega
theorem shw_da {K : PySem.W.Frag} {H : Hp} {n : Nat} {v : V} {d : D} (h : Da n H v d) (l : Lim n d) (hn : n ≤ 8) : Shw K H v (toP n d) := by
  have f := lim_ft l
  refine ⟨da_sd h, f.shw, Nat.le_trans f.dep (by omega), Nat.le_trans f.len ?_⟩
  have : ∀ a b : Nat, a ≤ b → LB a ≤ LB b := by
    intro a b hab
    induction hab with
    | refl => exact Nat.le_refl _
    | step _ ih => rw [LB]; omega
  exact Nat.le_trans (this n 8 hn) (by decide)
theorem shw_ft {K : PySem.W.Frag} {H : Hp} {v : V} {t : PyData} {a b : Nat} (h : Sd K H v t) (f : Ft t a b) (ha : a ≤ 150) (hb : b ≤ 2000000) : Shw K H v t :=
  ⟨h, f.shw, Nat.le_trans f.dep ha, Nat.le_trans f.len (Nat.le_trans hb (by decide))⟩
end Toy


namespace Toy
open PySem PySem.Spec L2 PyProof.Rows PySem.W
abbrev sCopied : Stmt := top 6
/-! ### copies: each part stands in a part of the heap of its own -/
theorem Same.trans {A B C : Hp} (a : Same A B) (b : Same B C) : Same A C := fun x o e => b x o (a x o e)
theorem new_self {H H' : Hp} : Same (newH H H') H' := fun b o e => (newH_some.mp e).2
def NodeAt (H : Hp) (a : Addr) (d : D) (us : List V) : Prop := match d with
  | .lst _ => H a = some (.lst us)
  | .dct ks ds => H a = some (.dK (kvOf ks us)) ∧ skeys ks = ks ∧ ks.Nodup ∧ ks.length = ds.length
  | _ => False
def TrsP (T : Hp → V → D → Prop) (H : Hp) (us : List V) (ds : List D) (G : Nat → Hp) : Prop :=
  us.length = ds.length ∧ (∀ i u c, us[i]? = some u → ds[i]? = some c → T (G i) u c) ∧ (∀ i, Same (G i) H) ∧ ∀ i j, i ≠ j → ∀ b, G i b = none ∨ G j b = none
def Tr : Nat → Hp → V → D → Prop
  | 0, H, v, d => Da 0 H v d
  | n + 1, H, v, d => Da (n + 1) H v d ∧ (5 ≤ place d → ∃ (a : Addr) (us : List V) (G : Nat → Hp), v = .ref a ∧ NodeAt H a d us ∧ TrsP (Tr n) H us (inner d) G ∧ ∀ i, G i a = none)
theorem Tr.da {n : Nat} {H : Hp} {v : V} {d : D} (h : Tr n H v d) : Da n H v d := by
  cases n with
  | zero => exact h
  | succ n => exact h.1
theorem Da.wd : ∀ {n : Nat} {H : Hp} {v : V} {d : D}, Da n H v d → Wd n d := by
  intro n
  induction n with
  | zero => intro H v d h; cases d <;> simp_all [Da, Wd]
  | succ n ih =>
    intro H v d h
    have mem : ∀ {xs : List V} {ds : List D}, Paired (fun x d => Da n H x d) xs ds → ∀ c ∈ ds, Wd n c := by
      intro xs ds p
      induction p with
      | nil => intro c hc; cases hc
      | cons r _ t =>
        intro c hc
        rcases List.mem_cons.mp hc with rfl | hc
        · exact ih r
        · exact t c hc
    cases d with
    | lst ds =>
      simp only [Da] at h
      obtain ⟨a, xs, rfl, h2, h3, h4⟩ := h
      simp only [Wd]
      exact mem h4
    | dct ks ds =>
      simp only [Da] at h
      obtain ⟨a, us, rfl, h2, h3, h4, h5, h6, h7⟩ := h
      simp only [Wd]
      have := Paired.length h7
      exact ⟨h5, by omega, mem h7⟩
    | _ => simp [Wd]
theorem trs_push {T : Hp → V → D → Prop} {H H' N : Hp} {us : List V} {ds : List D} {G : Nat → Hp} {u : V} {c : D} (h : TrsP T H us ds G) (he : ∀ j, us.length ≤ j → ∀ b, G j b = none) (hs : ∀ j, Same (G j) H') (hT : T N u c) (hN : Same N H') (hd : ∀ j b, N b = none ∨ G j b = none) :
    TrsP T H' (us ++ [u]) (ds ++ [c]) (fun j => if j = us.length then N else G j) ∧ ∀ j, (us ++ [u]).length ≤ j → ∀ b, (fun j => if j = us.length then N else G j) j b = none := by
  obtain ⟨h1, h2, h3, h4⟩ := h
  refine ⟨⟨by rw [List.length_append, List.length_append, h1]; rfl, fun i u' c' e1 e2 => ?_, fun i => ?_, fun i j hij b => ?_⟩, fun j hj b => ?_⟩
  · dsimp only
    by_cases hi : i = us.length
    · subst hi
      rw [if_pos rfl]
      rw [List.getElem?_append_right (Nat.le_refl _), Nat.sub_self] at e1
      rw [h1, List.getElem?_append_right (Nat.le_refl _), Nat.sub_self] at e2
      cases e1
      cases e2
      exact hT
    · rw [if_neg hi]
      have hi2 : i < us.length := by
        have := (List.getElem?_eq_some_iff.mp e1).1
        rw [List.length_append, List.length_singleton] at this
        omega
      rw [List.getElem?_append_left hi2] at e1
      rw [List.getElem?_append_left (by omega)] at e2
      exact h2 i u' c' e1 e2
  · dsimp only
    split
    · exact hN
    · exact hs i
  · dsimp only
    by_cases hi : i = us.length
    · rw [if_pos hi, if_neg (fun z => hij (hi.trans z.symm))]
      exact hd j b
    · rw [if_neg hi]
      by_cases hj : j = us.length
      · rw [if_pos hj]
        exact (hd i b).symm
      · rw [if_neg hj]
        exact h4 i j hij b
  · rw [List.length_append, List.length_singleton] at hj
    dsimp only
    rw [if_neg (by omega)]
    exact he j (by omega) b
theorem trs_nil {T : Hp → V → D → Prop} {H : Hp} : TrsP T H [] [] (fun _ _ => none) := by
  refine ⟨rfl, ?_, ?_, ?_⟩
  · intro i u c z
    simp at z
  · intro i b o z
    cases z
  · intro i j _ b
    exact .inl rfl
theorem dc_list {K : PySem.W.Frag} {a : Addr} {xs : List V} {g : TG} {tt : TT} {tk tv : TE} {vs : List Nat} {σ : L2.St} {H1 : Hp} {D : Addr} {Qd : Hp → Prop} (Pv : Nat → Hp → Prop) (h0 : Pv 0 (upd H1 D (.dK []))) (hl : ∀ i H, i ≤ xs.length → Pv i H → SqL K H a xs)
    (hs : ∀ i x H, xs[i]? = some x → Pv i H → g x (wipe σ vs) H fun σ2 H2 => wipe σ2 vs = wipe σ vs ∧ tt σ2 H2 fun b H3 =>
      if b = true then tk σ2 H3 fun y H4 => tv σ2 H4 fun z H5 => ∃ kvs k, y = kV k ∧ H5 D = some (.dK kvs) ∧ kvs.length < sizeLine ∧ Pv (i + 1) (upd H5 D (.dK (putK kvs k z))) else Pv (i + 1) H3) (hd : ∀ H, Pv xs.length H → Qd H) :
    ∃ W : Nat → Nat → Hp → Prop, (∃ m, W 0 m (upd H1 D (.dK []))) ∧ ∀ i m H, W i m H →
      ((Itl K a).stop i H ∧ Qd H) ∨ ((Itl K a).go i H ∧ ∃ Nx : Hp → Prop, (∀ H', Nx H' → ∃ m', m' < m ∧ W (i + 1) m' H') ∧ ∀ x H', (Itl K a).yld i H x H' → g x (wipe σ vs) H' fun σ2 H2 => wipe σ2 vs = wipe σ vs ∧ tt σ2 H2 fun b H3 =>
        if b = true then tk σ2 H3 fun y H4 => tv σ2 H4 fun z H5 => ∃ kvs k, y = kV k ∧ H5 D = some (.dK kvs) ∧ kvs.length < sizeLine ∧ Nx (upd H5 D (.dK (putK kvs k z))) else Nx H3) := by
  refine ⟨fun i m H => m = xs.length - i ∧ i ≤ xs.length ∧ Pv i H, ⟨xs.length, by simp, Nat.zero_le _, h0⟩, ?_⟩
  rintro i m H ⟨rfl, hi, p⟩
  have q := hl i H hi p
  by_cases hlt : i < xs.length
  · refine .inr ⟨⟨xs, xs[i], q, by simp [hlt]⟩, Pv (i + 1), fun H' p' => ⟨xs.length - (i + 1), by omega, rfl, hlt, p'⟩, fun x H' y => ?_⟩
    obtain ⟨e, y⟩ := y
    subst e
    exact hs i x _ (y xs q) p
  · have e : i = xs.length := by omega
    subst e
    exact .inl ⟨⟨xs, q, Nat.le_refl _⟩, hd H p⟩
theorem kv_snoc {ks : List Str} {us : List V} {i : Nat} {k : Str} {v : V} (hk : ks[i]? = some k) (hl : us.length = i) : kvOf (ks.take (i + 1)) (us ++ [v]) = kvOf (ks.take i) us ++ [(Sum.inr k, v)] := by
  have hi : i < ks.length := by
    rcases Nat.lt_or_ge i ks.length with z | z
    · exact z
    · rw [List.getElem?_eq_none z] at hk
      cases hk
  unfold kvOf
  rw [List.take_add_one, hk, Option.toList_some, List.zip_append (by rw [List.length_take, hl]; omega), List.map_append]
  rfl
theorem kv_fresh {ks : List Str} {us : List V} {i : Nat} {k : Str} (nd : ks.Nodup) (hk : ks[i]? = some k) (hl : us.length = i) : (Sum.inr k : Key) ∉ (kvOf (ks.take i) us).map (·.1) := by
  have hi : i < ks.length := by
    rcases Nat.lt_or_ge i ks.length with z | z
    · exact z
    · rw [List.getElem?_eq_none z] at hk
      cases hk
  rw [kv_keys (by rw [List.length_take, hl]; omega)]
  intro z
  obtain ⟨k', h1, h2⟩ := List.mem_map.mp z
  obtain rfl : k' = k := Sum.inr.inj h2
  obtain ⟨j, hj, e⟩ := List.mem_take_iff_getElem.mp h1
  have e2 : ks[i] = k' := by
    rw [List.getElem?_eq_getElem hi] at hk
    exact Option.some.inj hk
  have hj' : j < i := by omega
  exact absurd ((List.getElem_inj nd).mp (e.trans e2.symm)) (by omega)
abbrev NC : List Str := ["datum", "part", "key"]
def spCopied (j : Nat) : Sp := fun vs H Q _ => ∃ (v : V) (n : Nat) (d : D), n < j ∧ vs = [v] ∧ Da n H v d ∧ ∀ H' v', Same H H' → Tr n (newH H H') v' (canon n d) → Q v' H'
theorem tr_leaf {n : Nat} {H H' : Hp} {v : V} {d : D} (h : Da n H v d) (hp : place d < 5) : Tr n H' v (canon n d) := by
  have e : canon n d = d := by
    rcases leaf_or d with ⟨_, z, _⟩ | z
    · exact z n
    · omega
  rw [e]
  have h' : Da n H' v d := by
    cases d with
    | lst ds => simp [place] at hp
    | dct ks ds => simp [place] at hp
    | _ => cases n <;> simpa only [Da] using h
  cases n with
  | zero => exact h'
  | succ n => exact ⟨h', fun z => by omega⟩
section
variable {P : Program} {w : World} {K : PySem.W.Frag} {mg : Str → Option Value} {base : Heap}
theorem scCo : FnScope NC ["datum"] (defScope sCopied) := ⟨rfl, rfl, rfl, by decide +kernel, rfl, by decide +kernel, by decide +kernel⟩
theorem ok_copied {f : Addr} {fd : FuncData} (F : Fun K "copied" "copied" sCopied f fd) (mF : mg "copied" = some (.ref f)) (kF : PySem.W.keepIn K (.ref f) = true) (bF : Binds K fd ["datum"] []) (mI : mg "isinstance" = none) (mL : mg "list" = none) (mD : mg "dict" = none) (mS : mg "sorted" = none) :
    ∀ j : Nat, FnOk P w K mg base CX0 (j + 3) f fd ["datum"] (spCopied j) := by
  intro j
  induction j with
  | zero => exact F.ok (k := 2) scCo (fun vs H Q E h => by obtain ⟨v, n, d, h0, _⟩ := h; exact absurd h0 (Nat.not_lt_zero _)) (fun cdv A outer s H vs Q E hr h => by obtain ⟨v, n, d, h0, _⟩ := h; exact absurd h0 (Nat.not_lt_zero _))
  | succ j ih =>
    refine F.ok (k := j + 3) scCo (fun vs H Q E h => ?_) (fun cdv A outer s H vs Q E hr h => ?_)
    · obtain ⟨v, n, d, _, rfl, _⟩ := h
      rfl
    · obtain ⟨v, n, d, hnj, rfl, hd, q⟩ := h
      have hu := hu_of hr
      refine ⟨_, pss_cons (ps_if (pt_val (pe_callB call_isi (by rfl) mI PyProof.Rows.boot_isinstance (pa_cons (pv 0) (pa_cons (pe_bltn (v := .ty "list") (by rfl) mL (by decide +kernel) rfl) pa_nil))))
          (pss_one (ps_ret (pe_lc (own := [("part", 1)]) (g := gName 1) (by rfl) scCo.nd (pi_list (pv 0))
            (blkOk_by (own := [("part", 1)]) (N := NC) (sc := defScope sCopied) (by decide +kernel)) (fun _ _ _ _ _ => pg_name (i := 1) scCo.nd rfl (Or.inl rfl)) (fun _ _ _ _ _ => pts_nil)
            (fun _ _ _ _ _ => pe_call ih hr (by rfl) mF kF bF .nil pass0 (pa_cons (pv 1) pa_nil))))) pss_nil)
        (pss_cons (ps_if (pt_val (pe_callB call_isi (by rfl) mI PyProof.Rows.boot_isinstance (pa_cons (pv 0) (pa_cons (pe_bltn (v := .ty "dict") (by rfl) mD (by decide +kernel) rfl) pa_nil))))
          (pss_one (ps_ret (pe_dc (own := [("key", 2)]) (g := gName 2) (by rfl) scCo.nd (pi_list (pe_callB (call_sortedD rfl) (by rfl) mS (by decide +kernel) (pa_cons (pv 0) pa_nil)))
            (blkOk_by (own := [("key", 2)]) (N := NC) (sc := defScope sCopied) (by decide +kernel)) (fun _ _ _ _ _ => pg_name (i := 2) scCo.nd rfl (Or.inl rfl)) (fun _ _ _ _ _ => pts_nil)
            (fun _ _ _ _ _ => pv 2) (fun _ _ _ _ _ => pe_call ih hr (by rfl) mF kF bF .nil pass0 (pa_cons (pe_dget hu (pv 0) (pv 2) (fun _ _ => rfl)) pa_nil))))) pss_nil)
        (pss_one (ps_ret (pv 0)))), ?_⟩
      have s0 : Same H H := fun _ _ z => z
      cases d with
      | non =>
        have ty : TyX K H v (.type "NoneType") := ty_of hd
        exact ⟨_, rfl, _, _, _, _, false, rfl, .ty _, ty, kit_ty (by decide +kernel), _, rfl, iteF ⟨_, rfl, _, _, _, _, false, rfl, .ty _, ty, kit_ty (by decide +kernel), _, rfl, iteF ⟨_, rfl, q H v s0 (tr_leaf hd (by decide))⟩⟩⟩
      | bl b =>
        have ty : TyX K H v (.type "bool") := ty_of hd
        exact ⟨_, rfl, _, _, _, _, false, rfl, .ty _, ty, kit_ty (by decide +kernel), _, rfl, iteF ⟨_, rfl, _, _, _, _, false, rfl, .ty _, ty, kit_ty (by decide +kernel), _, rfl, iteF ⟨_, rfl, q H v s0 (tr_leaf hd (by cases b <;> decide))⟩⟩⟩
      | int i =>
        have ty : TyX K H v (.type "int") := ty_of hd
        exact ⟨_, rfl, _, _, _, _, false, rfl, .ty _, ty, kit_ty (by decide +kernel), _, rfl, iteF ⟨_, rfl, _, _, _, _, false, rfl, .ty _, ty, kit_ty (by decide +kernel), _, rfl, iteF ⟨_, rfl, q H v s0 (tr_leaf hd (by simp [place]))⟩⟩⟩
      | str x =>
        have ty : TyX K H v (.type "str") := ty_of hd
        exact ⟨_, rfl, _, _, _, _, false, rfl, .ty _, ty, kit_ty (by decide +kernel), _, rfl, iteF ⟨_, rfl, _, _, _, _, false, rfl, .ty _, ty, kit_ty (by decide +kernel), _, rfl, iteF ⟨_, rfl, q H v s0 (tr_leaf hd (by simp [place]))⟩⟩⟩
      | lst ds =>
        have ty : TyX K H v (.type "list") := ty_of hd
        cases n with
        | zero => simp only [Da] at hd
        | succ k =>
          simp only [Da] at hd
          obtain ⟨a, xs, rfl, h2, h3, h4⟩ := hd
          have lxs : xs.length = ds.length := Paired.length h4
          refine ⟨_, rfl, _, _, _, _, true, rfl, .ty _, ty, kit_ty (by decide +kernel), _, rfl, iteT ⟨_, rfl, a, rfl, ⟨_, SqL.of h2⟩, fun D nD => ?_⟩⟩
          have naD : a ≠ D := ne_of_none h2 nD
          obtain ⟨B, hB⟩ : ∃ B, upd H D (.lst []) = B := ⟨_, rfl⟩
          have hBD : B D = some (.lst []) := by rw [← hB]; exact upd_same
          refine lc_list (K := K) (a := a) (xs := xs) (fun i H' => ∃ (acc : List V) (G : Nat → Hp), H' D = some (.lst acc) ∧ acc.length = i ∧ Same H H' ∧ Dom B H' ∧ TrsP (Tr k) (newH B H') acc ((ds.take i).map (canon k)) G ∧ ∀ j, acc.length ≤ j → ∀ b, G j b = none)
            ⟨[], fun _ _ => none, upd_same, rfl, same_new s0 nD, by rw [hB]; exact Dom.refl, trs_nil, fun _ _ _ => rfl⟩ ?_ ?_ ?_
          · rintro i H' _ ⟨acc, G, _, _, s3, _⟩
            exact SqL.of (s3 _ _ h2)
          · rintro i x H3 hx ⟨acc, G, hD3, lacc, s3, dom3, pr, pe⟩
            obtain ⟨dx, hdx, rx⟩ := paired_get h4 i x hx
            have hi : i < xs.length := by
              rcases Nat.lt_or_ge i xs.length with z | z
              · exact z
              · rw [List.getElem?_eq_none z] at hx
                cases hx
            refine ⟨rfl, _, rfl, x, k, dx, by omega, rfl, rx.mono s3 (Nat.le_refl _), fun H4 v s4 q4 => ?_⟩
            have hD4 : H4 D = some (.lst acc) := s4 _ _ hD3
            have keepD : ∀ b o, H3 b = none → H4 b = some o → (upd H4 D (.lst (acc ++ [v]))) b = some o := fun b o h1 h2 => by
              rw [upd_ne (fun z => by rw [z, hD3] at h1; cases h1)]
              exact h2
            have up3 : Same (newH B H3) (newH B (upd H4 D (.lst (acc ++ [v])))) := new_le Dom.refl fun b o h1 h2 => by
              have hbD : b ≠ D := fun z => by rw [z, hBD] at h1; cases h1
              rw [upd_ne hbD]
              exact s4 _ _ h2
            obtain ⟨p1, p2⟩ := trs_push (H' := newH B (upd H4 D (.lst (acc ++ [v])))) pr pe (fun j => (pr.2.2.1 j).trans up3) q4 (new_le dom3 keepD) (fun j b => by
              cases hN : newH H3 H4 b with
              | none => exact .inl rfl
              | some o =>
                refine .inr ?_
                cases hG : G j b with
                | none => rfl
                | some o2 =>
                  have h1 := (newH_some.mp hN).1
                  have h2 := (newH_some.mp (pr.2.2.1 j _ _ hG)).2
                  rw [h1] at h2
                  cases h2)
            refine ⟨acc, hD4, small1000 (by omega), acc ++ [v], _, upd_same, by rw [List.length_append, lacc]; rfl, ?_, ?_, ?_, p2⟩
            · intro b o ho
              rw [upd_ne (ne_of_none ho nD)]
              exact s4 _ _ (s3 _ _ ho)
            · exact Dom.upd (dom3.trans (Dom.same s4))
            · rw [List.take_add_one, hdx, Option.toList_some, List.map_append]
              exact p1
          · rintro H3 ⟨acc, G, hD3, lacc, s3, dom3, pr, pe⟩
            rw [lxs, List.take_length] at pr
            have up : Same (newH B H3) (newH H H3) := new_le (by rw [← hB]; exact Dom.upd Dom.refl) fun b o _ h => h
            have hDn : newH H H3 D = some (.lst acc) := newH_some.mpr ⟨nD, hD3⟩
            have pr' : TrsP (Tr k) (newH H H3) acc (ds.map (canon k)) G := ⟨pr.1, pr.2.1, fun i => (pr.2.2.1 i).trans up, pr.2.2.2⟩
            refine q H3 (.ref D) s3 ⟨?_, fun _ => ⟨D, acc, G, rfl, hDn, pr', fun i => ?_⟩⟩
            · show Da (k + 1) _ _ (.lst (ds.map (canon k)))
              simp only [Da]
              refine ⟨D, acc, rfl, hDn, by omega, paired_of pr.1 fun i u c h1 h2 => (pr.2.1 i u c h1 h2).da.mono (pr'.2.2.1 i) (Nat.le_refl _)⟩
            · cases hG : G i D with
              | none => rfl
              | some o =>
                have := (newH_some.mp (pr.2.2.1 i _ _ hG)).1
                rw [hBD] at this
                cases this
      | dct ks ds =>
        have ty : TyX K H v (.type "dict") := ty_of hd
        cases n with
        | zero => simp only [Da] at hd
        | succ k =>
          simp only [Da] at hd
          obtain ⟨a, us0, rfl, h2, h3, h4, h5, h6, h7⟩ := hd
          refine ⟨_, rfl, _, _, _, _, false, rfl, .ty _, ty, kit_ty (by decide +kernel), _, rfl, iteF ⟨_, rfl, _, _, _, _, true, rfl, .ty _, ty, kit_ty (by decide +kernel), _, rfl, iteT ⟨_, rfl, a, _, ks, rfl, .inl h2, kv_keys h4, by omega, fun ys S p1 p2 nS => ?_⟩⟩⟩
          obtain rfl : ys = skeys ks := skeys_uniq p1 p2
          have lys := skeys_len ks
          have ndy := skeys_nodup h5
          have lin := inner_dlen ks ds
          have lk := look_at h7 h4
          have sS : Same H (upd H S (.lst ((skeys ks).map V.str))) := same_new s0 nS
          generalize hHS : upd H S (.lst ((skeys ks).map V.str)) = HS at sS ⊢
          have hS : HS S = some (.lst ((skeys ks).map V.str)) := by rw [← hHS]; exact upd_same
          refine ⟨S, rfl, ⟨_, SqL.of hS⟩, fun D nD => ?_⟩
          have domD : Dom H (upd HS D (.dK [])) := Dom.upd (Dom.same sS)
          obtain ⟨B, hB⟩ : ∃ B, upd HS D (.dK []) = B := ⟨_, rfl⟩
          rw [hB] at domD
          have hBD : B D = some (.dK []) := by rw [← hB]; exact upd_same
          refine dc_list (K := K) (a := S) (xs := (skeys ks).map V.str) (fun i H' => ∃ (us : List V) (G : Nat → Hp), H' D = some (.dK (kvOf ((skeys ks).take i) us)) ∧ us.length = i ∧ Same HS H' ∧ Dom B H' ∧ TrsP (Tr k) (newH B H') us (((inner (.dct ks ds)).take i).map (canon k)) G ∧ ∀ j, us.length ≤ j → ∀ b, G j b = none)
            ⟨[], fun _ _ => none, upd_same, rfl, same_new (fun _ _ z => z) nD, by rw [hB]; exact Dom.refl, trs_nil, fun _ _ _ => rfl⟩ ?_ ?_ ?_
          · rintro i H' _ ⟨us, G, _, _, s4, _⟩
            exact SqL.of (s4 _ _ hS)
          · rintro i x H4 hx ⟨us, G, hD4, lus, s4, dom4, pr, pe⟩
            obtain ⟨key, hk1, rfl⟩ : ∃ key, (skeys ks)[i]? = some key ∧ V.str key = x := by simpa using hx
            have hi : i < (skeys ks).length := by
              rcases Nat.lt_or_ge i (skeys ks).length with z | z
              · exact z
              · rw [List.getElem?_eq_none z] at hk1
                cases hk1
            obtain ⟨u0, e1, e2⟩ := lk key ((skeys_perm ks).mem_iff.mp (List.mem_of_getElem? hk1))
            have hdi : (inner (.dct ks ds))[i]? = some (look ks ds key) := by
              show ((skeys ks).map (look ks ds))[i]? = _
              rw [List.getElem?_map, hk1]
              rfl
            have dg : DGet H4 a (.str key) (some u0) := by
              have z := DGet.k (k := Sum.inr key) (s4 _ _ (sS _ _ h2))
              rw [e1] at z
              exact z
            refine ⟨rfl, _, rfl, _, rfl, _, rfl, a, u0, rfl, dg, u0, k, _, by omega, rfl, e2.mono (sS.trans s4) (Nat.le_refl _), fun H5 v s5 q5 => ?_⟩
            have hD5 : H5 D = some (.dK (kvOf ((skeys ks).take i) us)) := s5 _ _ hD4
            have keepD : ∀ (w' : HO) b o, H4 b = none → H5 b = some o → (upd H5 D w') b = some o := fun w' b o h1 h2 => by
              rw [upd_ne (fun z => by rw [z, hD4] at h1; cases h1)]
              exact h2
            have up4 : ∀ w' : HO, Same (newH B H4) (newH B (upd H5 D w')) := fun w' => new_le Dom.refl fun b o h1 h2 => by
              have hbD : b ≠ D := fun z => by rw [z, hBD] at h1; cases h1
              rw [upd_ne hbD]
              exact s5 _ _ h2
            obtain ⟨p1, p2⟩ := trs_push (H' := newH B (upd H5 D (.dK (putK (kvOf ((skeys ks).take i) us) (Sum.inr key) v)))) pr pe (fun j => (pr.2.2.1 j).trans (up4 _)) q5 (new_le dom4 (keepD _)) (fun j b => by
              cases hN : newH H4 H5 b with
              | none => exact .inl rfl
              | some o =>
                refine .inr ?_
                cases hG : G j b with
                | none => rfl
                | some o2 =>
                  have h1 := (newH_some.mp hN).1
                  have h2 := (newH_some.mp (pr.2.2.1 j _ _ hG)).2
                  rw [h1] at h2
                  cases h2)
            refine ⟨_, Sum.inr key, rfl, hD5, small1000 (by unfold kvOf; rw [List.length_map, List.length_zip]; omega), us ++ [v], _, ?_, by rw [List.length_append, lus]; rfl, ?_, ?_, ?_, p2⟩
            · rw [upd_same, kv_snoc hk1 lus, nodup_fst_put (kv_fresh ndy hk1 lus)]
            · intro b o ho
              rw [upd_ne (ne_of_none ho nD)]
              exact s5 _ _ (s4 _ _ ho)
            · exact Dom.upd (dom4.trans (Dom.same s5))
            · rw [List.take_add_one, hdi, Option.toList_some, List.map_append]
              exact p1
          · rintro H4 ⟨us, G, hD4, lus, s4, dom4, pr, pe⟩
            rw [List.length_map] at lus hD4 pr
            rw [List.take_length] at hD4
            rw [← lin, List.take_length] at pr
            have up : Same (newH B H4) (newH H H4) := new_le domD fun b o _ h => h
            have hDn : newH H H4 D = some (.dK (kvOf (skeys ks) us)) := newH_some.mpr ⟨fresh_of sS nD, hD4⟩
            have pr' : TrsP (Tr k) (newH H H4) us ((inner (.dct ks ds)).map (canon k)) G := ⟨pr.1, pr.2.1, fun i => (pr.2.2.1 i).trans up, pr.2.2.2⟩
            have lm : (skeys ks).length = ((inner (.dct ks ds)).map (canon k)).length := by rw [List.length_map, lin]
            have hin : inner (.dct (skeys ks) ((inner (.dct ks ds)).map (canon k))) = (inner (.dct ks ds)).map (canon k) := inner_srt (skeys_idem ks) ndy lm
            refine q H4 (.ref D) (sS.trans s4) ⟨?_, fun _ => ⟨D, us, G, rfl, ⟨hDn, skeys_idem ks, ndy, lm⟩, ?_, fun i => ?_⟩⟩
            · show Da (k + 1) _ _ (.dct (skeys ks) ((inner (.dct ks ds)).map (canon k)))
              simp only [Da]
              refine ⟨D, us, rfl, hDn, by omega, lus, ndy, fun x hx => h6 x ((skeys_perm ks).mem_iff.mp hx), paired_of pr.1 fun i u c h1 h2 => (pr.2.1 i u c h1 h2).da.mono (pr'.2.2.1 i) (Nat.le_refl _)⟩
            · show TrsP (Tr k) (newH H H4) us (inner (.dct (skeys ks) ((inner (.dct ks ds)).map (canon k)))) G
              rw [hin]
              exact pr'
            · cases hG : G i D with
              | none => rfl
              | some o =>
                have := (newH_some.mp (pr.2.2.1 i _ _ hG)).1
                rw [hBD] at this
                cases this
end
end Toy


namespace Toy
open PySem PySem.Spec L2 PyProof.Rows PySem.W
abbrev sFound : Stmt := top 11
abbrev sHas : Stmt := top 12
/-! ### places: one step, and all of them -/
def stepH (H : Hp) (v x : V) : Option V := match v with
  | .ref a => match H a with
    | some (.lst xs) => (match x with
      | .int i => if 0 ≤ i then xs[i.toNat]? else none
      | _ => none)
    | some (.dK m) => (match x with
      | .str k => valV m (Sum.inr k)
      | _ => none)
    | _ => none
  | _ => none
def walkH (H : Hp) : V → List V → Option V
  | v, [] => some v
  | v, x :: ts => match stepH H v x with
    | some u => walkH H u ts
    | none => none
theorem stepH_lst {H : Hp} {a : Addr} {xs : List V} {i : Int} (h : H a = some (.lst xs)) : stepH H (.ref a) (.int i) = if 0 ≤ i then xs[i.toNat]? else none := by
  unfold stepH
  simp only [h]
theorem stepH_dct {H : Hp} {a : Addr} {m : List (Key × V)} {k : Str} (h : H a = some (.dK m)) : stepH H (.ref a) (.str k) = valV m (Sum.inr k) := by
  unfold stepH
  simp only [h]
/-- what a step is -/
theorem stepH_cases {H : Hp} {v x u : V} (h : stepH H v x = some u) : (∃ b xs i, v = .ref b ∧ x = .int ((i : Nat) : Int) ∧ H b = some (.lst xs) ∧ xs[i]? = some u) ∨ (∃ b m k, v = .ref b ∧ x = .str k ∧ H b = some (.dK m) ∧ valV m (Sum.inr k) = some u) := by
  unfold stepH at h
  cases v with
  | ref a =>
    dsimp only at h
    cases ha : H a with
    | none => rw [ha] at h; cases h
    | some o =>
      rw [ha] at h
      cases o with
      | lst xs =>
        cases x with
        | int i =>
          dsimp only at h
          by_cases h0 : 0 ≤ i
          · rw [if_pos h0] at h
            exact .inl ⟨a, xs, i.toNat, rfl, by rw [Int.toNat_of_nonneg h0], ha, h⟩
          · rw [if_neg h0] at h
            cases h
        | _ => cases h
      | dK m =>
        cases x with
        | str k => exact .inr ⟨a, m, k, rfl, rfl, ha, h⟩
        | _ => cases h
      | _ => cases h
  | _ => cases h
theorem stepH_up {H H' : Hp} (s : Same H H') {v x u : V} (h : stepH H v x = some u) : stepH H' v x = some u := by
  rcases stepH_cases h with ⟨b, xs, i, rfl, rfl, h1, h2⟩ | ⟨b, m, k, rfl, rfl, h1, h2⟩
  · rw [stepH_lst (s _ _ h1), if_pos (by omega)]
    exact h2
  · rw [stepH_dct (s _ _ h1)]
    exact h2
theorem da_leaf_ref {n : Nat} {H : Hp} {v : V} {d : D} (h : Da n H v d) (hp : place d < 5) : ∀ a, v ≠ .ref a := by
  intro a e
  subst e
  cases d with
  | lst ds => simp [place] at hp
  | dct ks ds => simp [place] at hp
  | _ => cases n <;> simp [Da] at h
theorem stepH_same {n : Nat} {H H' : Hp} {v x : V} {d : D} (h : Da n H v d) (s : Same H H') : stepH H' v x = stepH H v x := by
  have key : ∀ a o, v = .ref a → H a = some o → stepH H' v x = stepH H v x := fun a o e1 e2 => by
    subst e1
    unfold stepH
    simp only [e2, s _ _ e2]
  cases v with
  | ref a =>
    cases d with
    | lst ds =>
      cases n with
      | zero => simp only [Da] at h
      | succ n =>
        simp only [Da] at h
        obtain ⟨a, xs, e, h2, _⟩ := h
        exact key _ _ e h2
    | dct ks ds =>
      cases n with
      | zero => simp only [Da] at h
      | succ n =>
        simp only [Da] at h
        obtain ⟨a, us, e, h2, _⟩ := h
        exact key _ _ e h2
    | bl b => exact absurd rfl (da_leaf_ref h (by cases b <;> decide) a)
    | _ => exact absurd rfl (da_leaf_ref h (by simp [place]) a)
  | _ => rfl
theorem valV_mem {k : Str} {u : V} : ∀ {ks : List Str} {us : List V}, valV (kvOf ks us) (Sum.inr k) = some u → k ∈ ks
  | [], us, h => by simp [kvOf, valV] at h
  | k' :: ks, [], h => by simp [kvOf, valV] at h
  | k' :: ks, u' :: us, h => by
    have e : kvOf (k' :: ks) (u' :: us) = (Sum.inr k', u') :: kvOf ks us := rfl
    rw [e] at h
    by_cases hk : k' = k
    · rw [hk]; exact List.mem_cons_self
    · rw [valV_neg (fun z => hk (Sum.inr.inj z))] at h
      exact List.mem_cons_of_mem _ (valV_mem h)
theorem step_da {n : Nat} {H : Hp} {v x u : V} {d : D} (h : Da n H v d) (hs : stepH H v x = some u) : ∃ (m i : Nat) (c : D), n = m + 1 ∧ (stepsV d)[i]? = some x ∧ (inner d)[i]? = some c ∧ Da m H u c := by
  rcases stepH_cases hs with ⟨b, xs, i, rfl, rfl, h1, h2⟩ | ⟨b, m, k, rfl, rfl, h1, h2⟩
  · cases d with
    | lst ds =>
      cases n with
      | zero => simp only [Da] at h
      | succ n =>
        simp only [Da] at h
        obtain ⟨a, ys, e, g2, g3, g4⟩ := h
        cases e
        rw [h1] at g2
        cases g2
        obtain ⟨c, hc, hd⟩ := paired_get g4 i u h2
        have hi := (List.getElem?_eq_some_iff.mp hc).1
        refine ⟨n, i, c, rfl, ?_, hc, hd⟩
        simp only [stepsV, List.getElem?_map, List.getElem?_range hi]
        rfl
    | dct ks ds =>
      cases n with
      | zero => simp only [Da] at h
      | succ n =>
        simp only [Da] at h
        obtain ⟨a, us, e, g2, _⟩ := h
        cases e
        rw [h1] at g2
        cases g2
    | bl b => exact absurd rfl (da_leaf_ref h (by cases b <;> decide) _)
    | _ => exact absurd rfl (da_leaf_ref h (by simp [place]) _)
  · cases d with
    | lst ds =>
      cases n with
      | zero => simp only [Da] at h
      | succ n =>
        simp only [Da] at h
        obtain ⟨a, ys, e, g2, _⟩ := h
        cases e
        rw [h1] at g2
        cases g2
    | dct ks ds =>
      cases n with
      | zero => simp only [Da] at h
      | succ n =>
        simp only [Da] at h
        obtain ⟨a, us, e, g2, g3, g4, g5, g6, g7⟩ := h
        cases e
        rw [h1] at g2
        have g2' : m = kvOf ks us := HO.dK.inj (Option.some.inj g2)
        subst g2'
        have mk := valV_mem h2
        obtain ⟨u', e1, e2⟩ := look_at g7 g4 k mk
        rw [h2] at e1
        cases e1
        obtain ⟨i, hi⟩ := List.getElem?_of_mem ((skeys_perm ks).mem_iff.mpr mk)
        refine ⟨n, i, look ks ds k, rfl, ?_, ?_, e2⟩
        · simp only [stepsV, List.getElem?_map, hi]
          rfl
        · show ((skeys ks).map (look ks ds))[i]? = _
          rw [List.getElem?_map, hi]
          rfl
    | bl b => exact absurd rfl (da_leaf_ref h (by cases b <;> decide) _)
    | _ => exact absurd rfl (da_leaf_ref h (by simp [place]) _)
theorem da_step {n : Nat} {H : Hp} {v x : V} {d c : D} {i : Nat} (h : Da n H v d) (hx : (stepsV d)[i]? = some x) (hc : (inner d)[i]? = some c) : ∃ m u, n = m + 1 ∧ stepH H v x = some u ∧ Da m H u c := by
  cases d with
  | lst ds =>
    cases n with
    | zero => simp only [Da] at h
    | succ n =>
      simp only [Da] at h
      obtain ⟨a, ys, rfl, g2, g3, g4⟩ := h
      have hi : i < ds.length := (List.getElem?_eq_some_iff.mp hc).1
      have lx := Paired.length g4
      have ex : x = .int ((i : Nat) : Int) := by
        simp only [stepsV, List.getElem?_map, List.getElem?_range hi] at hx
        exact (Option.some.inj hx).symm
      subst ex
      have hy : ys[i]? = some ys[i] := List.getElem?_eq_getElem (by omega)
      obtain ⟨c', e1, e2⟩ := paired_get g4 i _ hy
      obtain rfl : c' = c := by
        rw [show (inner (D.lst ds))[i]? = ds[i]? from rfl, e1] at hc
        exact Option.some.inj hc
      refine ⟨n, ys[i], rfl, ?_, e2⟩
      rw [stepH_lst g2, if_pos (by omega)]
      exact hy
  | dct ks ds =>
    cases n with
    | zero => simp only [Da] at h
    | succ n =>
      simp only [Da] at h
      obtain ⟨a, us, rfl, g2, g3, g4, g5, g6, g7⟩ := h
      obtain ⟨key, hk, rfl⟩ : ∃ key, (skeys ks)[i]? = some key ∧ V.str key = x := by simpa [stepsV] using hx
      have mk : key ∈ ks := (skeys_perm ks).mem_iff.mp (List.mem_of_getElem? hk)
      obtain ⟨u', e1, e2⟩ := look_at g7 g4 key mk
      have : c = look ks ds key := by
        have z : ((skeys ks).map (look ks ds))[i]? = some c := hc
        rw [List.getElem?_map, hk] at z
        exact (Option.some.inj z).symm
      subst this
      exact ⟨n, u', rfl, by rw [stepH_dct g2]; exact e1, e2⟩
  | _ => simp [stepsV] at hx
theorem walk_same : ∀ {ts : List V} {n : Nat} {H H' : Hp} {v : V} {d : D}, Da n H v d → Same H H' → walkH H' v ts = walkH H v ts
  | [], n, H, H', v, d, _, _ => rfl
  | x :: ts, n, H, H', v, d, h, s => by
    rw [walkH, walkH, stepH_same h s]
    cases hs : stepH H v x with
    | none => rfl
    | some u =>
      obtain ⟨m, i, c, _, _, _, hd⟩ := step_da h hs
      exact walk_same hd s
theorem walk_up : ∀ {ts : List V} {H H' : Hp} {v u : V}, Same H H' → walkH H v ts = some u → walkH H' v ts = some u
  | [], H, H', v, u, _, h => h
  | x :: ts, H, H', v, u, s, h => by
    rw [walkH] at h ⊢
    cases hs : stepH H v x with
    | none => rw [hs] at h; cases h
    | some y =>
      rw [hs] at h
      rw [stepH_up s hs]
      exact walk_up s h
theorem walk_da : ∀ {ts : List V} {n : Nat} {H : Hp} {v u : V} {d : D}, Da n H v d → walkH H v ts = some u → ∃ is c m, sub is d = some c ∧ ts = pth is d ∧ m + is.length = n ∧ Da m H u c
  | [], n, H, v, u, d, h, hw => by
    cases hw
    exact ⟨[], d, n, rfl, rfl, rfl, h⟩
  | x :: ts, n, H, v, u, d, h, hw => by
    rw [walkH] at hw
    cases hs : stepH H v x with
    | none => rw [hs] at hw; cases hw
    | some y =>
      rw [hs] at hw
      obtain ⟨m, i, c, rfl, hx, hc, hd⟩ := step_da h hs
      obtain ⟨is, c', m', e1, e2, e3, e4⟩ := walk_da hd hw
      refine ⟨i :: is, c', m', ?_, ?_, by rw [List.length_cons]; omega, e4⟩
      · rw [sub, hc]
        exact e1
      · rw [pth, hx, hc]
        dsimp only
        rw [← e2]
theorem da_walk : ∀ {is : List Nat} {n : Nat} {H : Hp} {v : V} {d c : D}, Da n H v d → sub is d = some c → ∃ u m, walkH H v (pth is d) = some u ∧ m + is.length = n ∧ Da m H u c
  | [], n, H, v, d, c, h, hs => by
    cases hs
    exact ⟨v, n, rfl, rfl, h⟩
  | i :: is, n, H, v, d, c, h, hs => by
    rw [sub] at hs
    cases hc : (inner d)[i]? with
    | none => rw [hc] at hs; cases hs
    | some b =>
      rw [hc] at hs
      obtain ⟨x, hx⟩ := step_of hc
      obtain ⟨m, u, rfl, e1, e2⟩ := da_step h hx hc
      obtain ⟨w, m', g1, g2, g3⟩ := da_walk e2 hs
      refine ⟨w, m', ?_, by rw [List.length_cons]; omega, g3⟩
      rw [pth, hx, hc]
      dsimp only
      rw [walkH, e1]
      exact g1
theorem walk_snoc : ∀ {ts : List V} {H : Hp} {v u : V} (x : V), walkH H v ts = some u → walkH H v (ts ++ [x]) = stepH H u x
  | [], H, v, u, x, h => by
    cases h
    rw [List.nil_append, walkH]
    cases stepH H v x <;> rfl
  | y :: ts, H, v, u, x, h => by
    rw [walkH] at h
    rw [List.cons_append, walkH]
    cases hs : stepH H v y with
    | none => rw [hs] at h; cases h
    | some z =>
      rw [hs] at h
      exact walk_snoc x h
theorem walk_none : ∀ {ts : List V} {H : Hp} {v : V} (us : List V), walkH H v ts = none → walkH H v (ts ++ us) = none
  | [], H, v, us, h => by cases h
  | y :: ts, H, v, us, h => by
    rw [walkH] at h
    rw [List.cons_append, walkH]
    cases hs : stepH H v y with
    | none => rfl
    | some z =>
      rw [hs] at h
      exact walk_none us h
theorem ty_str {K : PySem.W.Frag} {H : Hp} {v : V} {nm : String} (h : Ty K H v nm) : PySem.W.kitOne K (.type nm) (.type "str") = some (decide (nm = "str")) := by
  cases h <;> exact kit_ty (by decide +kernel)
theorem ty_isS {K : PySem.W.Frag} {H : Hp} {v : V} {nm : String} (h : Ty K H v nm) (e : nm = "str") : ∃ z, v = .str z := by
  cases h <;> first | exact ⟨_, rfl⟩ | exact absurd e (by decide)
theorem ty_isI {K : PySem.W.Frag} {H : Hp} {v : V} {nm : String} (h : Ty K H v nm) (e : nm = "int") : ∃ z, v = .int z := by
  cases h <;> first | exact ⟨_, rfl⟩ | exact absurd e (by decide)
theorem stepH_lst_no {K : PySem.W.Frag} {H : Hp} {a : Addr} {xs : List V} {x : V} {nm : String} (h : H a = some (.lst xs)) (hx : Ty K H x nm) (n : nm ≠ "int") : stepH H (.ref a) x = none := by
  unfold stepH
  simp only [h]
  cases hx <;> first | rfl | exact absurd rfl n
theorem stepH_dct_no {K : PySem.W.Frag} {H : Hp} {a : Addr} {m : List (Key × V)} {x : V} {nm : String} (h : H a = some (.dK m)) (hx : Ty K H x nm) (n : nm ≠ "str") : stepH H (.ref a) x = none := by
  unfold stepH
  simp only [h]
  cases hx <;> first | rfl | exact absurd rfl n
def spHas (K : PySem.W.Frag) : Sp := fun vs H Q _ => ∃ (v x : V) (n : Nat) (d : D) (nm : String), vs = [v, x] ∧ Da n H v d ∧ Ty K H x nm ∧ ∀ H', Same H H' → Q (.bl (stepH H v x).isSome) H'
/-- a place that is refused is raised -/
def Refuse (C : Addr) (sp : V) (H : Hp) (E : XK) : Prop := ∀ H' d, Same H H' → H' d = some (.xd [("place", sp)]) → E (.ref C) (some d) H'
theorem Refuse.up {C : Addr} {sp : V} {H H' : Hp} {E : XK} (h : Refuse C sp H E) (s : Same H H') : Refuse C sp H' E := fun H2 d s2 e => h H2 d (s.trans s2) e
/-- what is asked of a place -/
def PlA (K : PySem.W.Frag) (C : Addr) (v : V) (d : D) (sp : V) (H : Hp) (E : XK) (R : List Nat → D → Prop) : Prop :=
  ∃ nm : String, Ty K H sp nm ∧ ((nm ≠ "tuple" ∧ Refuse C sp H E) ∨ (nm = "tuple" ∧ ∃ (a : Addr) (ts : List V), sp = .ref a ∧ SqT K H a ts ∧ ts.length ≤ 900 ∧ (∀ u ∈ ts, ∃ k : String, Ty K H u k) ∧ ((∃ is c, sub is d = some c ∧ ts = pth is d ∧ R is c) ∨ (walkH H v ts = none ∧ Refuse C sp H E))))
theorem PlA.imp {K : PySem.W.Frag} {C : Addr} {v : V} {d : D} {sp : V} {H : Hp} {E : XK} {R R' : List Nat → D → Prop} (h : PlA K C v d sp H E R) (k : ∀ is c, is.length ≤ 900 → sub is d = some c → (∃ a, sp = .ref a ∧ SqT K H a (pth is d)) → R is c → R' is c) : PlA K C v d sp H E R' := by
  obtain ⟨nm, h1, h2⟩ := h
  refine ⟨nm, h1, h2.imp id fun ⟨e, a, ts, g1, g2, g3, g4, g5⟩ => ⟨e, a, ts, g1, g2, g3, g4, g5.imp (fun ⟨is, c, q1, q2, q3⟩ => ⟨is, c, q1, q2, k is c ?_ q1 ⟨a, g1, by rw [← q2]; exact g2⟩ q3⟩) id⟩⟩
  rw [q2, pth_len q1] at g3
  exact g3
def spFound (K : PySem.W.Frag) (C : Addr) : Sp := fun vs H Q E => ∃ (v sp : V) (n : Nat) (d : D), vs = [v, sp] ∧ Da n H v d ∧ PlA K C v d sp H E (fun is _ => ∀ H' u, Same H H' → walkH H v (pth is d) = some u → Q u H')
section
variable {P : Program} {w : World} {K : PySem.W.Frag} {mg : Str → Option Value} {base : Heap}
theorem scHa : FnScope ["datum", "step"] ["datum", "step"] (defScope sHas) := ⟨rfl, rfl, rfl, by decide +kernel, rfl, by decide +kernel, by decide +kernel⟩
theorem ok_has {f fI : Addr} {fd fdI : FuncData} (F : Fun K "has_step" "has_step" sHas f fd) (GI : FnOk P w K mg base CX0 1 fI fdI ["value"] (spIsI K)) (mG : mg "is_integer" = some (.ref fI)) (kG : PySem.W.keepIn K (.ref fI) = true) (bG : Binds K fdI ["value"] [])
    (mI : mg "isinstance" = none) (mL : mg "list" = none) (mD : mg "dict" = none) (mS : mg "str" = none) (mLen : mg "len" = none) : FnOk P w K mg base CX0 2 f fd ["datum", "step"] (spHas K) := by
  refine F.ok scHa (fun vs H Q E h => ?_) (fun cdv A outer s H vs Q E hr h => ?_)
  · obtain ⟨v, x, n, d, nm, rfl, _⟩ := h
    rfl
  · obtain ⟨v, x, n, d, nm, rfl, hd, hx, q⟩ := h
    have hu := hu_of hr
    have s0 : Same H H := fun _ _ z => z
    refine ⟨_, pss_cons (ps_if (pt_val (pe_callB call_isi (by rfl) mI PyProof.Rows.boot_isinstance (pa_cons (pv 0) (pa_cons (pe_bltn (v := .ty "list") (by rfl) mL (by decide +kernel) rfl) pa_nil))))
        (pss_one (ps_ret (pe_and (pe_call GI hr (by rfl) mG kG bG .nil pass0 (pa_cons (pv 1) pa_nil)) (pe_one (pe_chain op_le op_lt pe_int (pv 1) (pe_callB call_len_seq (by rfl) mLen PySem.boot_len (pa_cons (pv 0) pa_nil))))))) pss_nil)
      (pss_one (ps_ret (pe_and (pe_callB call_isi (by rfl) mI PyProof.Rows.boot_isinstance (pa_cons (pv 0) (pa_cons (pe_bltn (v := .ty "dict") (by rfl) mD (by decide +kernel) rfl) pa_nil)))
        (pe_and (pe_callB call_isi (by rfl) mI PyProof.Rows.boot_isinstance (pa_cons (pv 1) (pa_cons (pe_bltn (v := .ty "str") (by rfl) mS (by decide +kernel) rfl) pa_nil))) (pe_one (pe_cmp (pc_din hu (pv 1) (pv 0)) rfl)))))), ?_⟩
    have noRef : place d < 5 → stepH H v x = none := fun hp => by
      unfold stepH
      cases v with
      | ref a => exact absurd rfl (da_leaf_ref hd hp a)
      | _ => rfl
    have leaf : ∀ t : String, TyX K H v (.type t) → PySem.W.kitOne K (.type t) (.type "list") = some false → PySem.W.kitOne K (.type t) (.type "dict") = some false → place d < 5 → tCB (rIsi K) (tCons (tVar 0) (tCons (tC (.ty "list")) tNil)) [some v, some x] H (fun b H1 => ∃ k, b = .bl k ∧ True) → True := fun _ _ _ _ _ _ => trivial
    cases d with
    | non =>
      have ty : TyX K H v (.type "NoneType") := ty_of hd
      rw [noRef (by decide)] at q
      exact ⟨_, rfl, _, _, _, _, false, rfl, .ty _, ty, kit_ty (by decide +kernel), _, rfl, iteF ⟨_, rfl, _, _, _, _, false, rfl, .ty _, ty, kit_ty (by decide +kernel), _, rfl, iteF (q H s0)⟩⟩
    | bl b =>
      have ty : TyX K H v (.type "bool") := ty_of hd
      rw [noRef (by cases b <;> decide)] at q
      exact ⟨_, rfl, _, _, _, _, false, rfl, .ty _, ty, kit_ty (by decide +kernel), _, rfl, iteF ⟨_, rfl, _, _, _, _, false, rfl, .ty _, ty, kit_ty (by decide +kernel), _, rfl, iteF (q H s0)⟩⟩
    | int i =>
      have ty : TyX K H v (.type "int") := ty_of hd
      rw [noRef (by simp [place])] at q
      exact ⟨_, rfl, _, _, _, _, false, rfl, .ty _, ty, kit_ty (by decide +kernel), _, rfl, iteF ⟨_, rfl, _, _, _, _, false, rfl, .ty _, ty, kit_ty (by decide +kernel), _, rfl, iteF (q H s0)⟩⟩
    | str z =>
      have ty : TyX K H v (.type "str") := ty_of hd
      rw [noRef (by simp [place])] at q
      exact ⟨_, rfl, _, _, _, _, false, rfl, .ty _, ty, kit_ty (by decide +kernel), _, rfl, iteF ⟨_, rfl, _, _, _, _, false, rfl, .ty _, ty, kit_ty (by decide +kernel), _, rfl, iteF (q H s0)⟩⟩
    | lst ds =>
      have ty : TyX K H v (.type "list") := ty_of hd
      cases n with
      | zero => simp only [Da] at hd
      | succ n =>
        simp only [Da] at hd
        obtain ⟨a, xs, rfl, h2, h3, h4⟩ := hd
        refine ⟨_, rfl, _, _, _, _, true, rfl, .ty _, ty, kit_ty (by decide +kernel), _, rfl, iteT ⟨_, rfl, x, nm, rfl, hx, _, rfl, ite2 (fun c => ?_) (fun c => ?_)⟩⟩
        · obtain ⟨i, rfl⟩ := ty_isI hx (of_decide_eq_true c)
          rw [stepH_lst h2] at q
          refine ⟨_, rfl, _, _, rfl, rfl, _, rfl, ?_⟩
          by_cases z0 : 0 ≤ i
          · rw [if_pos z0] at q
            rw [decide_eq_true z0]
            refine iteT ⟨_, rfl, a, xs, rfl, .inl (SqL.of h2), _, _, rfl, rfl, ?_⟩
            show Q (.bl (decide (i < ((xs.length : Nat) : Int)))) H
            have e : (xs[i.toNat]?).isSome = decide (i < ((xs.length : Nat) : Int)) := by
              by_cases hl : i < ((xs.length : Nat) : Int)
              · rw [decide_eq_true hl, List.getElem?_eq_getElem (by omega)]
                rfl
              · rw [decide_eq_false hl, List.getElem?_eq_none (by omega)]
                rfl
            rw [← e]
            exact q H s0
          · rw [if_neg z0] at q
            rw [decide_eq_false z0]
            exact iteF (q H s0)
        · have hn : nm ≠ "int" := fun z => c (decide_eq_true z)
          rw [stepH_lst_no h2 hx hn] at q
          exact q H s0
    | dct ks ds =>
      have ty : TyX K H v (.type "dict") := ty_of hd
      cases n with
      | zero => simp only [Da] at hd
      | succ n =>
        simp only [Da] at hd
        obtain ⟨a, us, rfl, h2, h3, h4, h5, h6, h7⟩ := hd
        refine ⟨_, rfl, _, _, _, _, false, rfl, .ty _, ty, kit_ty (by decide +kernel), _, rfl, iteF ⟨_, rfl, _, _, _, _, true, rfl, .ty _, ty, kit_ty (by decide +kernel), _, rfl, iteT ⟨_, rfl, _, _, _, _, _, rfl, .ty _, hx.tyx, ty_str hx, _, rfl, ite2 (fun c => ?_) (fun c => ?_)⟩⟩⟩
        · obtain ⟨k, rfl⟩ := ty_isS hx (of_decide_eq_true c)
          rw [stepH_dct h2] at q
          refine ⟨_, rfl, _, rfl, a, _, rfl, DGet.k (k := Sum.inr k) h2, ?_⟩
          exact q H s0
        · have hn : nm ≠ "str" := fun z => c (decide_eq_true z)
          rw [stepH_dct_no h2 hx hn] at q
          exact q H s0
abbrev NF : List Str := ["datum", "place", "part", "step"]
theorem scFo : FnScope NF ["datum", "place"] (defScope sFound) := ⟨rfl, rfl, rfl, by decide +kernel, rfl, by decide +kernel, by decide +kernel⟩
theorem ok_found {f C fI : Addr} {fd fdI : FuncData} (F : Fun K "found_part" "found_part" sFound f fd) (T : Cl1 K C "place") (R : ClR K C) (mN : mg "NoPart" = some (.ref C))
    (GI : FnOk P w K mg base CX0 2 fI fdI ["datum", "step"] (spHas K)) (mG : mg "has_step" = some (.ref fI)) (kG : PySem.W.keepIn K (.ref fI) = true) (bG : Binds K fdI ["datum", "step"] [])
    (mI : mg "isinstance" = none) (mT : mg "tuple" = none) : FnOk P w K mg base (L2.CX P w) 3 f fd ["datum", "place"] (spFound K C) := by
  refine F.okX (k := 2) scFo (fun vs H Q E h => ?_) (fun cdv A outer s H vs Q E hr h => ?_)
  · obtain ⟨v, sp, n, d, rfl, _⟩ := h
    rfl
  · obtain ⟨v, sp, n, d, rfl, hd, nm, hty, hpl⟩ := h
    have hu := hu_of hr
    have hr1 : Room 1 (A.deeper (PyProof.Rows.envOfC "found_part" (defScope sFound) s.heap.objs.size f cdv)) := hr.mono (by decide)
    have tk : Takes (cxOf (L2.CX P w) P w K mg base NF "found_part" (defScope sFound) f cdv A outer s H E) (fun cls d _ H' => E cls d H') := takes_of rfl rfl rfl rfl
    refine ⟨_, pss_cons (ps_if (pt_not (pt_val (pe_callB call_isi (by rfl) mI PyProof.Rows.boot_isinstance (pa_cons (pv 1) (pa_cons (pe_bltn (v := .ty "tuple") (by rfl) mT (by decide +kernel) rfl) pa_nil)))))
        (pss_one (ps_raise rfl tk (pmk_x1 T R hr1 mN (by rfl) (pa_cons (pv 1) pa_nil)))) pss_nil)
      (pss_cons (ps_set (i := 2) scFo.nd rfl (Or.inl rfl) (pv 0))
      (pss_cons (ps_for (passes_of rfl) rfl (pi_tup (pv 1)) (pg_name (i := 3) scFo.nd rfl (Or.inl rfl))
        (pss_cons (ps_if (pt_not (pt_val (pe_call GI hr (by rfl) mG kG bG .nil pass0 (pa_cons (pv 2) (pa_cons (pv 3) pa_nil))))) (pss_one (ps_raise rfl tk (pmk_x1 T R hr1 mN (by rfl) (pa_cons (pv 1) pa_nil)))) pss_nil)
        (pss_one (ps_set (i := 2) scFo.nd rfl (Or.inl rfl) (te := tEither (tOp (rIxL K) (tVar 2) (tVar 3)) (tDGet (tVar 2) (tVar 3))) (pe_either (pe_ix ix_list (pv 2) (pv 3) (fun _ _ => rfl)) (pe_dget hu (pv 2) (pv 3) (fun _ _ => rfl)))))))
      (pss_one (ps_ret (pv 2))))), ?_⟩
    refine ⟨_, rfl, _, _, _, _, _, rfl, .ty _, hty.tyx, (ty_kits hty).1, _, rfl, ite2 (fun c => ?_) (fun c => ?_)⟩
    · rcases hpl with ⟨_, hno⟩ | ⟨z, _⟩
      · exact ⟨_, rfl, _, rfl, fun d nd => hno _ _ (same_new same_id nd) upd_same⟩
      · rw [decide_eq_true z] at c
        cases c
    have hnm : nm = "tuple" := by
      by_cases z : nm = "tuple"
      · exact z
      · exact absurd (by rw [decide_eq_false z]; rfl) c
    rcases hpl with ⟨z, _⟩ | ⟨_, a, ts, rfl, ha, hl, htys, hw⟩
    · exact absurd hnm z
    refine ⟨_, rfl, _, rfl, a, rfl, ⟨ts, ha⟩, ?_⟩
    refine for_tup (K := K) (a := a) (xs := ts) (fun i σ H' => ∃ (u : V) (x : Option V), σ = [some v, some (.ref a), some u, x] ∧ Same H H' ∧ walkH H v (ts.take i) = some u) ⟨v, none, rfl, same_id, rfl⟩ ?_ ?_ ?_
    · rintro i σ H' _ ⟨u, x, rfl, s1, _⟩
      exact seqT_same s1 ha
    · rintro i y σ H' hy ⟨u, x, rfl, s1, hwk⟩
      obtain ⟨hi, ey⟩ := List.getElem?_eq_some_iff.mp hy
      obtain ⟨ky, hky⟩ := htys y (List.mem_of_getElem? hy)
      obtain ⟨is, c, m, e1, e2, e3, e4⟩ := walk_da hd hwk
      have hstep : walkH H v (ts.take (i + 1)) = stepH H u y := by
        rw [List.take_succ_eq_append_getElem hi, ey, walk_snoc y hwk]
      refine ⟨_, rfl, _, rfl, u, y, m, c, ky, rfl, e4.mono s1 (Nat.le_refl _), hky.mono s1, fun H2 s2 => ?_⟩
      rw [stepH_same e4 s1]
      have s12 := s1.trans s2
      cases hs : stepH H u y with
      | none =>
        refine ⟨_, rfl, iteT ?_⟩
        have bad : walkH H v ts = none := by
          have e : ts = ts.take (i + 1) ++ ts.drop (i + 1) := (List.take_append_drop _ _).symm
          rw [e]
          exact walk_none _ (hstep.trans hs)
        rcases hw with ⟨is', c', q1, q2, _⟩ | ⟨_, hno⟩
        · obtain ⟨u', _, g1, _⟩ := da_walk hd q1
          rw [← q2, bad] at g1
          cases g1
        · exact ⟨_, rfl, _, rfl, fun d nd => hno _ _ (same_new s12 nd) upd_same⟩
      | some u' =>
        refine ⟨_, rfl, iteF ?_⟩
        refine nx_run ?_
        have fin : ∃ (u2 : V) (x2 : Option V), [some v, some (V.ref a), some u', some y] = [some v, some (.ref a), some u2, x2] ∧ Same H H2 ∧ walkH H v (ts.take (i + 1)) = some u2 := ⟨u', some y, rfl, s12, hstep.trans hs⟩
        rcases stepH_cases hs with ⟨b, xs, k, rfl, rfl, h1, h2⟩ | ⟨b, m', k, rfl, rfl, h1, h2⟩
        · exact .inl ⟨_, rfl, _, rfl, b, xs, (k : Nat), u', rfl, rfl, SqL.of (s12 _ _ h1), atI_nat h2, fin⟩
        · have dg : DGet H2 b (.str k) (some u') := by
            have z := DGet.k (k := Sum.inr k) (s12 _ _ h1)
            rw [h2] at z
            exact z
          exact .inr ⟨_, rfl, _, rfl, b, u', rfl, dg, fin⟩
    · rintro σ H' ⟨u, x, rfl, s1, hwk⟩
      rw [List.take_length] at hwk
      rcases hw with ⟨is', c', q1, q2, q3⟩ | ⟨bad, _⟩
      · exact ⟨_, rfl, q3 H' u s1 (by rw [← q2]; exact hwk)⟩
      · rw [bad] at hwk
        cases hwk
end
end Toy


namespace Toy
open PySem PySem.Spec L2 PyProof.Rows PySem.W
/-! ### what is put into a copy, at one place -/
theorem NodeAt.up {H H' : Hp} {a : Addr} {d : D} {us : List V} (h : NodeAt H a d us) (s : Same H H') : NodeAt H' a d us := by
  cases d with
  | lst ds => exact s _ _ h
  | dct ks ds => exact ⟨s _ _ h.1, h.2⟩
  | _ => exact h
theorem Tr.mono {n : Nat} {H H' : Hp} {v : V} {d : D} (h : Tr n H v d) (s : Same H H') : Tr n H' v d := by
  cases n with
  | zero => exact Da.mono s (Nat.le_refl _) h
  | succ n =>
    refine ⟨h.1.mono s (Nat.le_refl _), fun h5 => ?_⟩
    obtain ⟨a, us, G, e, h1, ⟨h2, h3, h4, h6⟩, h7⟩ := h.2 h5
    exact ⟨a, us, G, e, h1.up s, ⟨h2, h3, fun i => (h4 i).trans s, h6⟩, h7⟩
theorem da_zero_small {H : Hp} {v : V} {d : D} (h : Da 0 H v d) : place d < 5 := by
  cases d with
  | lst ds => simp [Da] at h
  | dct ks ds => simp [Da] at h
  | bl b => cases b <;> decide
  | _ => simp [place]
theorem node_some {H : Hp} {a : Addr} {d : D} {us : List V} (h : NodeAt H a d us) : ∃ o, H a = some o := by
  cases d with
  | lst ds => exact ⟨_, h⟩
  | dct ks ds => exact ⟨_, h.1⟩
  | _ => exact h.elim
theorem kv_at {ks : List Str} {us : List V} {i : Nat} {k : Str} {u : V} (nd : ks.Nodup) (hk : ks[i]? = some k) (hu : us[i]? = some u) : valV (kvOf ks us) (Sum.inr k) = some u := by
  induction ks generalizing us i with
  | nil => simp at hk
  | cons k' ks ih =>
    cases us with
    | nil => simp at hu
    | cons u' us =>
      have e : kvOf (k' :: ks) (u' :: us) = (Sum.inr k', u') :: kvOf ks us := rfl
      rw [e]
      cases i with
      | zero =>
        simp only [List.getElem?_cons_zero, Option.some.injEq] at hk hu
        subst hk hu
        exact valV_pos rfl
      | succ i =>
        simp only [List.getElem?_cons_succ] at hk hu
        have n' := List.nodup_cons.mp nd
        rw [valV_neg (fun z => n'.1 (by rw [Sum.inr.inj z]; exact List.mem_of_getElem? hk))]
        exact ih n'.2 hk hu
/-- the item of a node, by its step -/
theorem node_step {H : Hp} {a : Addr} {d : D} {us : List V} {i : Nat} {x u : V} (h : NodeAt H a d us) (hx : (stepsV d)[i]? = some x) (hu : us[i]? = some u) : stepH H (.ref a) x = some u := by
  cases d with
  | lst ds =>
    have h' : H a = some (.lst us) := h
    have hi : i < ds.length := by
      have := (List.getElem?_eq_some_iff.mp hx).1
      simpa [stepsV] using this
    have ex : x = .int ((i : Nat) : Int) := by
      simp only [stepsV, List.getElem?_map, List.getElem?_range hi] at hx
      exact (Option.some.inj hx).symm
    subst ex
    rw [stepH_lst h', if_pos (by omega)]
    exact hu
  | dct ks ds =>
    obtain ⟨h1, h2, h3, h4⟩ := h
    obtain ⟨key, hk, rfl⟩ : ∃ key, (skeys ks)[i]? = some key ∧ V.str key = x := by simpa [stepsV] using hx
    rw [h2] at hk
    rw [stepH_dct h1]
    exact kv_at h3 hk hu
  | _ => exact h.elim
theorem paired_upd {R : V → D → Prop} {us : List V} {ds : List D} {i : Nat} {y : V} {e : D} (hl : us.length = ds.length) (hy : R y e) (h : ∀ j u c, j ≠ i → us[j]? = some u → ds[j]? = some c → R u c) : Paired R (us.set i y) (ds.set i e) := by
  refine paired_of (by rw [List.length_set, List.length_set, hl]) fun j u c h1 h2 => ?_
  rw [List.getElem?_set] at h1 h2
  by_cases e1 : i = j
  · subst e1
    rw [if_pos rfl] at h1 h2
    by_cases hi : i < us.length
    · rw [if_pos hi] at h1
      rw [if_pos (by omega)] at h2
      cases h1
      cases h2
      exact hy
    · rw [if_neg hi] at h1
      cases h1
  · rw [if_neg e1] at h1 h2
    exact h j u c (fun z => e1 z.symm) h1 h2
/-- a node whose item is exchanged -/
theorem node_upd {n k : Nat} {H H' : Hp} {a : Addr} {d e : D} {us : List V} {i : Nat} {y : V} (hN : NodeAt H a d us) (hD : Da n H (.ref a) d) (hl : us.length = (inner d).length) (ho : (∀ ds, d = .lst ds → H' a = some (.lst (us.set i y))) ∧ (∀ ks ds, d = .dct ks ds → H' a = some (.dK (kvOf ks (us.set i y)))))
    (hy : Da k H' y e) (h : ∀ j u c, j ≠ i → us[j]? = some u → (inner d)[j]? = some c → Da k H' u c) : Da (k + 1) H' (.ref a) (setI i e d) := by
  cases d with
  | lst ds =>
    cases n with
    | zero => simp only [Da] at hD
    | succ n =>
      simp only [Da] at hD
      obtain ⟨a', xs, e1, h2, h3, h4⟩ := hD
      cases e1
      have e2 : H a = some (.lst us) := hN
      rw [h2] at e2
      cases e2
      simp only [setI, Da]
      exact ⟨a, _, rfl, ho.1 ds rfl, by rw [List.length_set]; exact h3, paired_upd hl hy h⟩
  | dct ks ds =>
    cases n with
    | zero => simp only [Da] at hD
    | succ n =>
      simp only [Da] at hD
      obtain ⟨a', xs, e1, h2, h3, h4, h5, h6, h7⟩ := hD
      obtain ⟨n1, n2, n3, n4⟩ := hN
      have e2 := inner_srt n2 n3 n4
      simp only [setI, e2, n2, Da]
      rw [e2] at hl h
      exact ⟨a, _, rfl, ho.2 ks ds rfl, h3, by rw [List.length_set]; omega, h5, h6, paired_upd hl hy h⟩
  | _ => exact hN.elim
/-- a part of a copy: where it stands, and what the whole is when it is another one -/
theorem tr_at : ∀ (is : List Nat) {n : Nat} {H : Hp} {v : V} {d c : D}, Tr n H v d → sub is d = some c → 5 ≤ place c → ∃ (b : Addr) (us : List V) (G : Hp) (m : Nat) (G' : Nat → Hp),
    walkH H v (pth is d) = some (.ref b) ∧ Same G H ∧ NodeAt G b c us ∧ TrsP (Tr m) G us (inner c) G' ∧ (∀ i, G' i b = none) ∧ m + 1 + is.length = n ∧ Da (m + 1) G (.ref b) c ∧
    ∀ (H' : Hp) (D' : D) (k : Nat), (∀ x o, x ≠ b → H x = some o → H' x = some o) → m + 1 ≤ k → Da k H' (.ref b) D' → Da (k + is.length) H' v (putI is D' d) := by
  intro is
  induction is with
  | nil =>
    intro n H v d c hT hs h5
    cases hs
    cases n with
    | zero => have := da_zero_small hT; omega
    | succ m =>
      obtain ⟨a, us, G, rfl, h1, h2, h3⟩ := hT.2 h5
      exact ⟨a, us, H, m, G, rfl, same_id, h1, h2, h3, rfl, hT.1, fun H' D' k _ _ h => h⟩
  | cons i is ih =>
    intro n H v d c hT hs h5
    rw [sub] at hs
    cases hc : (inner d)[i]? with
    | none => rw [hc] at hs; cases hs
    | some c1 =>
      rw [hc] at hs
      have hs : sub is c1 = some c := hs
      have hd5 := place_big hc
      cases n with
      | zero => have := da_zero_small hT; omega
      | succ n =>
        obtain ⟨a, us, G, rfl, h1, ⟨hl, hk, hsm, hdj⟩, h3⟩ := hT.2 hd5
        have hi : i < us.length := by
          rw [hl]
          exact (List.getElem?_eq_some_iff.mp hc).1
        have hu : us[i]? = some us[i] := List.getElem?_eq_getElem hi
        obtain ⟨b, us', Gb, m, G', w1, w2, w3, w4, w5, w6, w7, w8⟩ := ih (hk i _ _ hu hc) hs h5
        obtain ⟨x, hx⟩ := step_of hc
        have hbG : ∃ o, G i b = some o := by
          obtain ⟨o, ho⟩ := node_some w3
          exact ⟨o, w2 _ _ ho⟩
        refine ⟨b, us', Gb, m, G', ?_, w2.trans (hsm i), w3, w4, w5, by rw [List.length_cons]; omega, w7, fun H' D' k hH hk1 hD' => ?_⟩
        · rw [pth, hx, hc]
          dsimp only
          rw [walkH, node_step h1 hx hu]
          exact walk_up (hsm i) w1
        · have hin := w8 H' D' k (fun y o hy ho => hH y o hy (hsm i _ _ ho)) hk1 hD'
          obtain ⟨ob, hob⟩ := hbG
          have nab : a ≠ b := fun z => by
            have := h3 i
            rw [z, hob] at this
            cases this
          have hset : us.set i us[i] = us := by simp
          rw [putI, hc]
          dsimp only
          refine node_upd (i := i) (y := us[i]) (k := k + is.length) h1 hT.1 hl ⟨fun ds e => ?_, fun ks ds e => ?_⟩ hin fun j u c2 hj e1 e2 => ?_
          · subst e
            rw [hset]
            exact hH _ _ nab h1
          · subst e
            rw [hset]
            exact hH _ _ nab h1.1
          · refine (hk j u c2 e1 e2).da.mono (fun y o ho => ?_) (by omega)
            refine hH y o (fun z => ?_) (hsm j _ _ ho)
            subst z
            rcases hdj i j (fun z => hj z.symm) y with q | q
            · rw [hob] at q
              cases q
            · rw [ho] at q
              cases q
/-! the item's exchange, and its leaving -/
theorem node_put {m pm : Nat} {G H5 : Hp} {b : Addr} {c e' : D} {us : List V} {G' : Nat → Hp} {i : Nat} {y : V} (hN : NodeAt G b c us) (hT : TrsP (Tr m) G us (inner c) G') (hb : ∀ i, G' i b = none) (hD : Da (m + 1) G (.ref b) c) (hs : ∀ x o, x ≠ b → G x = some o → H5 x = some o)
    (ho : (∀ ds, c = .lst ds → H5 b = some (.lst (us.set i y))) ∧ (∀ ks ds, c = .dct ks ds → H5 b = some (.dK (kvOf ks (us.set i y))))) (hy : Da pm H5 y e') : Da (max m pm + 1) H5 (.ref b) (setI i e' c) :=
  node_upd hN hD hT.1 ho (hy.mono same_id (Nat.le_max_right _ _)) fun j u c2 hj e1 e2 => (hT.2.1 j u c2 e1 e2).da.mono (fun x o hx => hs x o (fun z => by
    subst z
    have := hb j
    rw [hx] at this
    cases this) (hT.2.2.1 j _ _ hx)) (Nat.le_max_left _ _)
theorem paired_erase {R : V → D → Prop} : ∀ {us : List V} {ds : List D} (i : Nat), Paired R us ds → Paired R (us.eraseIdx i) (ds.eraseIdx i)
  | _, _, _, .nil => .nil
  | _, _, 0, .cons _ t => t
  | _, _, i + 1, .cons r t => .cons r (paired_erase i t)
theorem node_less {m : Nat} {G H5 : Hp} {b : Addr} {c : D} {us : List V} {G' : Nat → Hp} {i : Nat} (hN : NodeAt G b c us) (hT : TrsP (Tr m) G us (inner c) G') (hb : ∀ i, G' i b = none) (hD : Da (m + 1) G (.ref b) c) (hs : ∀ x o, x ≠ b → G x = some o → H5 x = some o)
    (ho : (∀ ds, c = .lst ds → H5 b = some (.lst (us.eraseIdx i))) ∧ (∀ ks ds, c = .dct ks ds → H5 b = some (.dK (kvOf (ks.eraseIdx i) (us.eraseIdx i))))) : Da (m + 1) H5 (.ref b) (delI i c) := by
  have kids : Paired (fun x z => Da m H5 x z) us (inner c) := paired_of hT.1 fun j u c2 e1 e2 => (hT.2.1 j u c2 e1 e2).da.mono (fun x o hx => hs x o (fun z => by
    subst z
    have := hb j
    rw [hx] at this
    cases this) (hT.2.2.1 j _ _ hx)) (Nat.le_refl _)
  cases c with
  | lst ds =>
    simp only [Da] at hD
    obtain ⟨a', xs, e1, h2, h3, h4⟩ := hD
    cases e1
    have e2 : G b = some (.lst us) := hN
    rw [h2] at e2
    cases e2
    simp only [delI, Da]
    refine ⟨b, _, rfl, ho.1 ds rfl, ?_, paired_erase i kids⟩
    rw [List.length_eraseIdx]
    split <;> omega
  | dct ks ds =>
    simp only [Da] at hD
    obtain ⟨a', xs, e1, h2, h3, h4, h5, h6, h7⟩ := hD
    obtain ⟨n1, n2, n3, n4⟩ := hN
    have e2 := inner_srt n2 n3 n4
    have hl := hT.1
    simp only [delI, e2, n2, Da]
    rw [e2] at kids hl
    refine ⟨b, _, rfl, ho.2 ks ds rfl, ?_, ?_, h5.sublist (List.eraseIdx_sublist _ _), fun k hk => h6 k ((List.eraseIdx_sublist _ _).subset hk), paired_erase i kids⟩
    · rw [List.length_eraseIdx]
      split <;> omega
    · rw [List.length_eraseIdx, List.length_eraseIdx, hl, n4]
  | _ => exact hN.elim
theorem map_same {ks : List Str} {k : Str} {y : V} (h : k ∉ ks) : ∀ us : List V, (kvOf ks us).map (fun kv => if kv.1 = (Sum.inr k : Key) then (kv.1, y) else kv) = kvOf ks us := by
  intro us
  refine (List.map_congr_left fun p hp => ?_).trans (List.map_id _)
  unfold kvOf at hp
  obtain ⟨q, hq, rfl⟩ := List.mem_map.mp hp
  have := (List.of_mem_zip hq).1
  exact if_neg fun z => h (by rw [← Sum.inr.inj z]; exact this)
theorem map_set' {k : Str} {y : V} : ∀ {ks : List Str} {us : List V} {i : Nat}, ks.Nodup → ks[i]? = some k → (kvOf ks us).map (fun kv => if kv.1 = (Sum.inr k : Key) then (kv.1, y) else kv) = kvOf ks (us.set i y)
  | [], _, i, _, h => by simp at h
  | k' :: ks, [], i, _, _ => by simp [kvOf]
  | k' :: ks, u :: us, 0, nd, h => by
    have e : k' = k := by simpa using h
    subst e
    have z := map_same (y := y) (List.nodup_cons.mp nd).1 us
    have h1 : kvOf (k' :: ks) (u :: us) = (Sum.inr k', u) :: kvOf ks us := rfl
    have h2 : kvOf (k' :: ks) ((u :: us).set 0 y) = (Sum.inr k', y) :: kvOf ks us := rfl
    rw [h1, h2, List.map_cons, z, if_pos rfl]
  | k' :: ks, u :: us, i + 1, nd, h => by
    have h' : ks[i]? = some k := by simpa using h
    have ne : k' ≠ k := fun z => (List.nodup_cons.mp nd).1 (by rw [z]; exact List.mem_of_getElem? h')
    have h1 : kvOf (k' :: ks) (u :: us) = (Sum.inr k', u) :: kvOf ks us := rfl
    have h2 : kvOf (k' :: ks) ((u :: us).set (i + 1) y) = (Sum.inr k', u) :: kvOf ks (us.set i y) := rfl
    rw [h1, h2, List.map_cons, map_set' (List.nodup_cons.mp nd).2 h', if_neg (fun z => ne (Sum.inr.inj z))]
theorem put_set {ks : List Str} {us : List V} {i : Nat} {k : Str} {y : V} (nd : ks.Nodup) (hk : ks[i]? = some k) (hl : us.length = ks.length) : putK (kvOf ks us) (Sum.inr k) y = kvOf ks (us.set i y) := by
  have hm : (Sum.inr k : Key) ∈ (kvOf ks us).map (·.1) := by
    rw [kv_keys hl]
    exact List.mem_map.mpr ⟨k, List.mem_of_getElem? hk, rfl⟩
  unfold putK
  rw [if_pos, map_set' nd hk]
  rw [List.any_eq_true]
  obtain ⟨p, hp, e⟩ := List.mem_map.mp hm
  exact ⟨p, hp, decide_eq_true e⟩
theorem drop_same {ks : List Str} {k : Str} (h : k ∉ ks) (us : List V) : dropK (kvOf ks us) (Sum.inr k : Key) = kvOf ks us := by
  unfold dropK
  rw [List.filter_eq_self]
  intro p hp
  unfold kvOf at hp
  obtain ⟨q, hq, rfl⟩ := List.mem_map.mp hp
  have := (List.of_mem_zip hq).1
  exact decide_eq_true fun z => h (by rw [← Sum.inr.inj z]; exact this)
theorem drop_at {k : Str} : ∀ {ks : List Str} {us : List V} {i : Nat}, ks.Nodup → us.length = ks.length → ks[i]? = some k → dropK (kvOf ks us) (Sum.inr k : Key) = kvOf (ks.eraseIdx i) (us.eraseIdx i)
  | [], _, i, _, _, h => by simp at h
  | k' :: ks, [], i, _, hl, _ => by simp at hl
  | k' :: ks, u :: us, 0, nd, hl, h => by
    have e : k' = k := by simpa using h
    subst e
    have z := drop_same (List.nodup_cons.mp nd).1 us
    have h1 : kvOf (k' :: ks) (u :: us) = (Sum.inr k', u) :: kvOf ks us := rfl
    rw [h1]
    unfold dropK at z ⊢
    rw [List.filter_cons_of_neg (by simp)]
    exact z
  | k' :: ks, u :: us, i + 1, nd, hl, h => by
    have h' : ks[i]? = some k := by simpa using h
    have ne : k' ≠ k := fun z => (List.nodup_cons.mp nd).1 (by rw [z]; exact List.mem_of_getElem? h')
    have ih := drop_at (List.nodup_cons.mp nd).2 (by simpa using hl) h' (us := us)
    have h1 : kvOf (k' :: ks) (u :: us) = (Sum.inr k', u) :: kvOf ks us := rfl
    have h2 : kvOf ((k' :: ks).eraseIdx (i + 1)) ((u :: us).eraseIdx (i + 1)) = (Sum.inr k', u) :: kvOf (ks.eraseIdx i) (us.eraseIdx i) := rfl
    rw [h1, h2, ← ih]
    unfold dropK
    have hp : decide (((Sum.inr k' : Key), u).1 ≠ (Sum.inr k : Key)) = true := decide_eq_true (fun z => ne (Sum.inr.inj z))
    exact List.filter_cons_of_pos hp
/-! rules: either kind -/
theorem set_or {X : Cx} {r1 r2 : TSet} (h1 : PSet X r1) (h2 : PSet X r2) : PSet X (fun o i v H Q => r1 o i v H Q ∨ r2 o i v H Q) := fun pins s σ H o i v ov iv u Q I ro ri rv h => h.elim (h1 pins s σ H o i v ov iv u Q I ro ri rv) (h2 pins s σ H o i v ov iv u Q I ro ri rv)
theorem ps_either {X : Cx} {st : Stmt} {t1 t2 : TS} (h1 : PS X st t1) (h2 : PS X st t2) : PS X st (fun D σ H => t1 D σ H ∨ t2 D σ H) := ⟨fun pins s σ H D I h => h.elim (h1.run pins s σ H D I) (h2.run pins s σ H D I)⟩
theorem pth_ty {K : PySem.W.Frag} {H : Hp} : ∀ {is : List Nat} {d c : D}, sub is d = some c → ∀ x ∈ pth is d, ∃ k : String, Ty K H x k
  | [], d, c, h, x, hx => by cases hx
  | i :: is, d, c, h, x, hx => by
    rw [sub] at h
    cases hc : (inner d)[i]? with
    | none => rw [hc] at h; cases h
    | some b =>
      rw [hc] at h
      obtain ⟨y, hy⟩ := step_of hc
      rw [pth, hy, hc] at hx
      rcases List.mem_cons.mp hx with rfl | hx
      · cases d with
        | lst ds =>
          simp only [stepsV, List.getElem?_map] at hy
          cases hr : (List.range ds.length)[i]? with
          | none => rw [hr] at hy; cases hy
          | some z =>
            rw [hr] at hy
            cases hy
            exact ⟨_, .int _⟩
        | dct ks ds =>
          obtain ⟨key, hk, rfl⟩ : ∃ key, (skeys ks)[i]? = some key ∧ V.str key = x := by simpa [stepsV] using hy
          exact ⟨_, .str _⟩
        | _ => simp [stepsV] at hy
      · exact pth_ty h x hx
theorem cut_last (ti : List V) (x : V) : cutV (ti ++ [x]) none (some (-1)) = ti := by
  unfold cutV
  rw [HT.sIx_none]
  have h4 : HT.sIx (ti ++ [x]).length (ti ++ [x]).length (some (-1)) = ti.length := by
    rw [List.length_append, List.length_singleton]
    unfold HT.sIx
    show (if (-1 : Int) < 0 then ((-1 : Int) + ((ti.length + 1 : Nat) : Int)).toNat else _) = _
    rw [if_pos (by decide)]
    omega
  rw [h4, List.drop_zero, Nat.sub_zero, List.take_left']
  rfl
theorem cut_short (n : Nat) : HT.sIx (n + 1) (n + 1) (some (-1)) = n := by
  unfold HT.sIx
  show (if (-1 : Int) < 0 then ((-1 : Int) + ((n + 1 : Nat) : Int)).toNat else _) = _
  rw [if_pos (by decide)]
  omega
end Toy


namespace Toy
open PySem PySem.Spec L2 PyProof.Rows PySem.W
abbrev sPartAt : Stmt := top 8
abbrev sWith : Stmt := top 9
abbrev sWithout : Stmt := top 10
def spPartAt (K : PySem.W.Frag) (C : Addr) (j : Nat) : Sp := fun vs H Q E => ∃ (v sp : V) (n : Nat) (d : D), n < j ∧ vs = [v, sp] ∧ Da n H v d ∧ PlA K C v d sp H E (fun is c => ∀ H' u, Same H H' → Tr n (newH H H') u (canon n c) → Q u H')
def spWith (K : PySem.W.Frag) (C : Addr) (j : Nat) : Sp := fun vs H Q E => ∃ (v sp p : V) (n m : Nat) (d e : D), n < j ∧ m < j ∧ vs = [v, sp, p] ∧ Da n H v d ∧ Da m H p e ∧ PlA K C v d sp H E (fun is c => ∀ H' r, Same H H' → Da (n + m) H' r (putI is (canon m e) (canon n d)) → Q r H')
def spLess (K : PySem.W.Frag) (C : Addr) (j : Nat) : Sp := fun vs H Q E => ∃ (v sp : V) (n : Nat) (d : D), n < j ∧ vs = [v, sp] ∧ Da n H v d ∧ PlA K C v d sp H E (fun is c => (is = [] → Refuse C sp H E) ∧ (is ≠ [] → ∀ H' r, Same H H' → Da n H' r (lessI is (canon n d)) → Q r H'))
theorem da_kid {n : Nat} {H H' : Hp} {v u : V} {d c : D} {is : List Nat} (h : Da n H v d) (hs : sub is d = some c) (hw : walkH H v (pth is d) = some u) (s : Same H H') : Da n H' u c := by
  obtain ⟨u', m, e1, e2, e3⟩ := da_walk h hs
  rw [hw] at e1
  cases e1
  exact e3.mono s (by omega)
/-- the beginning of a place, and its last step, in a copy -/
theorem split_copy {n : Nat} {d c : D} {is : List Nat} {i : Nat} (w : Wd n d) (hs : sub (is ++ [i]) d = some c) : ∃ c0 x m, sub is (canon n d) = some c0 ∧ (inner c0)[i]? = some (canon m c) ∧ (stepsV c0)[i]? = some x ∧ pth (is ++ [i]) d = pth is (canon n d) ++ [x] ∧ 5 ≤ place c0 := by
  obtain ⟨m, h1, h2, h3, h4⟩ := sub_canon w hs
  obtain ⟨c0, g1, g2⟩ := sub_unsnoc h3
  obtain ⟨x, hx⟩ := step_of g2
  exact ⟨c0, x, m, g1, g2, hx, by rw [← h4]; exact pth_snoc g1 g2 hx, place_big g2⟩
section
variable {P : Program} {w : World} {K : PySem.W.Frag} {mg : Str → Option Value} {base : Heap}
theorem scPt : FnScope ["datum", "place"] ["datum", "place"] (defScope sPartAt) := ⟨rfl, rfl, rfl, by decide +kernel, rfl, by decide +kernel, by decide +kernel⟩
theorem ok_partat {f C fF fC : Addr} {fd fdF fdC : FuncData} {j : Nat} (F : Fun K "part_at" "part_at" sPartAt f fd)
    (GF : FnOk P w K mg base (L2.CX P w) 3 fF fdF ["datum", "place"] (spFound K C)) (mF : mg "found_part" = some (.ref fF)) (kF : PySem.W.keepIn K (.ref fF) = true) (bF : Binds K fdF ["datum", "place"] [])
    (GC : FnOk P w K mg base CX0 (j + 3) fC fdC ["datum"] (spCopied j)) (mC : mg "copied" = some (.ref fC)) (kC : PySem.W.keepIn K (.ref fC) = true) (bC : Binds K fdC ["datum"] []) : FnOk P w K mg base (L2.CX P w) (j + 4) f fd ["datum", "place"] (spPartAt K C j) := by
  refine F.okX (k := j + 3) scPt (fun vs H Q E h => ?_) (fun cdv A outer s H vs Q E hr h => ?_)
  · obtain ⟨v, sp, n, d, _, rfl, _⟩ := h
    rfl
  · obtain ⟨v, sp, n, d, hn, rfl, hd, hA⟩ := h
    have hr3 : Room 3 _ := hr.mono (show 3 ≤ j + 3 by omega)
    refine ⟨_, pss_one (ps_ret (pe_call GC hr (by rfl) mC kC bC .nil pass0 (pa_cons (pe_call (E := E) GF hr3 (by rfl) mF kF bF .nil (passes_call (takes_of rfl rfl rfl rfl) fun cls d _ H h => h) (pa_cons (pv 0) (pa_cons (pv 1) pa_nil))) pa_nil))), ?_⟩
    refine ⟨_, rfl, _, rfl, v, sp, n, d, rfl, hd, hA.imp fun is c _ hs _ q => fun H1 u s1 hw => ?_⟩
    exact ⟨u, n, c, hn, rfl, da_kid hd hs hw s1, fun H2 u2 s2 t2 => q H2 u2 (s1.trans s2) (t2.mono (new_le (Dom.same s1) fun b o _ h => h))⟩
abbrev NW : List Str := ["datum", "place", "part", "whole", "around"]
theorem scWi : FnScope NW ["datum", "place", "part"] (defScope sWith) := ⟨rfl, rfl, rfl, by decide +kernel, rfl, by decide +kernel, by decide +kernel⟩
theorem ok_with {f C fF fC : Addr} {fd fdF fdC : FuncData} {j : Nat} (F : Fun K "with_part" "with_part" sWith f fd)
    (GF : FnOk P w K mg base (L2.CX P w) 3 fF fdF ["datum", "place"] (spFound K C)) (mF : mg "found_part" = some (.ref fF)) (kF : PySem.W.keepIn K (.ref fF) = true) (bF : Binds K fdF ["datum", "place"] [])
    (GC : FnOk P w K mg base CX0 (j + 3) fC fdC ["datum"] (spCopied j)) (mC : mg "copied" = some (.ref fC)) (kC : PySem.W.keepIn K (.ref fC) = true) (bC : Binds K fdC ["datum"] []) : FnOk P w K mg base (L2.CX P w) (j + 4) f fd ["datum", "place", "part"] (spWith K C j) := by
  refine F.okX (k := j + 3) scWi (fun vs H Q E h => ?_) (fun cdv A outer s H vs Q E hr h => ?_)
  · obtain ⟨v, sp, p, n, m, d, e, _, _, rfl, _⟩ := h
    rfl
  · obtain ⟨v, sp, p, n, pm, d, e, hn, hm, rfl, hd, hp, hA⟩ := h
    have hr3 : Room 3 _ := hr.mono (show 3 ≤ j + 3 by omega)
    have hU := hu_of hr
    refine ⟨_, (pss_cons (ps_expr (pe_call (E := E) GF hr3 (by rfl) mF kF bF .nil (passes_call (takes_of rfl rfl rfl rfl) fun cls d _ H h => h) (pa_cons (pv 0) (pa_cons (pv 1) pa_nil))))
      (pss_cons (ps_if (pt_not (pt_truth (pv 1) (by intro _; rfl))) (pss_one (ps_ret (pe_call GC hr (by rfl) mC kC bC .nil pass0 (pa_cons (pv 2) pa_nil)))) pss_nil)
      (pss_cons (ps_set (i := 3) scWi.nd rfl (Or.inl rfl) (pe_call GC hr (by rfl) mC kC bC .nil pass0 (pa_cons (pv 0) pa_nil)))
      (pss_cons (ps_set (i := 4) scWi.nd rfl (Or.inl rfl) (pe_call (E := E) GF hr3 (by rfl) mF kF bF .nil (passes_call (takes_of rfl rfl rfl rfl) fun cls d _ H h => h) (pa_cons (pv 3) (pa_cons (pe_slice sl_tupA (pv 1) po_none (po_some (pe_un un_neg pe_int))) pa_nil))))
      (pss_cons (ps_asg (pe_call GC hr (by rfl) mC kC bC .nil pass0 (pa_cons (pv 2) pa_nil)) (pg_sub (pv 4) (pe_ix ix_tup (pv 1) (pe_un un_neg pe_int) (fun _ _ => rfl)) (set_or set_list (set_dict hU))))
      (pss_one (ps_ret (pv 3)))))))), ?_⟩
    refine ⟨_, rfl, _, rfl, v, sp, n, d, rfl, hd, hA.imp fun is c lis hs htup q => fun H1 _ s1 _ => ?_⟩
    obtain ⟨a, rfl, ha⟩ := htup
    have ha1 := seqT_same s1 ha
    refine ⟨_, rfl, _, .inr (.inl ⟨pth is d, ha1, rfl⟩), ?_⟩
    rcases List.eq_nil_or_concat is with rfl | ⟨js, i, rfl⟩
    · refine iteT ⟨_, rfl, p, pm, e, hm, rfl, hp.mono s1 (Nat.le_refl _), fun H2 r s2 t2 => q H2 r (s1.trans s2) ((t2.mono (new_self)).da.mono same_id (by omega))⟩
    rw [List.concat_eq_append] at hs ha ha1 q lis ⊢
    obtain ⟨c0, x, mm, g1, g2, g3, g4, g5⟩ := split_copy hd.wd hs
    rw [g4] at ha ha1 ⊢
    have et : (!(pth js (canon n d) ++ [x]).isEmpty) = true := by
      cases pth js (canon n d) <;> rfl
    rw [et]
    refine iteF ⟨_, rfl, v, n, d, hn, rfl, hd.mono s1 (Nat.le_refl _), fun H2 r s2 t2 => ?_⟩
    have ha2 := seqT_same s2 ha1
    obtain ⟨b, us, G, m', G', w1, w2, w3, w4, w5, w6, w7, w8⟩ := tr_at js t2 g1 g5
    refine ⟨_, rfl, _, rfl, 1, rfl, _, rfl, a, pth js (canon n d) ++ [x], rfl, ha2, ?_, ?_⟩
    · intro hw
      exfalso
      have h3 := hw.2
      rw [List.length_append, List.length_singleton] at h3
      have h4 := cut_short (pth js (canon n d)).length
      rw [h4] at h3
      omega
    intro _ pp np
    have sp2 : Same H2 (upd H2 pp (.tup (cutV (pth js (canon n d) ++ [x]) none (some (-1))))) := same_new (fun _ _ z => z) np
    have htp : (upd H2 pp (.tup (cutV (pth js (canon n d) ++ [x]) none (some (-1))))) pp = some (.tup (pth js (canon n d))) := by rw [upd_same, cut_last]
    generalize upd H2 pp (.tup (cutV (pth js (canon n d) ++ [x]) none (some (-1)))) = H3 at sp2 htp ⊢
    have hr2 : Da n H2 r (canon n d) := (t2.mono new_self).da
    have ljs : js.length ≤ 900 := by
      rw [List.length_append, List.length_singleton] at lis
      omega
    refine ⟨r, .ref pp, n, canon n d, rfl, hr2.mono sp2 (Nat.le_refl _), "tuple", .tup (SqT.of htp), .inr ⟨rfl, pp, _, rfl, SqT.of htp, by rw [pth_len g1]; exact ljs, pth_ty g1, .inl ⟨js, c0, g1, rfl, fun H4 u s4 hwk => ?_⟩⟩⟩
    obtain rfl : u = .ref b := by
      have := walk_up (new_self.trans sp2) w1
      rw [hwk] at this
      exact Option.some.inj this
    have s24 := sp2.trans s4
    have s04 := (s1.trans s2).trans s24
    refine ⟨_, rfl, p, pm, e, hm, rfl, hp.mono s04 (Nat.le_refl _), fun H5 y s5 t5 => ?_⟩
    have s25 := s24.trans s5
    have s05 := s04.trans s5
    have hG5 : Same G H5 := (w2.trans new_self).trans s25
    have hN5 := w3.up hG5
    have fin : ∀ o : HO, (∀ ds, c0 = .lst ds → (upd H5 b o) b = some (.lst (us.set i y))) → (∀ ks ds, c0 = .dct ks ds → (upd H5 b o) b = some (.dK (kvOf ks (us.set i y)))) → Q r (upd H5 b o) := fun o h1 h2 => by
      have hb5 : ∃ ob, (newH H4 H5) b = some ob → False := by
        obtain ⟨ob, hob⟩ := node_some (w3.up ((w2.trans new_self).trans s24))
        exact ⟨ob, fun z => by
          have := (newH_some.mp z).1
          rw [hob] at this
          cases this⟩
      have nb : (newH H4 H5) b = none := by
        obtain ⟨ob, hob⟩ := node_some (w3.up ((w2.trans new_self).trans s24))
        cases hz : (newH H4 H5) b with
        | none => rfl
        | some o2 =>
          have := (newH_some.mp hz).1
          rw [hob] at this
          cases this
      have hy : Da pm (upd H5 b o) y (canon pm e) := t5.da.mono (fun z o2 hz => by
        have nz : z ≠ b := fun k => by
          rw [k, nb] at hz
          cases hz
        rw [upd_ne nz]
        exact (newH_some.mp hz).2) (Nat.le_refl _)
      have key := node_put (pm := pm) w3 w4 w5 w7 (fun z o2 nz hz => by rw [upd_ne nz]; exact hG5 _ _ hz) ⟨h1, h2⟩ hy
      have res := w8 (upd H5 b o) _ (max m' pm + 1) (fun z o2 nz hz => by rw [upd_ne nz]; exact s25 _ _ (new_self _ _ hz)) (by have := Nat.le_max_left m' pm; omega) key
      rw [← put_snoc g1 g2] at res
      refine q _ r (fun z o2 hz => ?_) (res.mono same_id (by have := Nat.max_le.mpr ⟨(show m' ≤ m' + pm by omega), (show pm ≤ m' + pm by omega)⟩; omega))
      have nz : z ≠ b := fun k => by
        obtain ⟨ob, hob⟩ := node_some w3
        have := (newH_some.mp (w2 _ _ hob)).1
        rw [← k, s1 _ _ hz] at this
        cases this
      rw [upd_ne nz]
      exact s05 _ _ hz
    refine ⟨_, rfl, _, rfl, 1, rfl, a, _, _, x, rfl, rfl, seqT_same (s24.trans s5) ha2, atI_last _ x, ?_⟩
    have hi : i < us.length := by
      rw [w4.1]
      exact (List.getElem?_eq_some_iff.mp g2).1
    cases c0 with
    | lst ds =>
      have hb5 : H5 b = some (.lst us) := hN5
      have hds : i < ds.length := (List.getElem?_eq_some_iff.mp g2).1
      have ex : x = .int ((i : Nat) : Int) := by
        simp only [stepsV, List.getElem?_map, List.getElem?_range hds] at g3
        exact (Option.some.inj g3).symm
      subst ex
      exact .inl ⟨b, us, _, i, rfl, rfl, hb5, (by unfold ixN; rw [if_pos (by omega), if_pos (by omega)]; simp), _, rfl, fin _ (fun _ _ => upd_same) (fun _ _ z => by cases z)⟩
    | dct ks ds =>
      obtain ⟨hb5, n2, n3, n4⟩ := hN5
      obtain ⟨key, hk, rfl⟩ : ∃ key, (skeys ks)[i]? = some key ∧ V.str key = x := by simpa [stepsV] using g3
      rw [n2] at hk
      have e2 := inner_srt n2 n3 n4
      have hl := w4.1
      rw [e2] at hl
      have lk20 : ks.length ≤ 20 := by
        have z := w7
        simp only [Da] at z
        obtain ⟨_, _, _, _, z3, _⟩ := z
        exact z3
      exact .inr ⟨b, _, rfl, DPut.k (k := Sum.inr key) hb5 (small1000 (by unfold kvOf; rw [List.length_map, List.length_zip]; omega)), _, rfl, fin _ (fun _ z => by cases z) (fun ks' ds' z => by cases z; rw [upd_same, put_set n3 hk (by omega)])⟩
    | non => exact hN5.elim
    | bl _ => exact hN5.elim
    | int _ => exact hN5.elim
    | str _ => exact hN5.elim
abbrev NWo : List Str := ["datum", "place", "whole", "around"]
theorem scWo : FnScope NWo ["datum", "place"] (defScope sWithout) := ⟨rfl, rfl, rfl, by decide +kernel, rfl, by decide +kernel, by decide +kernel⟩
theorem ok_less {f C fF fC : Addr} {fd fdF fdC : FuncData} {j : Nat} (F : Fun K "without" "without" sWithout f fd) (T : Cl1 K C "place") (R : ClR K C) (mN : mg "NoPart" = some (.ref C))
    (GF : FnOk P w K mg base (L2.CX P w) 3 fF fdF ["datum", "place"] (spFound K C)) (mF : mg "found_part" = some (.ref fF)) (kF : PySem.W.keepIn K (.ref fF) = true) (bF : Binds K fdF ["datum", "place"] [])
    (GC : FnOk P w K mg base CX0 (j + 3) fC fdC ["datum"] (spCopied j)) (mC : mg "copied" = some (.ref fC)) (kC : PySem.W.keepIn K (.ref fC) = true) (bC : Binds K fdC ["datum"] []) : FnOk P w K mg base (L2.CX P w) (j + 4) f fd ["datum", "place"] (spLess K C j) := by
  refine F.okX (k := j + 3) scWo (fun vs H Q E h => ?_) (fun cdv A outer s H vs Q E hr h => ?_)
  · obtain ⟨v, sp, n, d, _, rfl, _⟩ := h
    rfl
  · obtain ⟨v, sp, n, d, hn, rfl, hd, hA⟩ := h
    have hr3 : Room 3 _ := hr.mono (show 3 ≤ j + 3 by omega)
    have hr1 : Room 1 (A.deeper (PyProof.Rows.envOfC "without" (defScope sWithout) s.heap.objs.size f cdv)) := hr.mono (show 1 ≤ j + 3 by omega)
    have hU := hu_of hr
    have tk : Takes (cxOf (L2.CX P w) P w K mg base NWo "without" (defScope sWithout) f cdv A outer s H E) (fun cls d _ H' => E cls d H') := takes_of rfl rfl rfl rfl
    refine ⟨_, (pss_cons (ps_expr (pe_call (E := E) GF hr3 (by rfl) mF kF bF .nil (passes_call (takes_of rfl rfl rfl rfl) fun cls d _ H h => h) (pa_cons (pv 0) (pa_cons (pv 1) pa_nil))))
      (pss_cons (ps_if (pt_not (pt_truth (pv 1) (by intro _; rfl))) (pss_one (ps_raise rfl tk (pmk_x1 T R hr1 mN (by rfl) (pa_cons (pv 1) pa_nil)))) pss_nil)
      (pss_cons (ps_set (i := 2) scWo.nd rfl (Or.inl rfl) (pe_call GC hr (by rfl) mC kC bC .nil pass0 (pa_cons (pv 0) pa_nil)))
      (pss_cons (ps_set (i := 3) scWo.nd rfl (Or.inl rfl) (pe_call (E := E) GF hr3 (by rfl) mF kF bF .nil (passes_call (takes_of rfl rfl rfl rfl) fun cls d _ H h => h) (pa_cons (pv 2) (pa_cons (pe_slice sl_tupA (pv 1) po_none (po_some (pe_un un_neg pe_int))) pa_nil))))
      (pss_cons (ps_either (ps_delL (pv 3) (pe_ix ix_tup (pv 1) (pe_un un_neg pe_int) (fun _ _ => rfl))) (ps_ddel (pv 3) (pe_ix ix_tup (pv 1) (pe_un un_neg pe_int) (fun _ _ => rfl))))
      (pss_one (ps_ret (pv 2)))))))), ?_⟩
    refine ⟨_, rfl, _, rfl, v, sp, n, d, rfl, hd, hA.imp fun is c lis hs htup q => fun H1 _ s1 _ => ?_⟩
    obtain ⟨a, rfl, ha⟩ := htup
    have ha1 := seqT_same s1 ha
    refine ⟨_, rfl, _, .inr (.inl ⟨pth is d, ha1, rfl⟩), ?_⟩
    rcases List.eq_nil_or_concat is with rfl | ⟨js, i, rfl⟩
    · exact iteT ⟨_, rfl, _, rfl, fun d nd => q.1 rfl _ _ (same_new s1 nd) upd_same⟩
    rw [List.concat_eq_append] at hs ha ha1 q lis ⊢
    have q := q.2 (by simp)
    obtain ⟨c0, x, mm, g1, g2, g3, g4, g5⟩ := split_copy hd.wd hs
    rw [g4] at ha ha1 ⊢
    have et : (!(pth js (canon n d) ++ [x]).isEmpty) = true := by
      cases pth js (canon n d) <;> rfl
    rw [et]
    refine iteF ⟨_, rfl, v, n, d, hn, rfl, hd.mono s1 (Nat.le_refl _), fun H2 r s2 t2 => ?_⟩
    have ha2 := seqT_same s2 ha1
    obtain ⟨b, us, G, m', G', w1, w2, w3, w4, w5, w6, w7, w8⟩ := tr_at js t2 g1 g5
    refine ⟨_, rfl, _, rfl, 1, rfl, _, rfl, a, pth js (canon n d) ++ [x], rfl, ha2, ?_, ?_⟩
    · intro hw
      exfalso
      have h3 := hw.2
      rw [List.length_append, List.length_singleton] at h3
      have h4 := cut_short (pth js (canon n d)).length
      rw [h4] at h3
      omega
    intro _ pp np
    have sp2 : Same H2 (upd H2 pp (.tup (cutV (pth js (canon n d) ++ [x]) none (some (-1))))) := same_new (fun _ _ z => z) np
    have htp : (upd H2 pp (.tup (cutV (pth js (canon n d) ++ [x]) none (some (-1))))) pp = some (.tup (pth js (canon n d))) := by rw [upd_same, cut_last]
    generalize upd H2 pp (.tup (cutV (pth js (canon n d) ++ [x]) none (some (-1)))) = H3 at sp2 htp ⊢
    have hr2 : Da n H2 r (canon n d) := (t2.mono new_self).da
    have ljs : js.length ≤ 900 := by
      rw [List.length_append, List.length_singleton] at lis
      omega
    refine ⟨r, .ref pp, n, canon n d, rfl, hr2.mono sp2 (Nat.le_refl _), "tuple", .tup (SqT.of htp), .inr ⟨rfl, pp, _, rfl, SqT.of htp, by rw [pth_len g1]; exact ljs, pth_ty g1, .inl ⟨js, c0, g1, rfl, fun H5 u s4 hwk => ?_⟩⟩⟩
    obtain rfl : u = .ref b := by
      have := walk_up (new_self.trans sp2) w1
      rw [hwk] at this
      exact Option.some.inj this
    have s25 := sp2.trans s4
    have s05 := (s1.trans s2).trans s25
    have hG5 : Same G H5 := (w2.trans new_self).trans s25
    have hN5 := w3.up hG5
    have fin : ∀ o : HO, (∀ ds, c0 = .lst ds → (upd H5 b o) b = some (.lst (us.eraseIdx i))) → (∀ ks ds, c0 = .dct ks ds → (upd H5 b o) b = some (.dK (kvOf (ks.eraseIdx i) (us.eraseIdx i)))) → Q r (upd H5 b o) := fun o h1 h2 => by
      have key := node_less w3 w4 w5 w7 (fun z o2 nz hz => by rw [upd_ne nz]; exact hG5 _ _ hz) ⟨h1, h2⟩
      have res := w8 (upd H5 b o) _ (m' + 1) (fun z o2 nz hz => by rw [upd_ne nz]; exact s25 _ _ (new_self _ _ hz)) (Nat.le_refl _) key
      rw [← less_snoc g1] at res
      refine q _ r (fun z o2 hz => ?_) (res.mono same_id (by omega))
      have nz : z ≠ b := fun k => by
        obtain ⟨ob, hob⟩ := node_some w3
        have := (newH_some.mp (w2 _ _ hob)).1
        rw [← k, s1 _ _ hz] at this
        cases this
      rw [upd_ne nz]
      exact s05 _ _ hz
    have hi : i < us.length := by
      rw [w4.1]
      exact (List.getElem?_eq_some_iff.mp g2).1
    have hx5 := seqT_same s25 ha2
    cases c0 with
    | lst ds =>
      have hb5 : H5 b = some (.lst us) := hN5
      have hds : i < ds.length := (List.getElem?_eq_some_iff.mp g2).1
      have ex : x = .int ((i : Nat) : Int) := by
        simp only [stepsV, List.getElem?_map, List.getElem?_range hds] at g3
        exact (Option.some.inj g3).symm
      subst ex
      have l20 : us.length ≤ 20 := by
        have z := w7
        simp only [Da] at z
        obtain ⟨_, _, z1, z2, z3, _⟩ := z
        cases z1
        have hN : G b = some (.lst us) := w3
        rw [z2] at hN
        cases hN
        exact z3
      exact .inl ⟨_, rfl, _, rfl, 1, rfl, a, _, _, _, rfl, rfl, hx5, atI_last _ _, b, us, _, i, rfl, rfl, hb5, by omega, by omega, by rw [seqIndex_of (by omega) (by omega)]; simp, _, rfl, fin _ (fun _ _ => upd_same) (fun _ _ z => by cases z)⟩
    | dct ks ds =>
      obtain ⟨hb5, n2, n3, n4⟩ := hN5
      obtain ⟨key, hk, rfl⟩ : ∃ key, (skeys ks)[i]? = some key ∧ V.str key = x := by simpa [stepsV] using g3
      rw [n2] at hk
      have e2 := inner_srt n2 n3 n4
      have hl := w4.1
      rw [e2] at hl
      have hv := kv_at (us := us) (u := us[i]) n3 hk (List.getElem?_eq_getElem hi)
      exact .inr ⟨_, rfl, _, rfl, 1, rfl, a, _, _, _, rfl, rfl, hx5, atI_last _ _, b, _, Sum.inr key, rfl, hb5, rfl, by rw [hv]; rfl, _, rfl, fin _ (fun _ z => by cases z) (fun ks' ds' z => by cases z; rw [upd_same, drop_at n3 (by omega) hk])⟩
    | non => exact hN5.elim
    | bl _ => exact hN5.elim
    | int _ => exact hN5.elim
    | str _ => exact hN5.elim
end
end Toy


namespace Toy
open PySem PySem.Spec L2 PyProof.Rows PySem.W
/-! ### all places, with their parts -/
abbrev RowV := List V × D
def kidsV (f : D → List V → List RowV) (s : List V) : List V → List D → List RowV
  | x :: xs, c :: cs => f c (s ++ [x]) ++ kidsV f s xs cs
  | _, _ => []
def allV : Nat → D → List V → List RowV
  | 0, d, s => [(s, d)]
  | n + 1, d, s => (s, d) :: kidsV (allV n) s (stepsV d) (inner d)
theorem allV_eq {n : Nat} {d : D} (w : Wd n d) (s : List V) : allV n d s = (s, d) :: kidsV (allV (n - 1)) s (stepsV d) (inner d) := by
  cases n with
  | zero =>
    rw [wd_zero w, allV]
    cases stepsV d <;> rfl
  | succ n => rfl
theorem kidsV_snoc (f : D → List V → List RowV) (s : List V) : ∀ {xs : List V} {cs : List D} {i : Nat} {x : V} {c : D}, xs[i]? = some x → cs[i]? = some c → kidsV f s (xs.take (i + 1)) (cs.take (i + 1)) = kidsV f s (xs.take i) (cs.take i) ++ f c (s ++ [x])
  | y :: xs, b :: cs, 0, x, c, h1, h2 => by
    cases h1
    cases h2
    simp [kidsV]
  | y :: xs, b :: cs, i + 1, x, c, h1, h2 => by
    rw [List.getElem?_cons_succ] at h1 h2
    rw [List.take_succ_cons, List.take_succ_cons, List.take_succ_cons, List.take_succ_cons, kidsV, kidsV, kidsV_snoc f s h1 h2, List.append_assoc]
  | [], _, _, _, _, h, _ => by simp at h
  | _ :: _, [], _, _, _, _, h => by simp at h
theorem kidsV_take (f : D → List V → List RowV) (s : List V) : ∀ (xs : List V) (cs : List D) (i : Nat), (kidsV f s (xs.take i) (cs.take i)).length ≤ (kidsV f s xs cs).length
  | [], cs, i => by simp [kidsV]
  | x :: xs, [], i => by cases i <;> simp [kidsV]
  | x :: xs, c :: cs, 0 => by simp [kidsV]
  | x :: xs, c :: cs, i + 1 => by
    rw [List.take_succ_cons, List.take_succ_cons, kidsV, kidsV, List.length_append, List.length_append]
    have := kidsV_take f s xs cs i
    omega
theorem kidsV_drop (f : D → List V → List RowV) (s : List V) : ∀ (xs : List V) (cs : List D) (i : Nat), (kidsV f s (xs.drop i) (cs.drop i)).length ≤ (kidsV f s xs cs).length
  | [], cs, i => by simp [kidsV]
  | x :: xs, [], i => by cases i <;> simp [kidsV]
  | x :: xs, c :: cs, 0 => by simp
  | x :: xs, c :: cs, i + 1 => by
    rw [List.drop_succ_cons, List.drop_succ_cons, kidsV, List.length_append]
    have := kidsV_drop f s xs cs i
    omega
theorem allV_pos (n : Nat) (d : D) (s : List V) : 1 ≤ (allV n d s).length := by
  cases n with
  | zero => exact Nat.le_refl 1
  | succ n => rw [allV, List.length_cons]; omega
theorem kidsV_of (f : D → List V → List RowV) (s : List V) : ∀ {xs : List V} {cs : List D} {r : RowV}, r ∈ kidsV f s xs cs → ∃ (i : Nat) (x : V) (c : D), xs[i]? = some x ∧ cs[i]? = some c ∧ r ∈ f c (s ++ [x])
  | [], _, _, h => by simp [kidsV] at h
  | _ :: _, [], _, h => by simp [kidsV] at h
  | x :: xs, c :: cs, r, h => by
    rw [kidsV] at h
    rcases List.mem_append.mp h with h | h
    · exact ⟨0, x, c, rfl, rfl, h⟩
    · obtain ⟨i, y, b, h1, h2, h3⟩ := kidsV_of f s h
      exact ⟨i + 1, y, b, by simpa using h1, by simpa using h2, h3⟩
theorem kidsV_mem (f : D → List V → List RowV) (s : List V) : ∀ {xs : List V} {cs : List D} {i : Nat} {x : V} {c : D} {r : RowV}, xs[i]? = some x → cs[i]? = some c → r ∈ f c (s ++ [x]) → r ∈ kidsV f s xs cs
  | y :: xs, b :: cs, 0, x, c, r, h1, h2, h => by
    cases h1
    cases h2
    rw [kidsV]
    exact List.mem_append_left _ h
  | y :: xs, b :: cs, i + 1, x, c, r, h1, h2, h => by
    rw [kidsV]
    exact List.mem_append_right _ (kidsV_mem f s (by simpa using h1) (by simpa using h2) h)
  | [], _, _, _, _, _, h, _, _ => by simp at h
  | _ :: _, [], _, _, _, _, _, h, _ => by simp at h
/-- each row leads to its part -/
theorem allV_at : ∀ {n : Nat} {d : D} {s : List V} {r : RowV}, Wd n d → r ∈ allV n d s → ∃ is, r.1 = s ++ pth is d ∧ sub is d = some r.2
  | 0, d, s, r, w, h => by
    rw [allV] at h
    rw [List.mem_singleton.mp h]
    exact ⟨[], by rw [pth, List.append_nil], rfl⟩
  | n + 1, d, s, r, w, h => by
    rw [allV] at h
    rcases List.mem_cons.mp h with rfl | h
    · exact ⟨[], by rw [pth, List.append_nil], rfl⟩
    · obtain ⟨i, x, c, h1, h2, h3⟩ := kidsV_of (allV n) s h
      obtain ⟨is, g1, g2⟩ := allV_at (inner_wd w (List.mem_of_getElem? h2)) h3
      refine ⟨i :: is, ?_, ?_⟩
      · rw [pth, h1, h2, g1]
        simp
      · rw [sub, h2]
        exact g2
/-- each part is in a row -/
theorem allV_has : ∀ {is : List Nat} {n : Nat} {d c : D} {s : List V}, Wd n d → sub is d = some c → (s ++ pth is d, c) ∈ allV n d s
  | [], n, d, c, s, w, h => by
    cases h
    rw [allV_eq w, pth, List.append_nil]
    exact List.mem_cons_self
  | i :: is, n, d, c, s, w, h => by
    rw [sub] at h
    cases hc : (inner d)[i]? with
    | none => rw [hc] at h; cases h
    | some b =>
      rw [hc] at h
      cases n with
      | zero => rw [wd_zero w] at hc; simp at hc
      | succ n =>
        obtain ⟨x, hx⟩ := step_of hc
        have ih := allV_has (s := s ++ [x]) (inner_wd w (List.mem_of_getElem? hc)) h
        rw [allV]
        refine List.mem_cons_of_mem _ (kidsV_mem (allV n) s hx hc ?_)
        rw [pth, hx, hc]
        simpa using ih
theorem catA_run {K : PySem.W.Frag} {H : Hp} {a b : Addr} {xs ys : List V} {Q : VK} (ha : SqT K H a xs) (hb : SqT K H b ys) (hl : xs.length + ys.length ≤ 1000) (q : ∀ H' c, Same H H' → SqT K H' c (xs ++ ys) → Q (.ref c) H') : rCatA K (.ref a) (.ref b) H Q :=
  ⟨a, b, xs, ys, rfl, rfl, ha, hb, few hl, fun e => q H b same_id (by rw [e]; exact hb), fun _ e => q H a same_id (by rw [e, List.append_nil]; exact ha), fun _ _ p np => q _ p (same_new same_id np) (SqT.of upd_same)⟩
theorem step_run {K : PySem.W.Frag} {σ : L2.St} {H0 H : Hp} {Q : VK} {i j : Nat} {v x u : V} (hi : σ[i]? = some (some v)) (hj : σ[j]? = some (some x)) (hs : stepH H0 v x = some u) (s : Same H0 H) (q : Q u H) : tEither (tOp (rIxL K) (tVar i) (tVar j)) (tDGet (tVar i) (tVar j)) σ H Q := by
  rcases stepH_cases hs with ⟨b, xs, k, rfl, rfl, h1, h2⟩ | ⟨b, m, k, rfl, rfl, h1, h2⟩
  · exact .inl ⟨_, hi, _, hj, b, xs, (k : Nat), u, rfl, rfl, SqL.of (s _ _ h1), atI_nat h2, q⟩
  · have dg : DGet H b (.str k) (some u) := by
      have z := DGet.k (k := Sum.inr k) (s _ _ h1)
      rw [h2] at z
      exact z
    exact .inr ⟨_, hi, _, hj, b, u, rfl, dg, q⟩
theorem paired_app {α β : Type} {R : α → β → Prop} : ∀ {xs ys : List α} {as bs : List β}, Paired R xs as → Paired R ys bs → Paired R (xs ++ ys) (as ++ bs)
  | _, _, _, _, .nil, k => k
  | _, _, _, _, .cons r t, k => .cons r (paired_app t k)
theorem paired_last {α β : Type} {R : α → β → Prop} : ∀ {xs : List α} {ds : List β} {x : α}, Paired R (xs ++ [x]) ds → ∃ ds' d, ds = ds' ++ [d] ∧ Paired R xs ds' ∧ R x d
  | [], _, _, .cons r .nil => ⟨[], _, rfl, .nil, r⟩
  | x' :: xs, _, _, .cons r t => by
    obtain ⟨ds', d, e, h1, h2⟩ := paired_last t
    exact ⟨_ :: ds', d, by rw [e]; rfl, .cons r h1, h2⟩
/-- at v a row: a place and its part -/
def RowD (K : PySem.W.Frag) (N : Nat) (G H : Hp) (v : V) (r : RowV) : Prop := ∃ (q a : Addr) (u : V), v = .ref q ∧ H q = some (.tup [.ref a, u]) ∧ SqT K H a r.1 ∧ Da N G u r.2
theorem RowD.same {K : PySem.W.Frag} {N : Nat} {G H H' : Hp} {v : V} {r : RowV} (h : RowD K N G H v r) (s : Same H H') : RowD K N G H' v r := by
  obtain ⟨q, a, u, h1, h2, h3, h4⟩ := h
  exact ⟨q, a, u, h1, s _ _ h2, seqT_same s h3, h4⟩
abbrev sSpots : Stmt := top 25
abbrev NSs : List Str := ["_law_datum_here", "_law_spot", "_law_found", "_law_step"]
def spSpots (K : PySem.W.Frag) (N j : Nat) : Sp := fun vs H Q _ => ∃ (v : V) (a : Addr) (n : Nat) (d : D) (ts : List V) (G : Hp), n < j ∧ n ≤ N ∧ vs = [v, .ref a] ∧ Same G H ∧ Da n G v d ∧ SqT K H a ts ∧ ts.length + n ≤ 100 ∧ (allV n d ts).length ≤ 1000 ∧
  ∀ H' L us, Same H H' → H L = none → H' L = some (.lst us) → Paired (RowD K N G H') us (allV n d ts) → Q (.ref L) H'
section
variable {P : Program} {w : World} {K : PySem.W.Frag} {mg : Str → Option Value} {base : Heap}
theorem scSs : FnScope NSs ["_law_datum_here", "_law_spot"] (defScope sSpots) := ⟨rfl, rfl, rfl, by decide +kernel, rfl, by decide +kernel, by decide +kernel⟩
theorem ok_spots {f fK : Addr} {fd fdK : FuncData} (N : Nat) (F : Fun K "_law_spots" "_law_spots" sSpots f fd) (mF : mg "_law_spots" = some (.ref f)) (kF : PySem.W.keepIn K (.ref f) = true) (bF : Binds K fd ["_law_datum_here", "_law_spot"] [])
    (GK : FnOk P w K mg base CX0 1 fK fdK ["_law_datum_here"] spSteps) (mK : mg "_law_keys" = some (.ref fK)) (kK : PySem.W.keepIn K (.ref fK) = true) (bK : Binds K fdK ["_law_datum_here"] []) :
    ∀ j : Nat, FnOk P w K mg base CX0 (j + 2) f fd ["_law_datum_here", "_law_spot"] (spSpots K N j) := by
  intro j
  induction j with
  | zero => exact F.ok (k := 1) scSs (fun vs H Q E h => by obtain ⟨v, a, n, d, ts, G, h0, _⟩ := h; exact absurd h0 (Nat.not_lt_zero _)) (fun cdv A outer s H vs Q E hr h => by obtain ⟨v, a, n, d, ts, G, h0, _⟩ := h; exact absurd h0 (Nat.not_lt_zero _))
  | succ j ih =>
    refine F.ok (k := j + 2) scSs (fun vs H Q E h => ?_) (fun cdv A outer s H vs Q E hr h => ?_)
    · obtain ⟨v, a, n, d, ts, G, _, _, rfl, _⟩ := h
      rfl
    · obtain ⟨v, a, n, d, ts, G, hnj, hnN, rfl, sG, hd, ha, hlen, hall, q⟩ := h
      have hr1 : Room 1 (A.deeper (PyProof.Rows.envOfC "_law_spots" (defScope sSpots) s.heap.objs.size f cdv)) := hr.mono (by omega)
      have hu := hu_of hr
      refine ⟨_, pss_cons (ps_set (i := 2) scSs.nd rfl (Or.inl rfl) (pe_lst (pa_cons (pe_tup (pa_cons (pv 1) (pa_cons (pv 0) pa_nil))) pa_nil)))
        (pss_cons (ps_for PassesOwn.never rfl (pi_list (pe_call GK hr1 (by rfl) mK kK bK .nil pass0 (pa_cons (pv 0) pa_nil))) (pg_name (i := 3) scSs.nd rfl (Or.inl rfl))
          (pss_one (ps_set (i := 2) scSs.nd rfl (Or.inl rfl) (pe_op op_cat (pv 2) (pe_call ih hr (by rfl) mF kF bF .nil pass0 (pa_cons (te := tEither (tOp (rIxL K) (tVar 0) (tVar 3)) (tDGet (tVar 0) (tVar 3))) (pe_either (pe_ix ix_list (pv 0) (pv 3) (fun _ _ => rfl)) (pe_dget hu (pv 0) (pv 3) (fun _ _ => rfl))) (pa_cons (pe_op op_catA (pv 1) (pe_tup (pa_cons (pv 3) pa_nil))) pa_nil)))))))
        (pss_one (ps_ret (pv 2)))), ?_⟩
      rw [allV_eq hd.wd] at hall q
      rw [List.length_cons] at hall
      have hlk := kidsV_take (allV (n - 1)) ts (stepsV d) (inner d)
      refine ⟨_, rfl, _, rfl, few (by show 2 ≤ 1000; decide), fun T0 nT0 => ⟨few (by show 1 ≤ 1000; decide), fun L nL => ?_⟩⟩
      have s1 : Same H (upd (upd H T0 (.tup [.ref a, v])) L (.lst [.ref T0])) := same_new (same_new same_id nT0) nL
      have nL0 : H L = none := fresh_of (same_new same_id nT0) nL
      have hL : (upd (upd H T0 (.tup [.ref a, v])) L (.lst [.ref T0])) L = some (.lst [.ref T0]) := upd_same
      have hT0 : (upd (upd H T0 (.tup [.ref a, v])) L (.lst [.ref T0])) T0 = some (.tup [.ref a, v]) := (upd_ne (ne_of_none upd_same nL)).trans upd_same
      generalize upd (upd H T0 (.tup [.ref a, v])) L (.lst [.ref T0]) = H1 at s1 hL hT0 ⊢
      refine ⟨_, rfl, v, n, d, rfl, hd.mono (sG.trans s1) (Nat.le_refl _), fun H2 R s2 nR hR => ⟨R, rfl, ⟨_, SqL.of hR⟩, ?_⟩⟩
      have s12 := s1.trans s2
      refine for_list (K := K) (a := R) (xs := stepsV d) (fun i σ H' => ∃ (Lf : Addr) (us : List V) (b : Option V), σ = [some v, some (.ref a), some (.ref Lf), b] ∧ Same H2 H' ∧ H Lf = none ∧ H' Lf = some (.lst us) ∧ Paired (RowD K N G H') us ((ts, d) :: kidsV (allV (n - 1)) ts ((stepsV d).take i) ((inner d).take i)))
        ⟨L, [.ref T0], none, rfl, same_id, nL0, s2 _ _ hL, ?_⟩ ?_ ?_ ?_
      · have : kidsV (allV (n - 1)) ts ((stepsV d).take 0) ((inner d).take 0) = [] := rfl
        rw [this]
        exact .cons ⟨T0, a, v, rfl, s2 _ _ hT0, seqT_same s12 ha, hd.mono same_id hnN⟩ .nil
      · rintro i σ H' _ ⟨_, _, _, _, s3, _⟩
        exact SqL.of (s3 _ _ hR)
      · rintro i x σ H3 hx ⟨Lf, us, b, rfl, s3, nLf, hLf, hrows⟩
        have hi : i < (inner d).length := by
          rw [inner_len]
          exact (List.getElem?_eq_some_iff.mp hx).1
        have hc : (inner d)[i]? = some (inner d)[i] := List.getElem?_eq_getElem hi
        generalize (inner d)[i] = c at hc
        obtain ⟨m, u, rfl, hst, hdc⟩ := da_step hd hx hc
        have s13 := s12.trans s3
        refine ⟨_, rfl, step_run rfl rfl hst (sG.trans s13) ⟨_, rfl, _, rfl, few (by show 1 ≤ 1000; decide), fun T2 nT2 => ?_⟩⟩
        have s5 : Same H3 (upd H3 T2 (.tup [x])) := same_new same_id nT2
        have hT2 : SqT K (upd H3 T2 (.tup [x])) T2 [x] := SqT.of upd_same
        generalize upd H3 T2 (.tup [x]) = H5 at s5 hT2 ⊢
        have s05 := s13.trans s5
        have e7 := kidsV_snoc (allV m) ts hx hc
        have lt1 := hlk (i + 1)
        simp only [Nat.add_sub_cancel] at lt1 hall hrows q ⊢
        rw [e7, List.length_append] at lt1
        refine catA_run (seqT_same s05 ha) hT2 (by rw [List.length_singleton]; omega) fun H6 cc s6 hcc => ?_
        refine ⟨u, cc, m, c, ts ++ [x], G, by omega, by omega, rfl, sG.trans (s05.trans s6), hdc, hcc, by rw [List.length_append, List.length_singleton]; omega, by omega, fun H7 L7 us7 s7 nL7 hL7 hr7 => ?_⟩
        have s37 := (s5.trans s6).trans s7
        have lu := Paired.length hrows
        have lu7 := Paired.length hr7
        rw [List.length_cons] at lu
        refine ⟨Lf, L7, us, us7, rfl, rfl, s37 _ _ hLf, hL7, Nat.le_trans (show us.length + us7.length ≤ 20000 by omega) (by decide), fun R2 nR2 => ?_⟩
        have s8 : Same H7 (upd H7 R2 (.lst (us ++ us7))) := same_new same_id nR2
        refine ⟨R2, us ++ us7, _, rfl, (s3.trans s37).trans s8, fresh_of (s13.trans s37) nR2, upd_same, ?_⟩
        rw [e7]
        exact paired_app (xs := us) (ys := us7) (as := (ts, d) :: kidsV (allV m) ts ((stepsV d).take i) ((inner d).take i)) (L2.Paired.mapP hrows fun _ _ z => z.same (s37.trans s8)) (L2.Paired.mapP hr7 fun _ _ z => z.same s8)
      · rintro σ H' ⟨Lf, us, b, rfl, s3, nLf, hLf, hrows⟩
        rw [List.take_length, ← inner_len, List.take_length] at hrows
        exact ⟨_, rfl, q H' Lf us (s12.trans s3) nLf hLf hrows⟩
end
/-! ### places, as they are yielded -/
abbrev sPlaces : Stmt := top 7
abbrev ItV := Nat × List V × D
abbrev NP : List Str := ["datum", "waiting", "place", "part", "step"]
def restV (l : List ItV) : List RowV := (l.reverse.map fun p => allV p.1 p.2.2 p.2.1).flatten
theorem restV_snoc (l : List ItV) (p : ItV) : restV (l ++ [p]) = allV p.1 p.2.2 p.2.1 ++ restV l := by
  simp [restV]
theorem restV_ind : ∀ (k : Nat) (l : List ItV), l.length = k → l.length ≤ (restV l).length
  | 0, l, e => by rw [e]; exact Nat.zero_le _
  | k + 1, l, e => by
    rcases List.eq_nil_or_concat l with rfl | ⟨l', p, rfl⟩
    · simp at e
    · rw [List.concat_eq_append] at e ⊢
      rw [restV_snoc, List.length_append, List.length_append, List.length_singleton]
      rw [List.length_append, List.length_singleton] at e
      have h1 := restV_ind k l' (by omega)
      have h2 := allV_pos p.1 p.2.2 p.2.1
      omega
def IsPl (H : Hp) (v : V) (ts : List V) : Prop := ∃ a : Addr, v = .ref a ∧ H a = some (.tup ts)
def ItemV (H0 : Hp) (n : Nat) (H : Hp) (v : V) (p : ItV) : Prop := ∃ (t a : Addr) (u : V), v = .ref t ∧ H t = some (.tup [.ref a, u]) ∧ H a = some (.tup p.2.1) ∧ Da p.1 H0 u p.2.2 ∧ p.1 + p.2.1.length = n
theorem ItemV.but {H0 H H' : Hp} {n : Nat} {v : V} {p : ItV} {L : Addr} {xs : List V} (h : ItemV H0 n H v p) (hL : H L = some (.lst xs)) (b : But L H H') : ItemV H0 n H' v p := by
  obtain ⟨t, a, u, h1, h2, h3, h4⟩ := h
  exact ⟨t, a, u, h1, b _ _ (ne_of h2 hL (by intro z; cases z)) h2, b _ _ (ne_of h3 hL (by intro z; cases z)) h3, h4⟩
theorem IsPl.but {H H' : Hp} {v : V} {p : List V} {L : Addr} {xs : List V} (h : IsPl H v p) (hL : H L = some (.lst xs)) (b : But L H H') : IsPl H' v p := by
  obtain ⟨a, h1, h3⟩ := h
  exact ⟨a, h1, b _ _ (ne_of h3 hL (by intro z; cases z)) h3⟩
theorem IsPl.same {H H' : Hp} {v : V} {p : List V} (h : IsPl H v p) (b : Same H H') : IsPl H' v p := by
  obtain ⟨a, h1, h3⟩ := h
  exact ⟨a, h1, b _ _ h3⟩
theorem ItemV.same {H0 H H' : Hp} {n : Nat} {v : V} {p : ItV} (h : ItemV H0 n H v p) (b : Same H H') : ItemV H0 n H' v p := by
  obtain ⟨t, a, u, h1, h2, h3, h4⟩ := h
  exact ⟨t, a, u, h1, b _ _ h2, b _ _ h3, h4⟩
def spPlaces : SpG := fun vs H Q _ => ∃ (v : V) (n : Nat) (d : D), vs = [v] ∧ Da n H v d ∧ n ≤ 100 ∧ (allV n d []).length ≤ 1000 ∧ ∀ H' out, Same H H' → Paired (IsPl H') out ((allV n d []).map (·.1)) → Q out H'
/-- before each turn: what waits, what is out -/
def PlW (H : Hp) (v : V) (L : Addr) (n : Nat) (all : List (List V)) : Nat → List V → L2.St → Hp → Prop := fun m ys σ H' => ∃ (o2 o3 o4 : Option V) (xs : List V) (todo : List ItV) (outs : List (List V)), σ = [some v, some (.ref L), o2, o3, o4] ∧ H' L = some (.lst xs) ∧ Paired (ItemV H n H') xs todo ∧ Paired (IsPl H') ys outs ∧ outs ++ (restV todo).map (·.1) = all ∧ m = (restV todo).length ∧ Same H H'
section
variable {P : Program} {w : World} {K : PySem.W.Frag} {mg : Str → Option Value} {base : Heap}
theorem scPl : GScope NP ["datum"] (defScope sPlaces) := ⟨rfl, rfl, rfl, by decide +kernel, rfl, by decide +kernel, by decide +kernel⟩
theorem gok_places {f fS : Addr} {fd fdS : FuncData} (F : Fun K "places" "places" sPlaces f fd) (GS : FnOk P w K mg base CX0 1 fS fdS ["datum"] spSteps) (mS : mg "steps_into" = some (.ref fS)) (kS : PySem.W.keepIn K (.ref fS) = true) (bS : Binds K fdS ["datum"] []) (mR : mg "reversed" = none) :
    GFn P w K mg base 2 f fd ["datum"] spPlaces := by
  obtain ⟨oc, od, kV, doc, pm, an, cdv, ct, osl, rfl, lk, hcd⟩ := F.ex
  refine gfn_of (k := 1) lk hcd scPl (fun vs H Q E h => ?_) fun A outer s H vs Q E pn hr h => ?_
  · obtain ⟨v, n, d, rfl, _⟩ := h
    rfl
  · obtain ⟨v, n, d, rfl, hd, hn, hcnt, q⟩ := h
    have hu := hu_of hr
    refine ⟨_, gss_cons (gs_ps (ps_set (i := 1) scPl.nd rfl (Or.inl rfl) (pe_lst (pa_cons (pe_tup (pa_cons (pe_tup pa_nil) (pa_cons (pv 0) pa_nil))) pa_nil))))
      (gss_cons (gs_while owns_gcx (pt_truth (pv 1) (by intro _; rfl))
        (gss_cons (gs_ps (ps_asg (pe_bm0 PySem.F.plainAttrs_list PySem.F.slot_list_pop PySem.F.type_list_pop mt_pop (pv 1)) (pg_tup (by rfl) (pgs_cons (pg_name (i := 2) scPl.nd rfl (.inl rfl)) (pgs_cons (pg_name (i := 3) scPl.nd rfl (.inl rfl)) pgs_nil)))))
        (gss_cons (gs_yield (pv 2))
        (gss_cons (gs_ps (ps_for owns_gcx rfl (RT.pi_revA (by rfl) mR (pe_call GS hr (by rfl) mS kS bS .nil pass0 (pa_cons (pv 3) pa_nil))) (pg_name (i := 4) scPl.nd rfl (.inl rfl))
          (pss_one (ps_expr (pe_bm PySem.F.plainAttrs_list PySem.F.slot_list_append PySem.F.type_list_append mt_append (pv 1) (pa_cons (pe_tup (pa_cons (pe_op op_catA (pv 2) (pe_tup (pa_cons (pv 4) pa_nil)))
            (pa_cons (te := tEither (tOp (rIxL K) (tVar 3) (tVar 4)) (tDGet (tVar 3) (tVar 4))) (pe_either (pe_ix ix_list (pv 3) (pv 4) (fun _ _ => rfl)) (pe_dget hu (pv 3) (pv 4) (fun _ _ => rfl))) pa_nil))) pa_nil)))))) gss_nil)))) gss_nil), ?_⟩
    have s0 : Same H H := fun _ _ z => z
    refine ⟨Nat.zero_le _, fun a0 na0 => ⟨_, rfl, few (by show 2 ≤ 1000; decide), fun t0 nt0 => ⟨few (by show 1 ≤ 1000; decide), fun L nL => ?_⟩⟩⟩
    have sA : Same H (upd H a0 (.tup [])) := same_new s0 na0
    have sT : Same H (upd (upd H a0 (.tup [])) t0 (.tup [.ref a0, v])) := same_new sA nt0
    have sL : Same (upd (upd H a0 (.tup [])) t0 (.tup [.ref a0, v])) (upd (upd (upd H a0 (.tup [])) t0 (.tup [.ref a0, v])) L (.lst [.ref t0])) := same_new (fun _ _ z => z) nL
    have nL0 : H L = none := fresh_of sT nL
    refine ⟨PlW H v L n ((allV n d []).map (·.1)), ⟨_, none, none, none, [.ref t0], [(n, [], d)], [], rfl, upd_same, .cons ⟨t0, a0, v, rfl, sL _ _ upd_same, sL _ _ ((upd_ne (ne_of_none upd_same nt0)).trans upd_same), hd, Nat.add_zero _⟩ .nil, .nil, by simp [restV], rfl, sT.trans sL⟩, ?_⟩
    rintro mm ys σ H1 ⟨o2, o3, o4, xs, todo, outs, rfl, hL, pt, pi, hall, rfl, s1⟩
    refine ⟨_, rfl, _, .inl ⟨xs, SqL.of hL, rfl⟩, ?_⟩
    rcases List.eq_nil_or_concat xs with rfl | ⟨xi, x, rfl⟩
    · refine iteF (q H1 ys s1 ?_)
      cases pt
      rw [show restV [] = [] from rfl, List.map_nil, List.append_nil] at hall
      rw [← hall]
      exact pi
    rw [List.concat_eq_append] at hL pt ⊢
    have et : (!(xi ++ [x]).isEmpty) = true := by
      cases xi <;> rfl
    rw [et]
    obtain ⟨todo', ⟨m, ts, e⟩, rfl, pt', it⟩ := paired_last pt
    obtain ⟨t1, a, u, rfl, ht, ha, hu', hlev⟩ := it
    have hu' : Da m H u e := hu'
    have hlev : m + ts.length = n := hlev
    have ha : H1 a = some (.tup ts) := ha
    have lys : ys.length = outs.length := Paired.length pi
    have hall2 := congrArg List.length hall
    rw [List.length_append, List.length_map, List.length_map] at hall2
    refine iteT ⟨fun ys' σ' H' => ∃ m', m' < (restV (todo' ++ [(m, ts, e)])).length ∧ PlW H v L n ((allV n d []).map (·.1)) m' ys' σ' H', fun _ _ _ h => h, ?_⟩
    refine ⟨_, rfl, .inl ⟨rfl, _, SqL.of hL⟩, L, _, .ref t1, rfl, rfl, hL, by simp, t1, [.ref a, u], rfl, ?_, rfl, ?_⟩
    · have ne : t1 ≠ L := ne_of ht hL (by intro z; cases z)
      exact SqT.of ((upd_ne ne).trans ht)
    refine ⟨_, _, rfl, _, _, rfl, rfl, small1000 (by omega), _, rfl, ?_⟩
    rw [List.dropLast_concat]
    have b2 : But L H1 (upd H1 L (.lst xi)) := fun b o hb ho => by rw [upd_ne hb]; exact ho
    have sHL : Same H (upd H1 L (.lst xi)) := fun b o ho => by rw [upd_ne (ne_of_none ho nL0)]; exact s1 _ _ ho
    have ha2 : (upd H1 L (.lst xi)) a = some (.tup ts) := b2 _ _ (ne_of ha hL (by intro z; cases z)) ha
    have hL2 : (upd H1 L (.lst xi)) L = some (.lst xi) := upd_same
    generalize upd H1 L (.lst xi) = H2 at b2 sHL ha2 hL2 ⊢
    have pt2 := L2.Paired.mapP pt' fun _ _ z => z.but hL b2
    have pi2 := L2.Paired.mapP pi fun _ _ z => z.but hL b2
    have hrest : restV (todo' ++ [(m, ts, e)]) = (ts, e) :: (kidsV (allV (m - 1)) ts (stepsV e) (inner e) ++ restV todo') := by
      rw [restV_snoc]
      show allV m e ts ++ restV todo' = _
      rw [allV_eq hu'.wd]
      rfl
    rw [hrest] at hall hall2 ⊢
    rw [List.length_cons, List.length_append] at hall2
    refine ⟨_, rfl, u, m, e, rfl, hu'.mono sHL (Nat.le_refl _), fun H3 R s3 nR hR => ⟨R, _, rfl, .inl ⟨SqL.of hR, ?_⟩⟩⟩
    have linn : (inner e).length = (stepsV e).length := inner_len e
    have hL3 := s3 _ _ hL2
    have nRL : R ≠ L := fun z => by rw [z, hL2] at nR; cases nR
    refine RT.for_Itv (K := K) (a := R) (xs := stepsV e) (fun i σ H' => ∃ (o4 : Option V) (xs : List V) (todo : List ItV), σ = [some v, some (.ref L), some (.ref a), some u, o4] ∧ H' L = some (.lst xs) ∧ Paired (ItemV H n H') xs todo ∧ Paired (IsPl H') (ys ++ [.ref a]) (outs ++ [ts]) ∧ Same H H' ∧ H' R = some (.lst (stepsV e)) ∧ H' a = some (.tup ts) ∧ restV todo = kidsV (allV (m - 1)) ts ((stepsV e).drop ((stepsV e).length - i)) ((inner e).drop ((stepsV e).length - i)) ++ restV todo') ?_ ?_ ?_ ?_
    · refine ⟨o4, xi, todo', rfl, hL3, L2.Paired.mapP pt2 fun _ _ z => z.same s3, Paired.snoc (L2.Paired.mapP pi2 fun _ _ z => z.same s3) ⟨a, rfl, s3 _ _ ha2⟩, sHL.trans s3, hR, s3 _ _ ha2, ?_⟩
      rw [Nat.sub_zero, List.drop_length, kidsV]
      · rfl
      · intros; simp_all
    · rintro i σ' H' ⟨_, _, _, _, _, _, _, _, hR', _⟩
      exact SqL.of hR'
    · rintro i x σ' H4 hi hx ⟨o4', xs2, todo2, rfl, hL4, pt4, pi4, s4, hR4, ha4, hr4⟩
      obtain ⟨j, hj⟩ : ∃ j, j = (stepsV e).length - 1 - i := ⟨_, rfl⟩
      rw [← hj] at hx
      have ej1 : (stepsV e).length - i = j + 1 := by omega
      have ej2 : (stepsV e).length - (i + 1) = j := by omega
      rw [ej1] at hr4
      rw [ej2]
      have hjl : j < (inner e).length := by omega
      have hc : (inner e)[j]? = some (inner e)[j] := List.getElem?_eq_getElem hjl
      generalize (inner e)[j] = c at hc
      obtain ⟨m', y, rfl, hst, hdc⟩ := da_step hu' hx hc
      have dr1 : (stepsV e).drop j = x :: (stepsV e).drop (j + 1) := by
        obtain ⟨h1, h2⟩ := List.getElem?_eq_some_iff.mp hx
        rw [List.drop_eq_getElem_cons h1, h2]
      have dr2 : (inner e).drop j = c :: (inner e).drop (j + 1) := by
        obtain ⟨h1, h2⟩ := List.getElem?_eq_some_iff.mp hc
        rw [List.drop_eq_getElem_cons h1, h2]
      simp only [Nat.add_sub_cancel] at hr4 hall2 ⊢
      have lxs2 : xs2.length ≤ 1000 := by
        have h1 := Paired.length pt4
        have h2 := restV_ind _ todo2 rfl
        have h3 := congrArg List.length hr4
        rw [List.length_append] at h3
        have h4 := kidsV_drop (allV m') ts (stepsV e) (inner e) (j + 1)
        omega
      refine ⟨_, rfl, .inl ⟨rfl, _, SqL.of hL4⟩, ?_⟩
      refine ⟨_, rfl, _, rfl, few (by show 1 ≤ 1000; decide), fun T1 nT1 => ?_⟩
      have s5 : Same H4 (upd H4 T1 (.tup [x])) := same_new same_id nT1
      have hT1 : SqT K (upd H4 T1 (.tup [x])) T1 [x] := SqT.of upd_same
      have go : ∀ H6 p, Same H4 H6 → H6 p = some (.tup (ts ++ [x])) → tCons (tEither (tOp (rIxL K) (tVar 3) (tVar 4)) (tDGet (tVar 3) (tVar 4))) tNil [some v, some (.ref L), some (.ref a), some u, some x] H6 (fun ws H7 => ((V.ref p) :: ws).length ≤ sizeLine ∧ ∀ T, H7 T = none → ∃ (l : Addr) (xs : List V) (y : V), V.ref L = .ref l ∧ [V.ref T] = [y] ∧ (upd H7 T (.tup (V.ref p :: ws))) l = some (.lst xs) ∧ xs.length < sizeLine ∧
          ∃ (o4 : Option V) (xs' : List V) (todo : List ItV), [some v, some (.ref L), some (.ref a), some u, some x] = [some v, some (.ref L), some (.ref a), some u, o4] ∧ (upd (upd H7 T (.tup (V.ref p :: ws))) l (.lst (xs ++ [y]))) L = some (.lst xs') ∧ Paired (ItemV H n (upd (upd H7 T (.tup (V.ref p :: ws))) l (.lst (xs ++ [y])))) xs' todo ∧ Paired (IsPl (upd (upd H7 T (.tup (V.ref p :: ws))) l (.lst (xs ++ [y])))) (ys ++ [.ref a]) (outs ++ [ts]) ∧ Same H (upd (upd H7 T (.tup (V.ref p :: ws))) l (.lst (xs ++ [y]))) ∧ (upd (upd H7 T (.tup (V.ref p :: ws))) l (.lst (xs ++ [y]))) R = some (.lst (stepsV e)) ∧ (upd (upd H7 T (.tup (V.ref p :: ws))) l (.lst (xs ++ [y]))) a = some (.tup ts) ∧ restV todo = kidsV (allV m') ts ((stepsV e).drop j) ((inner e).drop j) ++ restV todo') := fun H6 p s6 hp => by
        refine step_run rfl rfl hst (s4.trans s6) ⟨few (by show 2 ≤ 1000; decide), fun T nT => ?_⟩
        have hL6 := s6 _ _ hL4
        have nLT : L ≠ T := ne_of_none hL6 nT
        have keep : ∀ b o, b ≠ L → H6 b = some o → (upd (upd H6 T (.tup [.ref p, y])) L (.lst (xs2 ++ [.ref T]))) b = some o := fun b o hb ho => by
          rw [upd_ne hb, upd_ne (ne_of_none ho nT)]
          exact ho
        have bk : But L H4 (upd (upd H6 T (.tup [.ref p, y])) L (.lst (xs2 ++ [.ref T]))) := fun b o hb ho => keep b o hb (s6 _ _ ho)
        refine ⟨L, xs2, .ref T, rfl, rfl, (upd_ne nLT).trans hL6, small1000 (by omega), some x, xs2 ++ [.ref T], todo2 ++ [(m', ts ++ [x], c)], rfl, upd_same, Paired.snoc (L2.Paired.mapP pt4 fun _ _ z => z.but hL4 bk) ⟨T, p, y, rfl, ?_, keep _ _ (ne_of hp hL6 (by intro z; cases z)) hp, hdc, ?_⟩, L2.Paired.mapP pi4 fun _ _ z => z.but hL4 bk, ?_, ?_, ?_, ?_⟩
        · rw [upd_ne nLT.symm, upd_same]
        · show m' + (ts ++ [x]).length = n
          rw [List.length_append, List.length_singleton]
          omega
        · intro b o ho
          exact keep b o (ne_of_none ho nL0) (s6 _ _ (s4 _ _ ho))
        · exact keep _ _ nRL (s6 _ _ hR4)
        · exact keep _ _ (ne_of ha4 hL4 (by intro z; cases z)) (s6 _ _ ha4)
        · rw [restV_snoc, hr4, dr1, dr2, kidsV, List.append_assoc]
      refine ⟨a, T1, ts, [x], rfl, rfl, SqT.of (s5 _ _ ha4), hT1, few (by rw [List.length_singleton]; omega), fun e1 => ?_, fun _ e1 => absurd e1 (by simp), fun _ _ p np => ?_⟩
      · exact go _ T1 s5 (by rw [upd_same, e1]; rfl)
      · exact go _ p (same_new s5 np) upd_same
    · rintro σ' H4 ⟨o4', xs2, todo2, rfl, hL4, pt4, pi4, s4, hR4, ha4, hr4⟩
      rw [Nat.sub_self, List.drop_zero, List.drop_zero] at hr4
      refine ⟨(restV todo2).length, ?_, _, _, _, xs2, todo2, outs ++ [ts], rfl, hL4, pt4, pi4, ?_, rfl, s4⟩
      · rw [hr4, List.length_cons]
        omega
      · rw [hr4, ← hall, List.map_cons, List.append_assoc]
        rfl
end
end Toy


/-! a text beside a dict; a tuple beside the empty one -/
namespace PySem.SeqAt
open AutoSeq1 (wpAny_loadPart')
open MeetsSeq
theorem str_eq_declines_dict (b : Str) (u : Tok) (l : Addr) (c : Value) (items : Array DictEntry) (n : Nat) (dd : Option Addr) (sl : Array (Option Value)) :
    Meets (Builtin.«str.__eq__» ⟨[.str b u, .ref l], []⟩) (fun _ R s => s.heap.get? l = some { cls := c, dict := dd, data := .dict items n, slots := sl } ∧ R (.ok (.ret .notImplemented)) s) :=
  .of_wp fun prog w A R s h => by obtain ⟨hp, g, d, tk, os⟩ := s; obtain ⟨hl, h⟩ := h; wp_walk using wpAny_loadPart' hl, wpAny_load hl; exact ⟨_, rfl, h⟩
theorem dict_eq_declines_str (l : Addr) (items : Array DictEntry) (n : Nat) (dd : Option Addr) (sl : Array (Option Value)) (b : Str) (u : Tok) :
    Meets (Builtin.«dict.__eq__» ⟨[.ref l, .str b u], []⟩) (fun _ R s => s.heap.get? l = some { cls := .type "dict", dict := dd, data := .dict items n, slots := sl } ∧ R (.ok (.ret .notImplemented)) s) :=
  .of_wp fun prog w A R s h => by obtain ⟨hp, g, d, tk, os⟩ := s; obtain ⟨hl, h⟩ := h; have f1 := F.sub_str_dict; wp_walk using wpAny_loadPart' hl, wpAny_load hl; exact ⟨_, rfl, h⟩
section
variable {A : Around} {s : Shared}
theorem RcAt.str_dict {l : Addr} {items : Array DictEntry} {n : Nat} {dd : Option Addr} {sl : Array (Option Value)} (b : Str) (u : Tok) (ho : s.heap.get? l = some { cls := .type "dict", dict := dd, data := .dict items n, slots := sl }) (hu : A.units < cLine) : RcAt A s (.str b u) (.ref l) false := fun prog w E Q h => by
  exact rc_eq_decline_or (k := false) (typeIs_str s b u) ⟨_, ho, rfl⟩ (by decide) F.sub_dict_str F.slot_str_eq F.slot_dict_eq_refl
    (fun _ hq => call_meets F.slot_str_eq (typeIs_str s b u) F.entry_str_eq (F.args_str_eq_2 _ _) (str_eq_declines_dict b u l (.type "dict") items n dd sl) ⟨ho, hq⟩)
    (fun _ hq => call_meets F.slot_dict_eq_refl ⟨_, ho, rfl⟩ F.entry_dict_eq (F.args_dict_eq_2 _ _) (dict_eq_declines_str l items n dd sl b u) ⟨ho, hq⟩)
    (fun _ hq => wpAny_of_eq (rfl : isSame (.str b u) (.ref l) = pure false) hq) (.inr hu) h
theorem EqAt.str_dict {l : Addr} {items : Array DictEntry} {n : Nat} {dd : Option Addr} {sl : Array (Option Value)} (b : Str) (u : Tok) (ho : s.heap.get? l = some { cls := .type "dict", dict := dd, data := .dict items n, slots := sl }) (hu : A.units < cLine) : EqAt A s (.str b u) (.ref l) false := fun prog w E Q h => by
  unfold eqBool
  refine wpAny_holding ?_
  refine wpAny_ite_split (fun hab => absurd (eq_of_beq hab) nofun) (fun _ => ?_)
  exact wpAny_bind (RcAt.str_dict b u ho hu prog w E _ (wpAny_truthy_bool h))
end
theorem tuple_ne0 (l b : Addr) (items : Array Value) (n n2 : Nat) (dd dd2 : Option Addr) (sl sl2 : Array (Option Value)) :
    Meets (Builtin.«tuple.__ne__» ⟨[.ref l, .ref b], []⟩)
      (fun A R s => s.heap.get? l = some { cls := .type "tuple", dict := dd, data := .seq items n, slots := sl } ∧ s.heap.get? b = some { cls := .type "tuple", dict := dd2, data := .seq #[] n2, slots := sl2 } ∧
        R (.ok (.ret (.bool (items.size != 0)))) s) :=
  .of_wp fun prog w A R s h => by
    obtain ⟨hp, g, d, tk, os⟩ := s; obtain ⟨hl, hb, h⟩ := h
    have f2 := AutoSeq1.sub_tuple_tuple
    have hZ : (items.toList.zip (#[] : Array Value).toList) = [] := by simp
    wp_walk using wpAny_loadPart' hl, wpAny_loadPart' hb, wpAny_forIn_list _ (fun rest b s' => b.1 = none ∧ s' = ⟨hp, g, d, tk, os⟩ ∧ rest = []) _
    case turn =>
      rintro ⟨y, x⟩ rest b s' ⟨hb', rfl, hz⟩
      cases hz
    case fin =>
      rintro ⟨b1, b2⟩ s' ⟨hb', rfl, hz⟩
      simp only at hb'
      subst hb'
      wp_walk
      exact ⟨_, rfl, by simpa [Builtin.Tuple.tupleCompareSizes] using h⟩
    case h =>
      exact ⟨rfl, rfl, hZ⟩
theorem RcNe.tuple0 {A : Around} {s : Shared} {prog : Program} {w : World} {E : Value → Shared → Prop} {l b : Addr} {items : Array Value} {Q : Value → Shared → Prop} (hl : s.heap.IsTuple l items) (hb : s.heap.IsTuple b #[]) (hu : A.units < cLine)
    (h : Q (.bool (items.size != 0)) s) : wpAny (model prog w) A (compareOp .NotEq (.ref l) (.ref b)) Q E s := by
  obtain ⟨⟨cls, dd, data, sl⟩, ho, hc, n, hd⟩ := id hl
  obtain ⟨⟨cls2, dd2, data2, sl2⟩, ho2, hc2, n2, hd2⟩ := id hb
  simp only at hc hd hc2 hd2
  subst hc hd hc2 hd2
  exact richCompare_meets_room (op := .NotEq) ⟨_, ho, rfl⟩ ⟨_, ho2, rfl⟩ F.slot_tuple_ne F.entry_tuple_ne (F.args_tuple_ne_2 _ _) (tuple_ne0 l b items n n2 dd dd2 sl sl2)
    ⟨ho, ho2, show Value.bool (items.size != 0) ≠ Value.notImplemented ∧ Q (.bool (items.size != 0)) s from ⟨(fun x => nomatch x), h⟩⟩ hu
end PySem.SeqAt
namespace L2
open PySem PySem.Spec PyProof.Rows
section
variable {X : Cx}
def rNe0 (K : PySem.W.Frag) : R2 := fun x y H Q => ∃ (a b : Addr) (xs : List V), x = .ref a ∧ y = .ref b ∧ SqT K H a xs ∧ SqT K H b [] ∧ Q (.bl (!xs.isEmpty)) H
theorem op_neT0 (hu : X.A.units + 64 < cLine) : OpR X (compareOp .NotEq) (rNe0 X.K) := by
  intro pins s σ H x y v u Q I rx ry h
  obtain ⟨a, b, xs, rfl, rfl, ha, hb, q⟩ := h
  cases rx
  cases ry
  obtain ⟨its, r, pl, _⟩ := I.tuple ha
  obtain ⟨its2, r2, pl2, _⟩ := I.tuple hb
  cases r2
  refine SeqAt.RcNe.tuple0 pl pl2 (by omega) ⟨.bl _, H, I, rfl, ?_⟩
  have e : (its.toArray.size != 0) = !xs.isEmpty := by
    rw [List.size_toArray, ← r.length]
    cases xs <;> rfl
  rw [e]
  exact q
def rEq0 (K : PySem.W.Frag) : R2 := fun x y H Q => ∃ (a b : Addr) (xs : List V), x = .ref a ∧ y = .ref b ∧ SqT K H a xs ∧ SqT K H b [] ∧ Q (.bl xs.isEmpty) H
theorem op_eqT0 (hu : X.A.units + 64 < cLine) : OpR X (compareOp .Eq) (rEq0 X.K) := by
  intro pins s σ H x y v u Q I rx ry h
  obtain ⟨a, b, xs, rfl, rfl, ha, hb, q⟩ := h
  cases rx
  cases ry
  obtain ⟨its, r, pl, _⟩ := I.tuple ha
  obtain ⟨its2, r2, pl2, _⟩ := I.tuple hb
  cases r2
  refine SeqAt.eq_tupleAt (e := fun _ => true) pl pl2 (by omega) (fun j h1 h2 => by simp at h2) ⟨.bl _, H, I, rfl, ?_⟩
  have e : ((List.range (min its.toArray.size ([] : List Value).toArray.size)).all (fun _ => true) && its.toArray.size == ([] : List Value).toArray.size) = xs.isEmpty := by
    rw [List.size_toArray, ← r.length]
    cases xs <;> simp
  rw [e]
  exact q
/-- a value in a tuple of texts -/
def rInTx (K : PySem.W.Frag) : R2 := fun x y H Q => ∃ (p : Addr) (ks : List Str), y = .ref p ∧ SqT K H p (ks.map V.str) ∧ ((flatV x = true ∧ Q (.bl (inV x (ks.map V.str))) H) ∨ ∃ a, x = .ref a ∧ ((∃ us, SqL K H a us) ∨ (∃ us, SqT K H a us) ∨ ∃ m, H a = some (.dK m)) ∧ Q (.bl false) H)
theorem op_inTx (hu : X.A.units + 65 < cLine) : OpR X (compareOp .In) (rInTx X.K) := by
  intro pins s σ H x y v u Q I rx ry h
  obtain ⟨p, ks, rfl, hp, h⟩ := h
  rcases h with ⟨fx, q⟩ | ⟨a, rfl, ha, q⟩
  · exact op_in_seq pins s σ H x _ v u Q I rx ry ⟨p, _, rfl, .inr hp, fx, List.all_eq_true.mpr fun z hz => by
      obtain ⟨k, _, rfl⟩ := List.mem_map.mp hz
      rfl, q⟩
  · cases rx
    cases ry
    obtain ⟨its, r, pl, hz⟩ := I.tuple hp
    have hu1 : X.A.in1.units < cLine := by
      show X.A.units + 1 < cLine
      omega
    refine SeqAt.in_tupleAt (fun _ => false) pl (fun w hw => ?_) ⟨.bl _, H, I, rfl, ?_⟩
    · have hw' : w ∈ its := by simpa using hw
      obtain ⟨k, t, rfl⟩ : ∃ k t, w = Value.str k t := by
        have : ∀ {ks : List Str} {us : List Value}, Vals (ks.map V.str) us → ∀ u ∈ us, ∃ k t, u = Value.str k t := by
          intro ks us hv
          induction ks generalizing us with
          | nil => cases hv; intro u hu; cases hu
          | cons k ks ih =>
            cases hv with
            | cons r1 r2 =>
              obtain ⟨t, rfl⟩ := r1
              intro u hu
              rcases List.mem_cons.mp hu with rfl | hu
              · exact ⟨k, t, rfl⟩
              · exact ih r2 u hu
        exact this r w hw'
      rcases ha with ⟨us, ha⟩ | ⟨us, ha⟩ | ⟨m, ha⟩
      · obtain ⟨its2, _, pl2, _⟩ := I.list ha
        exact SeqAt.EqAt.str_list k t pl2.isList hu1
      · obtain ⟨its2, _, pl2, _⟩ := I.tuple ha
        exact SeqAt.EqAt.str_tuple k t pl2 hu1
      · obtain ⟨_, _, vs, _, o, es, ep, ho, hc, hd, _⟩ := (show ObjOk X.prog X.w H s.heap a (.dK m) from I.hok a _ ha)
        obtain ⟨cls, dd, data, sl⟩ := o
        have hc1 := hc.1
        simp only at hc1 hd
        subst hc1 hd
        exact SeqAt.EqAt.str_dict k t ho hu1
    · have e : its.toArray.any (fun _ => false) = false := by simp
      rw [e]
      exact q
end
end L2


namespace Toy
open PySem PySem.Spec L2 PyProof.Rows PySem.W
/-! ### the law's own exchange, and its own leaving out -/
abbrev sEx : Stmt := top 26
abbrev sLe : Stmt := top 27
def delS (H : Hp) (S : List Addr) : Hp := fun b => if b ∈ S then none else H b
theorem delS_some {H : Hp} {S : List Addr} {b : Addr} {o : HO} (n : b ∉ S) (h : H b = some o) : delS H S b = some o := by
  unfold delS
  rw [if_neg n]
  exact h
theorem at_delS {H : Hp} {S : List Addr} {b : Addr} {o : HO} (h : delS H S b = some o) : b ∉ S ∧ H b = some o := by
  unfold delS at h
  by_cases e : b ∈ S
  · rw [if_pos e] at h
    cases h
  · rw [if_neg e] at h
    exact ⟨e, h⟩
theorem Same.delS {H H' : Hp} (s : Same H H') (S : List Addr) : Same (delS H S) (delS H' S) := fun b o h => by
  obtain ⟨h1, h2⟩ := at_delS h
  exact delS_some h1 (s _ _ h2)
theorem delS_off {H : Hp} {S : List Addr} : Same (delS H S) H := fun b o h => (at_delS h).2
/-- D is not of H -/
theorem delS_in {H H' : Hp} {S : List Addr} {D : Addr} (s : Same H H') (nD : H D = none) : Same (delS H S) (delS H' (D :: S)) := fun b o h => by
  obtain ⟨h1, h2⟩ := at_delS h
  refine delS_some (fun z => ?_) (s _ _ h2)
  rcases List.mem_cons.mp z with e | e
  · rw [e, nD] at h2
    cases h2
  · exact h1 e
/-- what changes at D alone -/
theorem delS_at {H H' : Hp} {S : List Addr} {D : Addr} (s : But D H H') : Same (delS H (D :: S)) (delS H' (D :: S)) := fun b o h => by
  obtain ⟨h1, h2⟩ := at_delS h
  exact delS_some h1 (s _ _ (fun z => h1 (by rw [z]; exact List.mem_cons_self)) h2)
theorem delS_out {H : Hp} {S : List Addr} {D : Addr} : Same (delS H (D :: S)) (delS H S) := fun b o h => by
  obtain ⟨h1, h2⟩ := at_delS h
  exact delS_some (fun z => h1 (List.mem_cons_of_mem _ z)) h2
def StandS (S : List Addr) (H : Hp) : Prop := ∀ x ∈ S, ∃ o, H x = some o
theorem StandS.same {S : List Addr} {H H' : Hp} (h : StandS S H) (s : Same H H') : StandS S H' := fun x hx => by
  obtain ⟨o, ho⟩ := h x hx
  exact ⟨o, s _ _ ho⟩
theorem StandS.new {S : List Addr} {H : Hp} {p : Addr} (h : StandS S H) (np : H p = none) : p ∉ S := fun hp => by
  obtain ⟨o, ho⟩ := h p hp
  rw [np] at ho
  cases ho
theorem StandS.cons {S : List Addr} {H : Hp} {D : Addr} {o : HO} (h : StandS S H) (hD : H D = some o) : StandS (D :: S) H := fun x hx => by
  rcases List.mem_cons.mp hx with rfl | hx
  · exact ⟨_, hD⟩
  · exact h x hx
def spEx (K : PySem.W.Frag) (j : Nat) : Sp := fun vs H Q _ => ∃ (v : V) (a : Addr) (p : V) (n m : Nat) (d e c : D) (is : List Nat) (S : List Addr), n < j ∧ vs = [v, .ref a, p] ∧ StandS S H ∧ Da n (delS H S) v d ∧ Da m (delS H S) p e ∧ sub is d = some c ∧ SqT K H a (pth is d) ∧ is.length ≤ 900 ∧
  ∀ H' r, Same H H' → Da (n + m) (delS H' S) r (putI is e d) → Q r H'
def spLe (K : PySem.W.Frag) (j : Nat) : Sp := fun vs H Q _ => ∃ (v : V) (a : Addr) (n : Nat) (d c : D) (is : List Nat) (S : List Addr), n < j ∧ vs = [v, .ref a] ∧ StandS S H ∧ Da n (delS H S) v d ∧ is ≠ [] ∧ sub is d = some c ∧ SqT K H a (pth is d) ∧ is.length ≤ 900 ∧
  ∀ H' r, Same H H' → Da n (delS H' S) r (lessI is d) → Q r H'
/-- pairs of a step and a value, at tuples -/
def TupsAt (H : Hp) (ts : List Addr) (xs us : List V) : Prop := xs.length = us.length ∧ Paired (fun (t : Addr) (p : V × V) => H t = some (.tup [p.1, p.2])) ts (xs.zip us)
theorem TupsAt.len {H : Hp} {ts : List Addr} {xs us : List V} (h : TupsAt H ts xs us) : ts.length = us.length := by
  have := Paired.length h.2
  rw [List.length_zip, h.1] at this
  omega
theorem TupsAt.map {H H' : Hp} {ts : List Addr} {xs us : List V} (h : TupsAt H ts xs us) (k : ∀ t p, H t = some (.tup p) → H' t = some (.tup p)) : TupsAt H' ts xs us := ⟨h.1, L2.Paired.mapP h.2 fun t _ z => k t _ z⟩
theorem TupsAt.snoc {H : Hp} {ts : List Addr} {xs us : List V} {t : Addr} {x u : V} (h : TupsAt H ts xs us) (ht : H t = some (.tup [x, u])) : TupsAt H (ts ++ [t]) (xs ++ [x]) (us ++ [u]) := by
  refine ⟨by rw [List.length_append, List.length_append, h.1]; rfl, ?_⟩
  rw [List.zip_append h.1]
  exact Paired.snoc h.2 ht
theorem flat_step {d : D} {i : Nat} {x : V} (h : (stepsV d)[i]? = some x) : (∃ k : Nat, x = .int k ∧ k = i ∧ ∃ ds, d = .lst ds) ∨ ∃ k : Str, x = .str k ∧ ∃ ks ds, d = .dct ks ds ∧ (skeys ks)[i]? = some k := by
  cases d with
  | lst ds =>
    have hi : i < ds.length := by
      have := (List.getElem?_eq_some_iff.mp h).1
      simpa [stepsV] using this
    simp only [stepsV, List.getElem?_map, List.getElem?_range hi] at h
    exact .inl ⟨i, (Option.some.inj h).symm, rfl, _, rfl⟩
  | dct ks ds =>
    obtain ⟨key, hk, rfl⟩ : ∃ key, (skeys ks)[i]? = some key ∧ V.str key = x := by simpa [stepsV] using h
    exact .inr ⟨key, rfl, ks, ds, rfl, hk⟩
  | _ => simp [stepsV] at h
theorem step_scal {d : D} {i j : Nat} {x y : V} (h : (stepsV d)[i]? = some x) (h' : (stepsV d)[j]? = some y) : scal x y = true := by
  rcases flat_step h with ⟨k, rfl, _, ds, rfl⟩ | ⟨k, rfl, ks, ds, rfl, _⟩
  · rcases flat_step h' with ⟨k', rfl, _⟩ | ⟨_, _, _, _, z, _⟩
    · rfl
    · cases z
  · rcases flat_step h' with ⟨_, _, _, _, z⟩ | ⟨k', rfl, _⟩
    · cases z
    · rfl
theorem step_eq {n : Nat} {d : D} {i j : Nat} {x y : V} (w : Wd n d) (h : (stepsV d)[i]? = some x) (h' : (stepsV d)[j]? = some y) : decide (x = y) = decide (i = j) := by
  refine decide_eq_decide.mpr ⟨fun e => ?_, fun e => by subst e; rw [h] at h'; exact Option.some.inj h'⟩
  subst e
  rcases flat_step h with ⟨k, rfl, e1, ds, rfl⟩ | ⟨k, rfl, ks, ds, rfl, hk⟩
  · rcases flat_step h' with ⟨k', e2, e3, _⟩ | ⟨_, _, _, _, z, _⟩
    · have := V.int.inj e2
      omega
    · cases z
  · rcases flat_step h' with ⟨_, _, _, _, z⟩ | ⟨k', e2, _, _, z, hk'⟩
    · cases z
    · cases z
      have e2 := V.str.inj e2
      subst e2
      cases n with
      | zero => simp [Wd] at w
      | succ n =>
        have nd := skeys_nodup w.dct.1
        obtain ⟨h1, h2⟩ := List.getElem?_eq_some_iff.mp hk
        obtain ⟨h3, h4⟩ := List.getElem?_eq_some_iff.mp hk'
        exact (List.getElem_inj nd).mp (h2.trans h4.symm)
theorem cut_tail (x : V) (ts : List V) : cutV (x :: ts) (some 1) none = ts := by
  unfold cutV
  rw [show HT.sIx (x :: ts).length 0 (some 1) = min 1 (x :: ts).length from HT.sIx_nat _ _ 1, HT.sIx_none, List.length_cons, show min 1 (ts.length + 1) = 1 by omega]
  rw [List.drop_succ_cons, List.drop_zero, List.take_of_length_le (by omega)]
theorem slA_run {K : PySem.W.Frag} {H : Hp} {a : Addr} {xs : List V} {Q : VK} {lo hi : Option Int} (h : SqT K H a xs) (q : ∀ H' c, Same H H' → SqT K H' c (cutV xs lo hi) → Q (.ref c) H') (hw : HT.sIx xs.length 0 lo = 0 ∧ HT.sIx xs.length xs.length hi = xs.length → cutV xs lo hi = xs) : rSlA K (.ref a) lo hi H Q :=
  ⟨a, xs, rfl, h, fun c => q H a same_id (by rw [hw c]; exact h), fun _ p np => q _ p (same_new same_id np) (SqT.of upd_same)⟩
theorem cut_all {xs : List V} {lo hi : Option Int} (h : HT.sIx xs.length 0 lo = 0 ∧ HT.sIx xs.length xs.length hi = xs.length) : cutV xs lo hi = xs := by
  unfold cutV
  rw [h.1, h.2, List.drop_zero, Nat.sub_zero, List.take_length]
/-- the datum of rows -/
theorem rows_dct {ks : List Str} {us : List V} (hl : us.length = ks.length) (nd : ks.Nodup) : mergeK [] (kvOf ks us) = kvOf ks us := by
  refine merge_new _ [] ?_
  rw [List.nil_append, kv_keys hl]
  exact List.Pairwise.map _ (fun a b h z => h (Sum.inr.inj z)) nd
theorem tups_kv {H : Hp} {ts : List Addr} {ks : List Str} {us : List V} (h : TupsAt H ts (ks.map V.str) us) : Paired (fun (p : Addr) (kv : Key × V) => H p = some (.tup [kV kv.1, kv.2])) ts (kvOf ks us) := by
  obtain ⟨h1, h2⟩ := h
  unfold kvOf
  have : ∀ {ts : List Addr} {ks : List Str} {us : List V}, Paired (fun (t : Addr) (p : V × V) => H t = some (.tup [p.1, p.2])) ts ((ks.map V.str).zip us) → Paired (fun (p : Addr) (kv : Key × V) => H p = some (.tup [kV kv.1, kv.2])) ts ((ks.zip us).map fun p => ((Sum.inr p.1 : Key), p.2)) := by
    intro ts ks
    induction ks generalizing ts with
    | nil =>
      intro us p
      cases p
      exact .nil
    | cons k ks ih =>
      intro us p
      cases us with
      | nil => cases p; exact .nil
      | cons u us =>
        rw [List.map_cons, List.zip_cons_cons] at p
        cases p with
        | cons r t => exact .cons r (ih t)
  exact this h2
/-- lists of at most 20 items -/
theorem inner_20 {n : Nat} {H : Hp} {v : V} {d : D} (h : Da n H v d) : (inner d).length ≤ 20 := by
  cases d with
  | lst ds =>
    cases n with
    | zero => simp only [Da] at h
    | succ n =>
      simp only [Da] at h
      obtain ⟨a, xs, rfl, h2, h3, h4⟩ := h
      have := Paired.length h4
      show ds.length ≤ 20
      omega
  | dct ks ds =>
    cases n with
    | zero => simp only [Da] at h
    | succ n =>
      simp only [Da] at h
      obtain ⟨a, us, rfl, h2, h3, _⟩ := h
      rw [inner_dlen, skeys_len]
      exact h3
  | _ => exact Nat.zero_le _
theorem keys_ok {n : Nat} {H : Hp} {v : V} {ks : List Str} {ds : List D} (h : Da n H v (.dct ks ds)) : ∀ k ∈ skeys ks, PyData.strOk k = true := by
  cases n with
  | zero => simp only [Da] at h
  | succ n =>
    simp only [Da] at h
    obtain ⟨a, us, rfl, h2, h3, h4, h5, h6, h7⟩ := h
    exact fun k hk => h6 k ((skeys_perm ks).mem_iff.mp hk)
theorem tyl_of {K : PySem.W.Frag} {n : Nat} {H : Hp} {v : V} {d : D} (h : Da n H v d) (hp : 5 ≤ place d) : (∃ ds, d = .lst ds ∧ TyX K H v (.type "list")) ∨ ∃ ks ds, d = .dct ks ds ∧ TyX K H v (.type "dict") := by
  cases d with
  | lst ds => exact .inl ⟨_, rfl, ty_of h⟩
  | dct ks ds => exact .inr ⟨_, _, rfl, ty_of h⟩
  | bl b => cases b <;> simp [place] at hp
  | _ => simp [place] at hp
end Toy


namespace Toy
open PySem PySem.Spec L2 PyProof.Rows PySem.W
abbrev NEx : List Str := ["_law_datum_here", "_law_spot", "_law_part", "_law_rows", "_law_step", "_law_row"]
def tStep (K : PySem.W.Frag) (i j : Nat) : TE := tEither (tOp (rIxL K) (tVar i) (tVar j)) (tDGet (tVar i) (tVar j))
theorem slA_runN {K : PySem.W.Frag} {H : Hp} {a : Addr} {xs : List V} {Q : VK} {σ : L2.St} {lo : Option Int} (h : SqT K H a xs) (q : ∀ H' c, Same H H' → SqT K H' c (cutV xs lo none) → Q (.ref c) H') : tNoPart σ H (fun u H3 => rSlA K (.ref a) lo u H3 Q) := slA_run (hi := none) h q cut_all
theorem er_ne {α : Type} {l : List α} {x : α} {k : Nat} (h : l.length ≠ k) : (l ++ [x]).eraseIdx k = l.eraseIdx k ++ [x] := by
  rcases Nat.lt_or_ge k l.length with z | z
  · exact List.eraseIdx_append_of_lt_length z _
  · rw [List.eraseIdx_of_length_le (by rw [List.length_append, List.length_singleton]; omega), List.eraseIdx_of_length_le z]
theorem er_eq {α : Type} {l : List α} {x : α} {k : Nat} (h : l.length = k) : (l ++ [x]).eraseIdx k = l.eraseIdx k := by
  subst h
  rw [List.eraseIdx_append_of_length_le (Nat.le_refl _), Nat.sub_self, List.eraseIdx_of_length_le (Nat.le_refl _)]
  simp
section
variable {P : Program} {w : World} {K : PySem.W.Frag} {mg : Str → Option Value} {base : Heap}
theorem scEx : FnScope NEx ["_law_datum_here", "_law_spot", "_law_part"] (defScope sEx) := ⟨rfl, rfl, rfl, by decide +kernel, rfl, by decide +kernel, by decide +kernel⟩
theorem ok_ex {f fK : Addr} {fd fdK : FuncData} (F : Fun K "_law_exchanged" "_law_exchanged" sEx f fd) (mF : mg "_law_exchanged" = some (.ref f)) (kF : PySem.W.keepIn K (.ref f) = true) (bF : Binds K fd ["_law_datum_here", "_law_spot", "_law_part"] [])
    (GK : FnOk P w K mg base CX0 1 fK fdK ["_law_datum_here"] spSteps) (mK : mg "_law_keys" = some (.ref fK)) (kK : PySem.W.keepIn K (.ref fK) = true) (bK : Binds K fdK ["_law_datum_here"] [])
    (mI : mg "isinstance" = none) (mL : mg "list" = none) (mD : mg "dict" = none) :
    ∀ j : Nat, FnOk P w K mg base CX0 (j + 2) f fd ["_law_datum_here", "_law_spot", "_law_part"] (spEx K j) := by
  intro j
  induction j with
  | zero => exact F.ok (k := 1) scEx (fun vs H Q E h => by obtain ⟨v, a, p, n, m, d, e, c, is, S, h0, _⟩ := h; exact absurd h0 (Nat.not_lt_zero _)) (fun cdv A outer s H vs Q E hr h => by obtain ⟨v, a, p, n, m, d, e, c, is, S, h0, _⟩ := h; exact absurd h0 (Nat.not_lt_zero _))
  | succ j ih =>
    refine F.ok (k := j + 2) scEx (fun vs H Q E h => ?_) (fun cdv A outer s H vs Q E hr h => ?_)
    · obtain ⟨v, a, p, n, m, d, e, c, is, S, _, rfl, _⟩ := h
      rfl
    · obtain ⟨v, a, p, n, m, d, e, cz, is, S, hnj, rfl, hS, hd, hp, hs, ha, hl9, q⟩ := h
      have hr1 : Room 1 (A.deeper (PyProof.Rows.envOfC "_law_exchanged" (defScope sEx) s.heap.objs.size f cdv)) := hr.mono (by omega)
      have hu := hu_of hr
      have hu64 := hr.units
      refine ⟨_, pss_cons (ps_if (pt_cmpR (op_eqT0 hu64) (pv 1) (pe_tup pa_nil) (nomark _)) (pss_one (ps_ret (pv 2))) pss_nil)
        (pss_cons (ps_setLc (i := 3) (own := [("_law_step", 4)]) (g := gName 4) (te := tTup (tCons (tVar 4) (tCons (tIf (tTest (tOp rEq (tVar 4) (tOp (rIxT K) (tVar 1) (tC (.int 0))))) (tCall (spEx K j) [] E0 (tCons (tStep K 0 4) (tCons (tSl (rSlA K) (tVar 1) (tPart (tC (.int 1))) tNoPart) (tCons (tVar 2) tNil)))) (tStep K 0 4)) tNil))) (by rfl) scEx.nd rfl rfl (sw_true rfl rfl rfl (by decide +kernel)) (pi_list (pe_call GK hr1 (by rfl) mK kK bK .nil pass0 (pa_cons (pv 0) pa_nil)))
            (blkOk_by (own := [("_law_step", 4)]) (N := NEx) (sc := defScope sEx) (by decide +kernel)) (fun _ _ _ _ _ => pg_name (i := 4) scEx.nd rfl (Or.inl rfl)) (fun _ _ _ _ _ => pts_nil)
            (fun _ _ _ _ _ => pe_tup (pa_cons (pv 4) (pa_cons (pe_ifExp (pt_cmpR op_eq (pv 4) (pe_ix ix_tup (pv 1) pe_int (fun _ _ => rfl)) (nomark _))
              (pe_call ih hr (by rfl) mF kF bF .nil pass0 (pa_cons (te := tStep K 0 4) (pe_either (pe_ix ix_list (pv 0) (pv 4) (fun _ _ => rfl)) (pe_dget hu (pv 0) (pv 4) (fun _ _ => rfl))) (pa_cons (pe_slice sl_tupA (pv 1) (po_some pe_int) po_none) (pa_cons (pv 2) pa_nil))))
              (pe_either (pe_ix ix_list (pv 0) (pv 4) (fun _ _ => rfl)) (pe_dget hu (pv 0) (pv 4) (fun _ _ => rfl)))) pa_nil))))
        (pss_one (ps_ret (pe_ifExp (pt_val (pe_callB call_isi (by rfl) mI PyProof.Rows.boot_isinstance (pa_cons (pv 0) (pa_cons (pe_bltn (v := .ty "list") (by rfl) mL (by decide +kernel) rfl) pa_nil))))
          (pe_lc (own := [("_law_row", 5)]) (g := gName 5) (te := tOp (rIxT K) (tVar 5) (tC (.int 1))) (by rfl) scEx.nd (pi_list (pv 3))
            (blkOk_by (own := [("_law_row", 5)]) (N := NEx) (sc := defScope sEx) (by decide +kernel)) (fun _ _ _ _ _ => pg_name (i := 5) scEx.nd rfl (Or.inl rfl)) (fun _ _ _ _ _ => pts_nil)
            (fun _ _ _ _ _ => pe_ix ix_tup (pv 5) pe_int (fun _ _ => rfl)))
          (pe_callTy (call_dictP rfl) (by rfl) mD (by decide +kernel) (pa_cons (pv 3) pa_nil)))))), ?_⟩
      refine ⟨_, rfl, Nat.zero_le _, fun T0 nT0 => ⟨a, T0, _, rfl, rfl, seqT_same (same_new same_id nT0) ha, SqT.of upd_same, _, rfl, ?_⟩⟩
      have s0 : Same H (upd H T0 (.tup [])) := same_new same_id nT0
      generalize upd H T0 (.tup []) = H0 at s0 ⊢
      cases is with
      | nil =>
        cases hs
        exact ite2 (fun _ => ⟨_, rfl, q H0 _ s0 (hp.mono (Same.delS s0 S) (by omega))⟩) (fun c => absurd rfl c)
      | cons i0 is =>
      rw [sub] at hs
      cases hc0 : (inner d)[i0]? with
      | none => rw [hc0] at hs; cases hs
      | some c0 =>
      rw [hc0] at hs
      have hs : sub is c0 = some cz := hs
      obtain ⟨x0, hx0⟩ := step_of hc0
      have epth : pth (i0 :: is) d = x0 :: pth is c0 := by
        rw [pth, hx0, hc0]
      rw [epth] at ha ⊢
      refine ite2 (fun c => by cases c) (fun _ => ?_)
      refine nx_run ?_
      obtain ⟨n', u0, rfl, hst0, hdc0⟩ := da_step hd hx0 hc0
      have w := hd.wd
      have l20 := inner_20 hd
      have lst := inner_len d
      refine ⟨_, rfl, v, n' + 1, d, rfl, hd.mono (delS_off.trans s0) (Nat.le_refl _), fun H1 R s1 nR hR => ⟨R, rfl, ⟨_, SqL.of hR⟩, fun D nD => ?_⟩⟩
      have s01 := s0.trans s1
      have nD0 : H D = none := fresh_of s01 nD
      have ecs : ∃ cs : List Toy.D, cs = (inner d).set i0 (putI is e c0) := ⟨_, rfl⟩
      obtain ⟨cs, ecs⟩ := ecs
      have lcs : cs.length = (inner d).length := by rw [ecs, List.length_set]
      refine lc_list (K := K) (a := R) (xs := stepsV d) (fun i H' => ∃ (ts : List Addr) (us : List V), H' D = some (.lst (ts.map V.ref)) ∧ us.length = i ∧ Same H1 H' ∧ TupsAt H' ts ((stepsV d).take i) us ∧ Paired (fun u c => Da (n' + m) (delS H' (D :: S)) u c) us (cs.take i))
        ⟨[], [], upd_same, rfl, same_new same_id nD, ⟨rfl, .nil⟩, .nil⟩ ?_ ?_ ?_
      · rintro i H' _ ⟨ts, us, _, _, s2, _⟩
        exact SqL.of (s2 _ _ hR)
      · rintro i x H3 hx ⟨ts, us, hD3, lus, s3, htu, hda⟩
        have hi : i < (inner d).length := by
          rw [inner_len]
          exact (List.getElem?_eq_some_iff.mp hx).1
        have hc : (inner d)[i]? = some (inner d)[i] := List.getElem?_eq_getElem hi
        generalize (inner d)[i] = c at hc
        obtain ⟨n2, u, en, hst, hdc⟩ := da_step hd hx hc
        obtain rfl : n2 = n' := by omega
        have s03 := s01.trans s3
        have lts := htu.len
        have fin : ∀ H5 y z, Same H3 H5 → Da (n2 + m) (delS H5 (D :: S)) y z → cs[i]? = some z → [x, y].length ≤ sizeLine ∧ ∀ T, H5 T = none → ∃ acc, (upd H5 T (.tup [x, y])) D = some (.lst acc) ∧ acc.length < sizeLine ∧ ∃ (ts : List Addr) (us : List V), (upd (upd H5 T (.tup [x, y])) D (.lst (acc ++ [.ref T]))) D = some (.lst (ts.map V.ref)) ∧ us.length = i + 1 ∧ Same H1 (upd (upd H5 T (.tup [x, y])) D (.lst (acc ++ [.ref T]))) ∧ TupsAt (upd (upd H5 T (.tup [x, y])) D (.lst (acc ++ [.ref T]))) ts ((stepsV d).take (i + 1)) us ∧ Paired (fun u c => Da (n2 + m) (delS (upd (upd H5 T (.tup [x, y])) D (.lst (acc ++ [.ref T]))) (D :: S)) u c) us (cs.take (i + 1)) := fun H5 y z s5 hy hz => by
          refine ⟨few (by show 2 ≤ 1000; decide), fun T nT => ?_⟩
          have hD5 := s5 _ _ hD3
          have nDT : D ≠ T := ne_of_none hD5 nT
          have keep : ∀ b o, b ≠ D → H5 b = some o → (upd (upd H5 T (.tup [x, y])) D (.lst (ts.map V.ref ++ [.ref T]))) b = some o := fun b o hb ho => by
            rw [upd_ne hb, upd_ne (ne_of_none ho nT)]
            exact ho
          have upS : Same (delS H5 (D :: S)) (delS (upd (upd H5 T (.tup [x, y])) D (.lst (ts.map V.ref ++ [.ref T]))) (D :: S)) := delS_at keep
          refine ⟨ts.map V.ref, (upd_ne nDT).trans hD5, small1000 (by rw [List.length_map]; omega), ts ++ [T], us ++ [y], by rw [upd_same, List.map_append]; rfl, by rw [List.length_append, lus]; rfl, ?_, ?_, ?_⟩
          · intro b o ho
            exact keep b o (ne_of_none ho nD) (s5 _ _ (s3 _ _ ho))
          · rw [List.take_add_one, hx, Option.toList_some]
            refine TupsAt.snoc (htu.map fun t p ht => keep t _ (ne_of ht hD3 (by intro z; cases z)) (s5 _ _ ht)) ?_
            rw [upd_ne nDT.symm, upd_same]
          · rw [List.take_add_one, hz, Option.toList_some]
            exact Paired.snoc (L2.Paired.mapP hda fun _ _ z => z.mono ((Same.delS s5 _).trans upS) (Nat.le_refl _)) (hy.mono upS (Nat.le_refl _))
        refine ⟨rfl, _, rfl, _, rfl, _, rfl, a, _, 0, x0, rfl, rfl, seqT_same s03 ha, atI_nat (j := 0) rfl, step_scal hx hx0, _, rfl, ?_⟩
        rw [step_eq w hx hx0]
        refine ite2 (fun c1 => ?_) (fun c1 => ?_)
        · have ei : i = i0 := of_decide_eq_true c1
          subst ei
          rw [hx] at hx0
          cases hx0
          rw [hc] at hc0
          cases hc0
          refine step_run rfl rfl hst (delS_off.trans s03) ⟨_, rfl, 1, rfl, ?_⟩
          refine slA_runN (seqT_same s03 ha) fun H4 cc s4 hcc => ⟨_, rfl, ?_⟩
          rw [cut_tail] at hcc
          have s04 := s03.trans s4
          have hD4 := s4 _ _ hD3
          refine ⟨u, cc, p, n2, m, c0, e, cz, is, D :: S, by omega, rfl, (hS.same s04).cons hD4, hdc.mono (delS_in s04 nD0) (Nat.le_refl _), hp.mono (delS_in s04 nD0) (Nat.le_refl _), hs, hcc, by rw [List.length_cons] at hl9; omega, fun H5 y s5 hy => ?_⟩
          exact fin H5 y (putI is e c0) (s4.trans s5) hy (by rw [ecs, List.getElem?_set_self hi])
        · have ei : i0 ≠ i := fun z => c1 (decide_eq_true z.symm)
          exact step_run rfl rfl hst (delS_off.trans s03) (fin H3 u c same_id (hdc.mono (delS_in s03 nD0) (by omega)) (by rw [ecs, List.getElem?_set_ne ei]; exact hc))
      · rintro H3 ⟨ts, us, hD3, lus, s3, htu, hda⟩
        rw [List.take_length] at htu
        rw [← lst, ← lcs, List.take_length] at hda
        have s03 := s01.trans s3
        have hDS : Paired (fun u c => Da (n' + m) (delS H3 S) u c) us cs := L2.Paired.mapP hda fun _ _ z => z.mono delS_out (Nat.le_refl _)
        have lts := htu.len
        have eput : putI (i0 :: is) e d = setI i0 (putI is e c0) d := by rw [putI, hc0]
        rw [eput] at q
        rcases tyl_of (K := K) (hd.mono (delS_off.trans s03) (Nat.le_refl _)) (place_big hc0) with ⟨ds, rfl, ty⟩ | ⟨ks, ds, rfl, ty⟩
        · refine ⟨_, rfl, _, _, _, _, true, rfl, .ty _, ty, kit_ty (by decide +kernel), _, rfl, iteT ⟨_, rfl, D, rfl, ⟨_, SqL.of hD3⟩, fun D2 nD2 => ?_⟩⟩
          refine lc_list (K := K) (a := D) (xs := ts.map V.ref) (fun i H' => H' D2 = some (.lst (us.take i)) ∧ Same H3 H') ⟨upd_same, same_new same_id nD2⟩ ?_ ?_ ?_
          · rintro i H' _ ⟨_, s4⟩
            exact SqL.of (s4 _ _ hD3)
          · rintro i x H4 hx ⟨hD4, s4⟩
            rw [List.getElem?_map] at hx
            cases ht : ts[i]? with
            | none => rw [ht] at hx; cases hx
            | some t =>
              rw [ht] at hx
              cases hx
              obtain ⟨pr, hpr, hto⟩ := paired_get htu.2 i t ht
              obtain ⟨z1, z2⟩ : (stepsV (.lst ds))[i]? = some pr.1 ∧ us[i]? = some pr.2 := by
                have := List.getElem?_zip_eq_some.mp hpr
                exact this
              have lui : us.length ≤ 20 := by omega
              refine ⟨rfl, _, rfl, t, _, 1, pr.2, rfl, rfl, SqT.of (s4 _ _ hto), atI_nat (j := 1) rfl, us.take i, hD4, small1000 (by rw [List.length_take]; omega), ?_, ?_⟩
              · rw [upd_same, List.take_add_one, z2]
                rfl
              · intro b o ho
                rw [upd_ne (ne_of_none ho nD2)]
                exact s4 _ _ ho
          · rintro H4 ⟨hD4, s4⟩
            rw [List.length_map, lts, List.take_length] at hD4
            have nS2 : D2 ∉ S := (hS.same s03).new nD2
            refine q H4 (.ref D2) (s03.trans s4) ?_
            have key : Da (n' + m + 1) (delS H4 S) (.ref D2) (setI i0 (putI is e c0) (.lst ds)) := by
              simp only [setI, Da]
              refine ⟨D2, us, rfl, delS_some nS2 hD4, by omega, ?_⟩
              rw [ecs] at hDS
              exact L2.Paired.mapP hDS fun _ _ z => z.mono (Same.delS s4 S) (Nat.le_refl _)
            exact key.mono same_id (by omega)
        · refine ⟨_, rfl, _, _, _, _, false, rfl, .ty _, ty, kit_ty (by decide +kernel), _, rfl, iteF ⟨_, rfl, D, ts, kvOf (skeys ks) us, rfl, SqL.of hD3, L2.Paired.mapP (tups_kv htu) fun _ _ z => SqT.of z, fun p2 np2 => ?_⟩⟩
          have nd := skeys_nodup hd.wd.dct.1
          have lk : us.length = (skeys ks).length := by
            have := htu.1
            rw [show stepsV (.dct ks ds) = (skeys ks).map V.str from rfl, List.length_map] at this
            exact this.symm
          rw [rows_dct lk nd]
          have nS2 : p2 ∉ S := (hS.same s03).new np2
          have s4 : Same H3 (upd H3 p2 (.dK (kvOf (skeys ks) us))) := same_new same_id np2
          refine q _ (.ref p2) (s03.trans s4) ?_
          have key : Da (n' + m + 1) (delS (upd H3 p2 (.dK (kvOf (skeys ks) us))) S) (.ref p2) (setI i0 (putI is e c0) (.dct ks ds)) := by
            simp only [setI, Da]
            rw [ecs] at hDS
            have lin := inner_dlen ks ds
            exact ⟨p2, us, rfl, delS_some nS2 upd_same, by omega, lk, nd, keys_ok hd, L2.Paired.mapP hDS fun _ _ z => z.mono (Same.delS s4 S) (Nat.le_refl _)⟩
          exact key.mono same_id (by omega)
end
end Toy


namespace Toy
open PySem PySem.Spec L2 PyProof.Rows PySem.W
abbrev NLe : List Str := ["_law_datum_here", "_law_spot", "_law_rows", "_law_step", "_law_row"]
/-- what the rows are to be, step by step -/
theorem less_plan {n : Nat} {d c0 : D} {i0 : Nat} {is : List Nat} {x0 : V} (w : Wd n d) (hc0 : (inner d)[i0]? = some c0) (hx0 : (stepsV d)[i0]? = some x0) : ∃ (tX : Nat → List V) (tC : Nat → List D), tX 0 = [] ∧ tC 0 = [] ∧
    (∀ i x c, i ≠ i0 → (stepsV d)[i]? = some x → (inner d)[i]? = some c → tX (i + 1) = tX i ++ [x] ∧ tC (i + 1) = tC i ++ [c]) ∧
    ((is = [] ∧ tX (i0 + 1) = tX i0 ∧ tC (i0 + 1) = tC i0) ∨ (is ≠ [] ∧ tX (i0 + 1) = tX i0 ++ [x0] ∧ tC (i0 + 1) = tC i0 ++ [lessI is c0])) ∧
    (∀ ds, d = .lst ds → lessI (i0 :: is) d = .lst (tC (stepsV d).length)) ∧ (∀ ks ds, d = .dct ks ds → ∃ ls : List Str, lessI (i0 :: is) d = .dct ls (tC (stepsV d).length) ∧ tX (stepsV d).length = ls.map V.str ∧ ls.Nodup ∧ ∀ k ∈ ls, k ∈ skeys ks) ∧ (tC (stepsV d).length).length ≤ (inner d).length := by
  have lst := inner_len d
  have hi0 : i0 < (inner d).length := (List.getElem?_eq_some_iff.mp hc0).1
  cases is with
  | nil =>
    refine ⟨fun i => ((stepsV d).take i).eraseIdx i0, fun i => ((inner d).take i).eraseIdx i0, rfl, rfl, fun i x c hi hx hc => ?_, .inl ⟨rfl, ?_, ?_⟩, fun ds e => ?_, fun ks ds e => ?_, ?_⟩
    · have l1 : i < (stepsV d).length := (List.getElem?_eq_some_iff.mp hx).1
      dsimp only
      rw [List.take_add_one, List.take_add_one, hx, hc, Option.toList_some, Option.toList_some]
      exact ⟨er_ne (by rw [List.length_take]; omega), er_ne (by rw [List.length_take]; omega)⟩
    · dsimp only
      rw [List.take_add_one, hx0, Option.toList_some]
      exact er_eq (by rw [List.length_take]; omega)
    · dsimp only
      rw [List.take_add_one, hc0, Option.toList_some]
      exact er_eq (by rw [List.length_take]; omega)
    · subst e
      dsimp only
      rw [← lst, List.take_length]
      rfl
    · subst e
      refine ⟨(skeys ks).eraseIdx i0, ?_, ?_, ?_, fun k hk => (List.eraseIdx_sublist _ _).subset hk⟩
      · dsimp only
        rw [← lst, List.take_length]
        rfl
      · dsimp only
        rw [List.take_length, eraseIdx_map']
        rfl
      · cases n with
        | zero => simp [Wd] at w
        | succ n => exact (skeys_nodup w.dct.1).sublist (List.eraseIdx_sublist _ _)
    · dsimp only
      rw [← lst, List.take_length, List.length_eraseIdx]
      split <;> omega
  | cons k is =>
    have es : lessI (i0 :: k :: is) d = setI i0 (lessI (k :: is) c0) d := by rw [less_step, hc0]
    refine ⟨fun i => (stepsV d).take i, fun i => ((inner d).set i0 (lessI (k :: is) c0)).take i, rfl, rfl, fun i x c hi hx hc => ?_, .inr ⟨by simp, ?_, ?_⟩, fun ds e => ?_, fun ks ds e => ?_, ?_⟩
    · dsimp only
      rw [List.take_add_one, List.take_add_one, hx, List.getElem?_set_ne (fun z => hi z.symm), hc]
      exact ⟨rfl, rfl⟩
    · dsimp only
      rw [List.take_add_one, hx0]
      rfl
    · dsimp only
      rw [List.take_add_one, List.getElem?_set_self hi0]
      rfl
    · subst e
      rw [es]
      dsimp only
      rw [List.take_of_length_le (by rw [List.length_set]; omega)]
      rfl
    · subst e
      refine ⟨skeys ks, ?_, ?_, ?_, fun k hk => hk⟩
      · rw [es]
        dsimp only
        rw [List.take_of_length_le (by rw [List.length_set]; omega)]
        rfl
      · dsimp only
        rw [List.take_length]
        rfl
      · cases n with
        | zero => simp [Wd] at w
        | succ n => exact skeys_nodup w.dct.1
    · dsimp only
      rw [List.length_take, List.length_set]
      omega
section
variable {P : Program} {w : World} {K : PySem.W.Frag} {mg : Str → Option Value} {base : Heap}
theorem scLe : FnScope NLe ["_law_datum_here", "_law_spot"] (defScope sLe) := ⟨rfl, rfl, rfl, by decide +kernel, rfl, by decide +kernel, by decide +kernel⟩
theorem ok_le {f fK : Addr} {fd fdK : FuncData} (F : Fun K "_law_less" "_law_less" sLe f fd) (mF : mg "_law_less" = some (.ref f)) (kF : PySem.W.keepIn K (.ref f) = true) (bF : Binds K fd ["_law_datum_here", "_law_spot"] [])
    (GK : FnOk P w K mg base CX0 1 fK fdK ["_law_datum_here"] spSteps) (mK : mg "_law_keys" = some (.ref fK)) (kK : PySem.W.keepIn K (.ref fK) = true) (bK : Binds K fdK ["_law_datum_here"] [])
    (mI : mg "isinstance" = none) (mL : mg "list" = none) (mD : mg "dict" = none) (mLen : mg "len" = none) :
    ∀ j : Nat, FnOk P w K mg base CX0 (j + 2) f fd ["_law_datum_here", "_law_spot"] (spLe K j) := by
  intro j
  induction j with
  | zero => exact F.ok (k := 1) scLe (fun vs H Q E h => by obtain ⟨v, a, n, d, c, is, S, h0, _⟩ := h; exact absurd h0 (Nat.not_lt_zero _)) (fun cdv A outer s H vs Q E hr h => by obtain ⟨v, a, n, d, c, is, S, h0, _⟩ := h; exact absurd h0 (Nat.not_lt_zero _))
  | succ j ih =>
    refine F.ok (k := j + 2) scLe (fun vs H Q E h => ?_) (fun cdv A outer s H vs Q E hr h => ?_)
    · obtain ⟨v, a, n, d, c, is, S, _, rfl, _⟩ := h
      rfl
    · obtain ⟨v, a, n, d, cz, is, S, hnj, rfl, hS, hd, hne, hs, ha, hl9, q⟩ := h
      have hr1 : Room 1 (A.deeper (PyProof.Rows.envOfC "_law_less" (defScope sLe) s.heap.objs.size f cdv)) := hr.mono (by omega)
      have hu := hu_of hr
      refine ⟨_, pss_cons (ps_set (i := 2) scLe.nd rfl (Or.inl rfl) (pe_lst pa_nil))
        (pss_cons (ps_for PassesOwn.never rfl (pi_list (pe_call GK hr1 (by rfl) mK kK bK .nil pass0 (pa_cons (pv 0) pa_nil))) (pg_name (i := 3) scLe.nd rfl (Or.inl rfl))
          (pss_one (ps_if (pt_cmpR op_ne (pv 3) (pe_ix ix_tup (pv 1) pe_int (fun _ _ => rfl)) (nomark _))
            (pss_one (ps_expr (pe_bm PySem.F.plainAttrs_list PySem.F.slot_list_append PySem.F.type_list_append mt_append (pv 2) (pa_cons (pe_tup (pa_cons (pv 3) (pa_cons (te := tStep K 0 3) (pe_either (pe_ix ix_list (pv 0) (pv 3) (fun _ _ => rfl)) (pe_dget hu (pv 0) (pv 3) (fun _ _ => rfl))) pa_nil))) pa_nil))))
            (pss_one (ps_if (pt_cmpR op_gt (pe_callB call_len_seq (by rfl) mLen PySem.boot_len (pa_cons (pv 1) pa_nil)) pe_int (nomark _))
              (pss_one (ps_expr (pe_bm PySem.F.plainAttrs_list PySem.F.slot_list_append PySem.F.type_list_append mt_append (pv 2) (pa_cons (pe_tup (pa_cons (pv 3) (pa_cons (pe_call ih hr (by rfl) mF kF bF .nil pass0 (pa_cons (te := tStep K 0 3) (pe_either (pe_ix ix_list (pv 0) (pv 3) (fun _ _ => rfl)) (pe_dget hu (pv 0) (pv 3) (fun _ _ => rfl))) (pa_cons (pe_slice sl_tupA (pv 1) (po_some pe_int) po_none) pa_nil))) pa_nil))) pa_nil)))) pss_nil)))))
        (pss_one (ps_ret (pe_ifExp (pt_val (pe_callB call_isi (by rfl) mI PyProof.Rows.boot_isinstance (pa_cons (pv 0) (pa_cons (pe_bltn (v := .ty "list") (by rfl) mL (by decide +kernel) rfl) pa_nil))))
          (pe_lc (own := [("_law_row", 4)]) (g := gName 4) (te := tOp (rIxT K) (tVar 4) (tC (.int 1))) (by rfl) scLe.nd (pi_list (pv 2))
            (blkOk_by (own := [("_law_row", 4)]) (N := NLe) (sc := defScope sLe) (by decide +kernel)) (fun _ _ _ _ _ => pg_name (i := 4) scLe.nd rfl (Or.inl rfl)) (fun _ _ _ _ _ => pts_nil)
            (fun _ _ _ _ _ => pe_ix ix_tup (pv 4) pe_int (fun _ _ => rfl)))
          (pe_callTy (call_dictP rfl) (by rfl) mD (by decide +kernel) (pa_cons (pv 2) pa_nil)))))), ?_⟩
      cases is with
      | nil => exact absurd rfl hne
      | cons i0 is =>
      rw [sub] at hs
      cases hc0 : (inner d)[i0]? with
      | none => rw [hc0] at hs; cases hs
      | some c0 =>
      rw [hc0] at hs
      have hs : sub is c0 = some cz := hs
      obtain ⟨x0, hx0⟩ := step_of hc0
      have epth : pth (i0 :: is) d = x0 :: pth is c0 := by
        rw [pth, hx0, hc0]
      rw [epth] at ha
      have lpt : (pth is c0).length = is.length := pth_len hs
      obtain ⟨n', u0, rfl, hst0, hdc0⟩ := da_step hd hx0 hc0
      have w := hd.wd
      have l20 := inner_20 hd
      have lst := inner_len d
      obtain ⟨tX, tC, p1, p2, p3, p4, p5, p6, p7⟩ := less_plan (is := is) w hc0 hx0
      refine ⟨Nat.zero_le _, fun D nD0 => ?_⟩
      have s0 : Same H (upd H D (.lst [])) := same_new same_id nD0
      have hD0 : (upd H D (.lst [])) D = some (.lst []) := upd_same
      generalize upd H D (.lst []) = H0 at s0 hD0 ⊢
      refine ⟨_, rfl, v, n' + 1, d, rfl, hd.mono (delS_off.trans s0) (Nat.le_refl _), fun H1 R s1 nR hR => ⟨R, rfl, ⟨_, SqL.of hR⟩, ?_⟩⟩
      have s01 := s0.trans s1
      have nRD : R ≠ D := fun z => by rw [z, hD0] at nR; cases nR
      refine for_list (K := K) (a := R) (xs := stepsV d) (fun i σ H' => ∃ (ts : List Addr) (us : List V) (o3 o4 : Option V), σ = [some v, some (.ref a), some (.ref D), o3, o4] ∧ H' D = some (.lst (ts.map V.ref)) ∧ us.length ≤ i ∧ Same H H' ∧ H' R = some (.lst (stepsV d)) ∧ TupsAt H' ts (tX i) us ∧ Paired (fun u c => Da n' (delS H' (D :: S)) u c) us (tC i))
        ⟨[], [], none, none, rfl, s1 _ _ hD0, Nat.le_refl _, s01, hR, by rw [p1]; exact ⟨rfl, .nil⟩, by rw [p2]; exact .nil⟩ ?_ ?_ ?_
      · rintro i σ H' _ ⟨ts, us, _, _, _, _, _, _, hR', _⟩
        exact SqL.of hR'
      · rintro i x σ H3 hx ⟨ts, us, o3, o4, rfl, hD3, lus, s03, hR3, htu, hda⟩
        have hi : i < (inner d).length := by
          rw [inner_len]
          exact (List.getElem?_eq_some_iff.mp hx).1
        have hc : (inner d)[i]? = some (inner d)[i] := List.getElem?_eq_getElem hi
        generalize (inner d)[i] = c at hc
        obtain ⟨n2, u, en, hst, hdc⟩ := da_step hd hx hc
        obtain rfl : n2 = n' := by omega
        have lts := htu.len
        have fin : ∀ H5 y z, Same H3 H5 → Da n2 (delS H5 (D :: S)) y z → tX (i + 1) = tX i ++ [x] → tC (i + 1) = tC i ++ [z] → [x, y].length ≤ sizeLine ∧ ∀ T, H5 T = none → ∃ (l : Addr) (xs : List V) (y' : V), V.ref D = .ref l ∧ [V.ref T] = [y'] ∧ (upd H5 T (.tup [x, y])) l = some (.lst xs) ∧ xs.length < sizeLine ∧
            ∃ (ts : List Addr) (us : List V) (o3 o4' : Option V), [some v, some (V.ref a), some (.ref D), some x, o4] = [some v, some (.ref a), some (.ref D), o3, o4'] ∧ (upd (upd H5 T (.tup [x, y])) l (.lst (xs ++ [y']))) D = some (.lst (ts.map V.ref)) ∧ us.length ≤ i + 1 ∧ Same H (upd (upd H5 T (.tup [x, y])) l (.lst (xs ++ [y']))) ∧ (upd (upd H5 T (.tup [x, y])) l (.lst (xs ++ [y']))) R = some (.lst (stepsV d)) ∧ TupsAt (upd (upd H5 T (.tup [x, y])) l (.lst (xs ++ [y']))) ts (tX (i + 1)) us ∧ Paired (fun u c => Da n2 (delS (upd (upd H5 T (.tup [x, y])) l (.lst (xs ++ [y']))) (D :: S)) u c) us (tC (i + 1)) := fun H5 y z s5 hy e1 e2 => by
          refine ⟨few (by show 2 ≤ 1000; decide), fun T nT => ?_⟩
          have hD5 := s5 _ _ hD3
          have nDT : D ≠ T := ne_of_none hD5 nT
          have keep : ∀ b o, b ≠ D → H5 b = some o → (upd (upd H5 T (.tup [x, y])) D (.lst (ts.map V.ref ++ [.ref T]))) b = some o := fun b o hb ho => by
            rw [upd_ne hb, upd_ne (ne_of_none ho nT)]
            exact ho
          have upS : Same (delS H5 (D :: S)) (delS (upd (upd H5 T (.tup [x, y])) D (.lst (ts.map V.ref ++ [.ref T]))) (D :: S)) := delS_at keep
          refine ⟨D, ts.map V.ref, .ref T, rfl, rfl, (upd_ne nDT).trans hD5, small1000 (by rw [List.length_map]; omega), ts ++ [T], us ++ [y], some x, o4, rfl, by rw [upd_same, List.map_append]; rfl, by rw [List.length_append, List.length_singleton]; omega, ?_, keep _ _ nRD (s5 _ _ hR3), ?_, ?_⟩
          · intro b o ho
            exact keep b o (ne_of_none ho nD0) (s5 _ _ (s03 _ _ ho))
          · rw [e1]
            refine TupsAt.snoc (htu.map fun t p ht => keep t _ (ne_of ht hD3 (by intro z; cases z)) (s5 _ _ ht)) ?_
            rw [upd_ne nDT.symm, upd_same]
          · rw [e2]
            exact Paired.snoc (L2.Paired.mapP hda fun _ _ z => z.mono ((Same.delS s5 _).trans upS) (Nat.le_refl _)) (hy.mono upS (Nat.le_refl _))
        refine ⟨_, rfl, _, rfl, a, _, 0, x0, rfl, rfl, seqT_same s03 ha, atI_nat (j := 0) rfl, step_scal hx hx0, _, rfl, ?_⟩
        rw [step_eq w hx hx0]
        refine ite2 (fun c1 => ?_) (fun c1 => ?_)
        · have ei : i ≠ i0 := fun z => by rw [decide_eq_true z] at c1; cases c1
          obtain ⟨e1, e2⟩ := p3 i x c ei hx hc
          exact ⟨_, rfl, .inl ⟨rfl, _, SqL.of hD3⟩, _, rfl, step_run rfl rfl hst (delS_off.trans s03) (fin H3 u c same_id (hdc.mono (delS_in s03 nD0) (Nat.le_refl _)) e1 e2)⟩
        · have ei : i = i0 := by
            by_cases z : i = i0
            · exact z
            · exact absurd (by rw [decide_eq_false z]; rfl) c1
          subst ei
          rw [hx] at hx0
          cases hx0
          rw [hc] at hc0
          cases hc0
          refine ⟨_, rfl, a, _, rfl, .inr (seqT_same s03 ha), _, _, rfl, rfl, _, rfl, ?_⟩
          rcases p4 with ⟨rfl, e1, e2⟩ | ⟨hne2, e1, e2⟩
          · refine iteF ?_
            exact ⟨ts, us, some x0, o4, rfl, hD3, by omega, s03, hR3, by rw [e1]; exact htu, by rw [e2]; exact hda⟩
          · have lp : 1 < ((x0 :: pth is c0).length : Int) := by
              rw [List.length_cons, lpt]
              have : 1 ≤ is.length := by
                cases is with
                | nil => exact absurd rfl hne2
                | cons _ _ => rw [List.length_cons]; omega
              omega
            rw [decide_eq_true (show ((x0 :: pth is c0).length : Int) > 1 from lp)]
            refine iteT ⟨_, rfl, .inl ⟨rfl, _, SqL.of hD3⟩, _, rfl, ?_⟩
            refine step_run rfl rfl hst (delS_off.trans s03) ⟨_, rfl, 1, rfl, ?_⟩
            refine slA_runN (seqT_same s03 ha) fun H4 cc s4 hcc => ?_
            rw [cut_tail] at hcc
            have s04 := s03.trans s4
            have hD4 := s4 _ _ hD3
            refine ⟨u, cc, n2, c0, cz, is, D :: S, by omega, rfl, (hS.same s04).cons hD4, hdc.mono (delS_in s04 nD0) (Nat.le_refl _), hne2, hs, hcc, by rw [List.length_cons] at hl9; omega, fun H5 y s5 hy => ?_⟩
            exact fin H5 y _ (s4.trans s5) hy e1 e2
      · rintro σ H3 ⟨ts, us, o3, o4, rfl, hD3, lus, s03, hR3, htu, hda⟩
        have hDS : Paired (fun u c => Da n' (delS H3 S) u c) us (tC (stepsV d).length) := L2.Paired.mapP hda fun _ _ z => z.mono delS_out (Nat.le_refl _)
        have lts := htu.len
        have lus2 := Paired.length hda
        rcases tyl_of (K := K) (hd.mono (delS_off.trans s03) (Nat.le_refl _)) (place_big hc0) with ⟨ds, rfl, ty⟩ | ⟨ks, ds, rfl, ty⟩
        · rw [p5 ds rfl] at q
          refine ⟨_, rfl, _, _, _, _, true, rfl, .ty _, ty, kit_ty (by decide +kernel), _, rfl, iteT ⟨_, rfl, D, rfl, ⟨_, SqL.of hD3⟩, fun D2 nD2 => ?_⟩⟩
          refine lc_list (K := K) (a := D) (xs := ts.map V.ref) (fun i H' => H' D2 = some (.lst (us.take i)) ∧ Same H3 H') ⟨upd_same, same_new same_id nD2⟩ ?_ ?_ ?_
          · rintro i H' _ ⟨_, s4⟩
            exact SqL.of (s4 _ _ hD3)
          · rintro i x H4 hx ⟨hD4, s4⟩
            rw [List.getElem?_map] at hx
            cases ht : ts[i]? with
            | none => rw [ht] at hx; cases hx
            | some t =>
              rw [ht] at hx
              cases hx
              obtain ⟨pr, hpr, hto⟩ := paired_get htu.2 i t ht
              obtain ⟨z1, z2⟩ := List.getElem?_zip_eq_some.mp hpr
              refine ⟨rfl, _, rfl, t, _, 1, pr.2, rfl, rfl, SqT.of (s4 _ _ hto), atI_nat (j := 1) rfl, us.take i, hD4, small1000 (by rw [List.length_take]; omega), ?_, ?_⟩
              · rw [upd_same, List.take_add_one, z2]
                rfl
              · intro b o ho
                rw [upd_ne (ne_of_none ho nD2)]
                exact s4 _ _ ho
          · rintro H4 ⟨hD4, s4⟩
            rw [List.length_map, lts, List.take_length] at hD4
            have nS2 : D2 ∉ S := (hS.same s03).new nD2
            refine q H4 (.ref D2) (s03.trans s4) ?_
            simp only [Da]
            exact ⟨D2, us, rfl, delS_some nS2 hD4, by omega, L2.Paired.mapP hDS fun _ _ z => z.mono (Same.delS s4 S) (Nat.le_refl _)⟩
        · obtain ⟨ls, e1, e2, e3, e4⟩ := p6 ks ds rfl
          rw [e1] at q
          rw [e2] at htu
          have lk : us.length = ls.length := by
            have := htu.1
            rw [List.length_map] at this
            exact this.symm
          refine ⟨_, rfl, _, _, _, _, false, rfl, .ty _, ty, kit_ty (by decide +kernel), _, rfl, iteF ⟨_, rfl, D, ts, kvOf ls us, rfl, SqL.of hD3, L2.Paired.mapP (tups_kv htu) fun _ _ z => SqT.of z, fun p2 np2 => ?_⟩⟩
          rw [rows_dct lk e3]
          have nS2 : p2 ∉ S := (hS.same s03).new np2
          have s4 : Same H3 (upd H3 p2 (.dK (kvOf ls us))) := same_new same_id np2
          refine q _ (.ref p2) (s03.trans s4) ?_
          simp only [Da]
          exact ⟨p2, us, rfl, delS_some nS2 upd_same, by omega, lk, e3, fun k hk => keys_ok hd k (e4 k hk), L2.Paired.mapP hDS fun _ _ z => z.mono (Same.delS s4 S) (Nat.le_refl _)⟩
end
end Toy


namespace Toy
open PySem PySem.Spec L2 PyProof.Rows PySem.W
/-! ### what stays: all but the tape's dict and tables -/
def noT (G : Hp) : Hp := fun b => match G b with
  | some (.tbl _) => none
  | o => o
theorem noT_some {G : Hp} {b : Addr} {o : HO} (h : G b = some o) (n : ∀ ps, o ≠ .tbl ps) : noT G b = some o := by
  unfold noT
  rw [h]
  cases o <;> first | rfl | exact absurd rfl (n _)
theorem noT_at {G : Hp} {b : Addr} {o : HO} (h : noT G b = some o) : G b = some o ∧ ∀ ps, o ≠ .tbl ps := by
  unfold noT at h
  cases hG : G b with
  | none => rw [hG] at h; cases h
  | some u =>
    rw [hG] at h
    cases u <;> first | (cases h; exact ⟨rfl, fun _ z => by cases z⟩) | cases h
/-- the heap without d and without tables -/
def XH (H : Hp) (d : Addr) : Hp := noT (delH H d)
theorem xh_some {H : Hp} {d b : Addr} {o : HO} (h : H b = some o) (nb : b ≠ d) (n : ∀ ps, o ≠ .tbl ps) : XH H d b = some o := noT_some ((delH_ne nb).trans h) n
theorem xh_at {H : Hp} {d b : Addr} {o : HO} (h : XH H d b = some o) : H b = some o ∧ b ≠ d ∧ ∀ ps, o ≠ .tbl ps := by
  obtain ⟨h1, h2⟩ := noT_at h
  by_cases e : b = d
  · rw [e, delH_same] at h1
    cases h1
  · exact ⟨(delH_ne e).symm.trans h1, e, h2⟩
theorem xh_le {H : Hp} {d : Addr} : Same (XH H d) H := fun b o h => (xh_at h).1
theorem xh_but {H H' : Hp} {d : Addr} (s : But d H H') : Same (XH H d) (XH H' d) := fun b o h => by
  obtain ⟨h1, h2, h3⟩ := xh_at h
  exact xh_some (s _ _ h2 h1) h2 h3
theorem xh_same {H H' : Hp} {d : Addr} (s : Same H H') : Same (XH H d) (XH H' d) := xh_but (Same.but s d)
theorem xh_ext {H H' : Hp} {d : Addr} (s : LamX.ExtN H H') : Same (XH H d) (XH H' d) := fun b o h => by
  obtain ⟨h1, h2, h3⟩ := xh_at h
  exact xh_some (s _ _ h1 h3) h2 h3
theorem da_noT : ∀ {n : Nat} {G : Hp} {v : V} {z : D}, Da n G v z → Da n (noT G) v z := by
  intro n
  induction n with
  | zero => intro G v z h; cases z <;> simpa only [Da] using h
  | succ n ih =>
    intro G v z h
    cases z with
    | lst ds =>
      simp only [Da] at h ⊢
      obtain ⟨a, xs, h1, h2, h3, h4⟩ := h
      exact ⟨a, xs, h1, noT_some h2 (fun _ z => by cases z), h3, L2.Paired.mapP h4 fun _ _ z => ih z⟩
    | dct ks ds =>
      simp only [Da] at h ⊢
      obtain ⟨a, us, h1, h2, h3, h4, h5, h6, h7⟩ := h
      exact ⟨a, us, h1, noT_some h2 (fun _ z => by cases z), h3, h4, h5, h6, L2.Paired.mapP h7 fun _ _ z => ih z⟩
    | _ => simpa only [Da] using h
/-- what is new is beside the tape -/
theorem da_fresh {n m : Nat} {H H' : Hp} {d : Addr} {o : HO} {v : V} {z : D} (hd : H d = some o) (h : Da n (newH H H') v z) (hn : n ≤ m) : Da m (XH H' d) v z := by
  refine Da.mono (fun b u e => ?_) hn (da_noT h)
  obtain ⟨h1, h2⟩ := noT_at e
  obtain ⟨g1, g2⟩ := newH_some.mp h1
  exact xh_some g2 (fun q => by rw [q, hd] at g1; cases g1) h2
theorem seqT_x {K : PySem.W.Frag} {H : Hp} {d a : Addr} {xs : List V} {m : List (Key × V)} (hd : H d = some (.dK m)) (h : SqT K H a xs) : SqT K (XH H d) a xs := by
  rcases h with (h | ⟨o, h⟩) | h
  · exact .inl (.inl (xh_some h (ne_of h hd (by intro z; cases z)) (fun _ z => by cases z)))
  · exact .inl (.inr ⟨o, xh_some h (ne_of h hd (by intro z; cases z)) (fun _ z => by cases z)⟩)
  · exact .inr h
/-! ### any value -/
abbrev sOdd : Stmt := top 19
def OdP (K : PySem.W.Frag) (z : Addr) (n e : Nat) (H : Hp) (v : V) : Prop := ∃ t, Sd K (XH H z) v t ∧ Ft t n e ∧ ∀ ds, t = .tuple ds → ds.length ≤ 100
def Od (K : PySem.W.Frag) (z : Addr) (H : Hp) (v : V) : Prop := ∃ t : PyData, Sd K (XH H z) v t ∧ t.showable = true ∧ t.depth ≤ 4 ∧ t.shown.length ≤ 200 ∧ ∀ ds, t = .tuple ds → ds.length ≤ 100
theorem oS {K : PySem.W.Frag} {z : Addr} {n e : Nat} : ∀ H H' v, Same H H' → OdP K z n e H v → OdP K z n e H' v := fun _ _ _ s ⟨t, h, f⟩ => ⟨t, sdM (xh_same s) h, f⟩
theorem od_st {K : PySem.W.Frag} {z : Addr} : ∀ H H' v, But z H H' → Od K z H v → Od K z H' v := fun _ _ _ b ⟨t, h, f⟩ => ⟨t, sdM (xh_but b) h, f⟩
theorem oO {K : PySem.W.Frag} {z : Addr} : ∀ H H' v, Same H H' → Od K z H v → Od K z H' v := fun _ _ _ s h => od_st _ _ _ (Same.but s z) h
theorem del_new {H : Hp} {p z : Addr} {u : HO} (h : p ≠ z) (n : ∀ ps, u ≠ .tbl ps) : XH (upd H p u) z p = some u := xh_some upd_same h n
theorem od_all {K : PySem.W.Frag} {z : Addr} {n e : Nat} {H : Hp} : ∀ {vs : List V}, (∀ v ∈ vs, OdP K z n e H v) → ∃ ds, SdAll K (XH H z) vs ds ∧ FtL ds n (vs.length * (e + 2))
  | [], _ => ⟨[], .nil, ftL_nil⟩
  | v :: vs, h => by
    obtain ⟨t, h1, h2, _⟩ := h v List.mem_cons_self
    obtain ⟨ds, h3, h4⟩ := od_all fun x hx => h x (List.mem_cons_of_mem _ hx)
    exact ⟨t :: ds, .cons h1 h3, (ftL_cons h2 h4).mono (Nat.le_refl _) (by rw [List.length_cons, Nat.succ_mul]; omega)⟩
def MkE (X : Cx) (z : Addr) (R : Hp → V → Prop) (ex : Expr) : Prop := ∃ te, PE X ex te ∧ ∀ (σ : L2.St) (H : Hp) (Q : VK), (∃ o, H z = some o) → (∀ v H', Same H H' → R H' v → Q v H') → te σ H Q
def MkA (X : Cx) (z : Addr) (R : Hp → V → Prop) (es : List Expr) : Prop := ∃ ta, PA X es ta ∧ ∀ (σ : L2.St) (H : Hp) (Q : List V → Hp → Prop), (∃ o, H z = some o) → (∀ vs H', Same H H' → vs.length = es.length → (∀ v ∈ vs, R H' v) → Q vs H') → ta σ H Q
def IntE (X : Cx) (e : Expr) (i : Int) : Prop := ∃ te, PE X e te ∧ ∀ (σ : L2.St) (H : Hp) (Q : VK), Q (.int i) H → te σ H Q
def intB (i : Int) (e : Nat) : Bool := (PyData.int i).showable && decide ((PyData.shown (.int i)).length ≤ e)
theorem fit_intB {i : Int} {n e : Nat} (h : intB i e = true) : Ft (.int i) n e := by
  unfold intB at h
  rw [Bool.and_eq_true] at h
  exact ⟨h.1, Nat.zero_le _, of_decide_eq_true h.2⟩
section
variable {X : Cx} {z : Addr} {n e : Nat} {pos : Pos} {ex : Expr} {es : List Expr} {R : Hp → V → Prop}
theorem ie_const {i : Int} {k : Nat} : IntE X (.Constant (.int i) k pos) i := ⟨_, pe_int, fun _ _ _ q => q⟩
theorem ie_neg {i : Int} (h : IntE X ex i) : IntE X (.UnaryOp .USub ex pos) (-i) := by
  obtain ⟨t, p, k⟩ := h
  exact ⟨_, pe_un un_neg p, fun σ H Q q => k σ H _ ⟨i, rfl, q⟩⟩
theorem ie_pow {e2 : Expr} {i j : Int} (h : IntE X ex i) (h2 : IntE X e2 j) (c : 0 ≤ j ∧ j ≤ 1000000 ∧ i.natAbs < 2 ^ 64) : IntE X (.BinOp ex .Pow e2 pos) (i ^ j.toNat) := by
  obtain ⟨t, p, k⟩ := h
  obtain ⟨t2, p2, k2⟩ := h2
  exact ⟨_, pe_op op_pow p p2, fun σ H Q q => k σ H _ (k2 σ H _ ⟨i, j, rfl, rfl, c, q⟩)⟩
theorem mk_I {i : Int} (h : IntE X ex i) (b : intB i e = true) : MkE X z (OdP X.K z n e) ex := by
  obtain ⟨t, p, k⟩ := h
  exact ⟨_, p, fun σ H Q _ q => k σ H Q (q _ H same_id ⟨_, .int i, fit_intB b, fun _ z => by cases z⟩)⟩
theorem mk_int {i : Int} {k : Nat} (b : intB i e = true) : MkE X z (OdP X.K z n e) (.Constant (.int i) k pos) := mk_I ie_const b
theorem mk_neg {i : Int} {k : Nat} {p : Pos} (b : intB (-i) e = true) : MkE X z (OdP X.K z n e) (.UnaryOp .USub (.Constant (.int i) k p) pos) := mk_I (ie_neg ie_const) b
theorem mk_pow {i j : Int} {k k' : Nat} {p p' : Pos} (h : 0 ≤ j ∧ j ≤ 1000000 ∧ i.natAbs < 2 ^ 64) (b : intB (i ^ j.toNat) e = true) : MkE X z (OdP X.K z n e) (.BinOp (.Constant (.int i) k p) .Pow (.Constant (.int j) k' p') pos) := mk_I (ie_pow ie_const ie_const h) b
theorem mk_str {x : Str} {k : Nat} (ok : (PyData.shown (.str x)).length ≤ e) : MkE X z (OdP X.K z n e) (.Constant (.str x) k pos) := ⟨_, pe_str, fun _ H _ _ q => q _ H same_id ⟨_, .str x, ⟨rfl, Nat.zero_le _, ok⟩, fun _ z => by cases z⟩⟩
theorem mk_bl {b : Bool} {k : Nat} (h : 5 ≤ e := by decide) : MkE X z (OdP X.K z n e) (.Constant (.bool b) k pos) := ⟨_, pe_bl, fun _ H _ _ q => q _ H same_id ⟨_, .bl b, ⟨rfl, Nat.zero_le _, Nat.le_trans (by cases b <;> decide +kernel : (PyData.shown (.bool b)).length ≤ 5) h⟩, fun _ z => by cases z⟩⟩
theorem mk_non {k : Nat} (h : 4 ≤ e := by decide) : MkE X z (OdP X.K z n e) (.Constant .none k pos) := ⟨_, pe_non, fun _ H _ _ q => q _ H same_id ⟨_, .non, ⟨rfl, Nat.zero_le _, Nat.le_trans (by decide +kernel : (PyData.shown .none).length ≤ 4) h⟩, fun _ z => by cases z⟩⟩
theorem mk_nil : MkA X z R [] := ⟨_, pa_nil, fun _ H _ _ q => q [] H same_id rfl (fun _ h => by simp at h)⟩
theorem mk_cons (hR : ∀ H H' v, Same H H' → R H v → R H' v) (a : MkE X z R ex) (r : MkA X z R es) (he : starEach (ex :: es) X.env = (false, eval ex X.env) :: starEach es X.env := by rfl) : MkA X z R (ex :: es) := by
  obtain ⟨te, p1, m1⟩ := a
  obtain ⟨ta, p2, m2⟩ := r
  refine ⟨_, pa_cons p1 p2 he, fun σ H Q hz q => ?_⟩
  refine m1 σ H _ hz fun v H1 s1 d1 => ?_
  obtain ⟨o, ho⟩ := hz
  exact m2 σ H1 _ ⟨o, s1 _ _ ho⟩ fun vs H2 s2 l2 d2 => q (v :: vs) H2 (fun b u h => s2 _ _ (s1 _ _ h)) (by rw [List.length_cons, List.length_cons, l2]) fun x hx => by
    rcases List.mem_cons.mp hx with rfl | hx
    · exact hR _ _ _ s2 d1
    · exact d2 x hx
theorem mk_tup {x1 n' e' : Nat} (a : MkA X z (OdP X.K z n' e') es) (h : es.length ≤ 5 ∧ 3 + es.length * (e' + 2) ≤ e ∧ n' + 1 ≤ n) : MkE X z (OdP X.K z n e) (.Tuple es x1 pos) := by
  obtain ⟨ta, p1, m1⟩ := a
  refine ⟨_, pe_tup p1, fun σ H Q hz q => m1 σ H _ hz fun vs H1 s1 l1 d1 => ⟨few (by omega), fun p np => ?_⟩⟩
  obtain ⟨o, ho⟩ := hz
  have npz : p ≠ z := (ne_of_none (s1 _ _ ho) np).symm
  obtain ⟨ds, g1, g2⟩ := od_all d1
  rw [l1] at g2
  refine q _ _ (same_new s1 np) ⟨_, .tup (SqT.of (del_new npz (fun _ z => by cases z))) (sdAllM (xh_same (same_new same_id np)) g1), (ft_tup g2).mono h.2.2 h.2.1, fun ds z => by cases z; have := sds_len g1; omega⟩
theorem mk_lst {n' e' : Nat} (a : MkA X z (OdP X.K z n' e') es) (h : es.length ≤ 5 ∧ 3 + es.length * (e' + 2) ≤ e ∧ n' + 1 ≤ n) : MkE X z (OdP X.K z n e) (.List es pos) := by
  obtain ⟨ta, p1, m1⟩ := a
  refine ⟨_, pe_lst p1, fun σ H Q hz q => m1 σ H _ hz fun vs H1 s1 l1 d1 => ⟨few (by omega), fun p np => ?_⟩⟩
  obtain ⟨o, ho⟩ := hz
  have npz : p ≠ z := (ne_of_none (s1 _ _ ho) np).symm
  obtain ⟨ds, g1, g2⟩ := od_all d1
  rw [l1] at g2
  refine q _ _ (same_new s1 np) ⟨_, .lst (SqL.of (del_new npz (fun _ z => by cases z))) (sdAllM (xh_same (same_new same_id np)) g1), (ft_lst g2).mono h.2.2 h.2.1, fun ds z => by cases z⟩
theorem mk_up (a : MkE X z (OdP X.K z 4 150) ex) : MkE X z (Od X.K z) ex := by
  obtain ⟨te, p, m⟩ := a
  exact ⟨te, p, fun σ H Q hz q => m σ H Q hz fun v H' s ⟨t, h, f, k⟩ => q v H' s ⟨t, h, f.shw, f.dep, Nat.le_trans f.len (by decide), k⟩⟩
def dictT (m : List (Key × V)) : PyData := .dict ((m.map fun p => keyD p.1).zip (m.map fun p => leafD p.2))
def dictB (m : List (Key × V)) : Bool := (dictT m).showable && decide ((dictT m).depth ≤ 4) && decide ((dictT m).shown.length ≤ 200)
theorem sd_leafs {K : PySem.W.Frag} {H : Hp} : ∀ {m : List (Key × V)}, (∀ p ∈ m, leafV p.2) → SdAll K H (m.map (·.2)) (m.map fun p => leafD p.2)
  | [], _ => .nil
  | p :: m, h => by
    refine .cons ?_ (sd_leafs fun x hx => h x (List.mem_cons_of_mem _ hx))
    rcases h p List.mem_cons_self with ⟨i, e⟩ | ⟨x, e⟩
    · show Sd K H p.2 (leafD p.2)
      rw [e]
      exact .int i
    · show Sd K H p.2 (leafD p.2)
      rw [e]
      exact .str x
theorem od_dict {K : PySem.W.Frag} {H : Hp} {p : Addr} {m : List (Key × V)} (h : XH H z p = some (.dK m)) (l : ∀ p ∈ m, leafV p.2) (b : dictB m = true) : Od K z H (.ref p) := by
  unfold dictB at b
  simp only [Bool.and_eq_true, decide_eq_true_eq] at b
  exact ⟨dictT m, .dct h (sd_leafs l), b.1.1, b.1.2, b.2, fun _ z => by cases z⟩
theorem mk_d0 : MkE X z (Od X.K z) (.Dict [] [] pos) := by
  refine ⟨_, pe_dnewK, fun σ H Q hz q p np => ?_⟩
  obtain ⟨o, ho⟩ := hz
  exact q _ _ (same_new same_id np) (od_dict (del_new (ne_of_none ho np).symm (fun _ z => by cases z)) (fun _ h => by cases h) (by decide +kernel))
theorem mk_d1 {k0 k1 : Nat} {kp p2 : Pos} {k : Str} {i : Int} (b : dictB [(Sum.inr k, .int i)] = true) : MkE X z (Od X.K z) (.Dict [some (.Constant (.str k) k0 kp)] [.Constant (.int i) k1 p2] pos) := by
  refine ⟨_, pe_disp (pps_cons pe_str pe_int pps_nil) (by rfl) (by rfl) (fun z => by cases z) (by show 1 ≤ 15; decide), fun σ H Q hz q p np => ?_⟩
  obtain ⟨o, ho⟩ := hz
  have npz : p ≠ z := (ne_of_none ho np).symm
  refine ⟨upd_same, [(Sum.inr k, .int i)], rfl, (by show 1 ≤ 15; decide), ?_⟩
  refine q _ _ (fun b u h => ?_) (od_dict (del_new npz (fun _ z => by cases z)) (fun p h => ?_) b)
  · rw [upd_ne (ne_of_none h np), upd_ne (ne_of_none h np)]
    exact h
  · rw [List.mem_singleton.mp h]
    exact .inl ⟨_, rfl⟩
theorem mk_d1i {k0 k1 : Nat} {kp p2 : Pos} {k : Str} {i : Int} (b : dictB [(Sum.inl i, .str k)] = true) : MkE X z (Od X.K z) (.Dict [some (.Constant (.int i) k0 kp)] [.Constant (.str k) k1 p2] pos) := by
  refine ⟨_, pe_disp (pps_cons pe_int pe_str pps_nil) (by rfl) (by rfl) (fun z => by cases z) (by show 1 ≤ 15; decide), fun σ H Q hz q p np => ?_⟩
  obtain ⟨o, ho⟩ := hz
  have npz : p ≠ z := (ne_of_none ho np).symm
  refine ⟨upd_same, [(Sum.inl i, .str k)], rfl, (by show 1 ≤ 15; decide), ?_⟩
  refine q _ _ (fun b u h => ?_) (od_dict (del_new npz (fun _ z => by cases z)) (fun p h => ?_) b)
  · rw [upd_ne (ne_of_none h np), upd_ne (ne_of_none h np)]
    exact h
  · rw [List.mem_singleton.mp h]
    exact .inr ⟨_, rfl⟩
theorem mk_dr {d l : Addr} {J : Hp → Prop} {σ : L2.St} {ta : TA} (k : ∀ (σ : L2.St) (H : Hp) (Q : List V → Hp → Prop), (∃ o, H d = some o) → (∀ vs H', Same H H' → vs.length = es.length → (∀ v ∈ vs, R H' v) → Q vs H') → ta σ H Q) : DrA d l J ta σ 0 (AllR es.length R) :=
  fun H N Q j t b q => k σ H Q t.at.1 fun vs H' s hl hv => q H' vs (Same.but s d) (t.same s) ⟨hl, hv⟩
end
/-- the items of the list that a statement sets, adds, or hands on as the last thing -/
def elts : Stmt → List Expr
  | .Assign _ (.List es _) _ => es
  | .Assign _ (.BinOp _ _ (.List es _) _) _ => es
  | .Return (some (.Call _ [_, .BinOp _ _ (.List es _) _] _ _)) _ => es
  | _ => []
section
variable {X : Cx} {z : Addr}
theorem oa1 : MkA X z (Od X.K z) (elts (partOf sOdd 0)) :=
  (mk_cons oO (mk_up mk_non) (mk_cons oO (mk_up mk_bl) (mk_cons oO (mk_up mk_bl) (mk_cons oO (mk_up (mk_int (by decide +kernel))) (mk_cons oO (mk_up (mk_int (by decide +kernel))) (mk_cons oO (mk_up (mk_neg (by decide +kernel))) (mk_cons oO (mk_up (mk_int (by decide +kernel))) (mk_cons oO (mk_up (mk_pow ⟨by decide, by decide, by decide⟩ (by decide +kernel))) (mk_cons oO (mk_up (mk_str (by decide +kernel))) (mk_cons oO (mk_up (mk_str (by decide +kernel))) (mk_cons oO (mk_up (mk_str (by decide +kernel))) (mk_cons oO (mk_up (mk_str (by decide +kernel))) (mk_cons oO (mk_up (mk_str (by decide +kernel))) (mk_cons oO (mk_up (mk_tup (n' := 0) (e' := 40) mk_nil (by decide))) (mk_cons oO (mk_up (mk_lst (n' := 0) (e' := 40) mk_nil (by decide))) (mk_cons oO mk_d0 (mk_cons oO (mk_up (mk_tup (n' := 0) (e' := 40) (mk_cons oS (mk_str (by decide +kernel)) mk_nil) (by decide))) (mk_cons oO (mk_up (mk_lst (n' := 0) (e' := 40) (mk_cons oS (mk_str (by decide +kernel)) mk_nil) (by decide))) (mk_cons oO (mk_up (mk_tup (n' := 0) (e' := 40) (mk_cons oS (mk_int (by decide +kernel)) mk_nil) (by decide))) mk_nil)))))))))))))))))))
theorem oa2 : MkA X z (Od X.K z) (elts (partOf sOdd 1)) :=
  (mk_cons oO (mk_up (mk_tup (n' := 0) (e' := 40) (mk_cons oS (mk_str (by decide +kernel)) mk_nil) (by decide))) (mk_cons oO (mk_up (mk_lst (n' := 0) (e' := 40) (mk_cons oS (mk_str (by decide +kernel)) mk_nil) (by decide))) (mk_cons oO (mk_up (mk_tup (n' := 0) (e' := 40) (mk_cons oS (mk_str (by decide +kernel)) (mk_cons oS (mk_str (by decide +kernel)) mk_nil)) (by decide))) (mk_cons oO (mk_up (mk_tup (n' := 0) (e' := 40) (mk_cons oS (mk_str (by decide +kernel)) (mk_cons oS (mk_int (by decide +kernel)) mk_nil)) (by decide))) (mk_cons oO (mk_up (mk_tup (n' := 0) (e' := 40) (mk_cons oS (mk_str (by decide +kernel)) (mk_cons oS mk_bl mk_nil)) (by decide))) (mk_cons oO (mk_up (mk_tup (n' := 0) (e' := 40) (mk_cons oS (mk_str (by decide +kernel)) (mk_cons oS (mk_int (by decide +kernel)) mk_nil)) (by decide))) (mk_cons oO (mk_d1 (by decide +kernel)) (mk_cons oO (mk_d1i (by decide +kernel)) mk_nil))))))))
theorem oa3 : MkA X z (Od X.K z) (elts (partOf sOdd 2)) :=
  (mk_cons oO (mk_up (mk_tup (n' := 0) (e' := 40) (mk_cons oS (mk_str (by decide +kernel)) (mk_cons oS (mk_str (by decide +kernel)) mk_nil)) (by decide))) (mk_cons oO (mk_up (mk_tup (n' := 0) (e' := 40) (mk_cons oS (mk_str (by decide +kernel)) (mk_cons oS (mk_str (by decide +kernel)) mk_nil)) (by decide))) (mk_cons oO (mk_up (mk_tup (n' := 1) (e' := 40) (mk_cons oS (mk_str (by decide +kernel)) (mk_cons oS (mk_tup (n' := 0) (e' := 40) mk_nil (by decide)) mk_nil)) (by decide))) (mk_cons oO (mk_up (mk_tup (n' := 0) (e' := 40) (mk_cons oS (mk_str (by decide +kernel)) (mk_cons oS (mk_int (by decide +kernel)) mk_nil)) (by decide))) (mk_cons oO (mk_up (mk_tup (n' := 1) (e' := 40) (mk_cons oS (mk_tup (n' := 0) (e' := 40) mk_nil (by decide)) mk_nil) (by decide))) (mk_cons oO (mk_up (mk_lst (n' := 1) (e' := 40) (mk_cons oS (mk_tup (n' := 0) (e' := 40) mk_nil (by decide)) mk_nil) (by decide))) (mk_cons oO (mk_up (mk_lst (n' := 1) (e' := 40) (mk_cons oS (mk_lst (n' := 0) (e' := 40) mk_nil (by decide)) mk_nil) (by decide))) (mk_cons oO (mk_up (mk_tup (n' := 0) (e' := 40) (mk_cons oS mk_non mk_nil) (by decide))) (mk_cons oO (mk_up (mk_tup (n' := 0) (e' := 40) (mk_cons oS (mk_str (by decide +kernel)) mk_nil) (by decide))) mk_nil)))))))))
theorem oa4 : MkA X z (Od X.K z) (elts (partOf sOdd 3)) :=
  (mk_cons oO (mk_up (mk_int (by decide +kernel))) (mk_cons oO (mk_up (mk_neg (by decide +kernel))) (mk_cons oO (mk_up (mk_int (by decide +kernel))) (mk_cons oO (mk_up (mk_int (by decide +kernel))) (mk_cons oO (mk_up (mk_str (by decide +kernel))) (mk_cons oO (mk_up (mk_str (by decide +kernel))) (mk_cons oO (mk_up (mk_tup (n' := 0) (e' := 40) (mk_cons oS (mk_str (by decide +kernel)) (mk_cons oS mk_non mk_nil)) (by decide))) (mk_cons oO (mk_up (mk_tup (n' := 0) (e' := 40) (mk_cons oS mk_bl mk_nil) (by decide))) (mk_cons oO (mk_up (mk_tup (n' := 0) (e' := 40) (mk_cons oS (mk_int (by decide +kernel)) (mk_cons oS (mk_int (by decide +kernel)) mk_nil)) (by decide))) (mk_cons oO (mk_up (mk_tup (n' := 0) (e' := 40) (mk_cons oS (mk_str (by decide +kernel)) (mk_cons oS (mk_int (by decide +kernel)) mk_nil)) (by decide))) mk_nil))))))))))

end
def spOdd (K : PySem.W.Frag) : Sp := fun vs H Q _ => ∃ (d l : Addr) (n : Nat), vs = [.ref d] ∧ Tape H d l n ∧ n + 1 ≤ 900000 ∧ ∀ H' v, But d H H' → Tape H' d l (n + 1) → Od K d H' v → Q v H'
def JO (K : PySem.W.Frag) (d L : Addr) (vs : List V) : Hp → Prop := fun H => H L = some (.lst vs) ∧ ∀ v ∈ vs, Od K d H v
theorem stb_o {K : PySem.W.Frag} {d L : Addr} {vs : List V} (h : L ≠ d) : Stb d (JO K d L vs) := fun H H' b z => ⟨b _ _ h z.1, fun v hv => od_st _ _ _ b (z.2 v hv)⟩
section
variable {P : Program} {w : World} {K : PySem.W.Frag} {mg : Str → Option Value} {base : Heap}
theorem scO : FnScope ["_law_tape", "_law_some"] ["_law_tape"] (defScope sOdd) := ⟨rfl, rfl, rfl, by decide +kernel, rfl, by decide +kernel, by decide +kernel⟩
theorem ok_odd {f fP : Addr} {fd fdP : FuncData} (F : Fun K "_law_odd" "_law_odd" sOdd f fd) (GP : FnOk P w K mg base CX0 2 fP fdP ["_law_tape", "_law_items"] spPick) (mP : mg "_law_pick" = some (.ref fP)) (kP : PySem.W.keepIn K (.ref fP) = true) (bP : Binds K fdP ["_law_tape", "_law_items"] []) : FnOk P w K mg base CX0 3 f fd ["_law_tape"] (spOdd K) := by
  refine F.ok scO (fun vs H Q E h => ?_) (fun cdv A outer s H vs Q E hr h => ?_)
  · obtain ⟨d, l, n, rfl, _⟩ := h
    rfl
  · obtain ⟨d, l, n, rfl, hT, hn, q⟩ := h
    obtain ⟨t1, p1, k1⟩ := oa1 (X := (cxOf CX0 P w K mg base ["_law_tape", "_law_some"] "_law_odd" (defScope sOdd) f cdv A outer s H E).nox) (z := d)
    obtain ⟨t2, p2, k2⟩ := oa2 (X := (cxOf CX0 P w K mg base ["_law_tape", "_law_some"] "_law_odd" (defScope sOdd) f cdv A outer s H E).nox) (z := d)
    obtain ⟨t3, p3, k3⟩ := oa3 (X := (cxOf CX0 P w K mg base ["_law_tape", "_law_some"] "_law_odd" (defScope sOdd) f cdv A outer s H E).nox) (z := d)
    obtain ⟨t4, p4, k4⟩ := oa4 (X := (cxOf CX0 P w K mg base ["_law_tape", "_law_some"] "_law_odd" (defScope sOdd) f cdv A outer s H E).nox) (z := d)
    refine ⟨_, pss_cons (ps_set (i := 1) scO.nd rfl (Or.inl rfl) (pe_lst p1)) (pss_cons (ps_set (i := 1) scO.nd rfl (Or.inl rfl) (pe_op op_cat (pv 1) (pe_lst p2))) (pss_cons (ps_set (i := 1) scO.nd rfl (Or.inl rfl) (pe_op op_cat (pv 1) (pe_lst p3)))
      (pss_one (ps_ret (pe_call GP hr rfl mP kP bP .nil pass0 (pa_cons (pv 0) (pa_cons (pe_op op_cat (pv 1) (pe_lst p4)) pa_nil))))))), ?_⟩
    have l1 : (elts (partOf sOdd 0)).length = 19 := rfl
    have l2 : (elts (partOf sOdd 1)).length = 8 := rfl
    have l3 : (elts (partOf sOdd 2)).length = 9 := rfl
    have l4 : (elts (partOf sOdd 3)).length = 10 := rfl
    refine asg_run (lst_run (l := l) (J := fun _ => True) od_st (mk_dr k1) (by omega) trivial hT (by omega) fun H1 L vs b1 t1' nL hL r1 => ?_)
    have g1 := r1.1
    refine asg_run (cat_run (J := JO K d L vs) (stb_o nL) rfl (fun _ z => z) od_st (mk_dr k2) (by omega) ⟨hL, r1.2⟩ t1' (by omega) fun H2 L2 ys b2 t2' nL2 hL2 r2 => ?_)
    have g2 := r2.1
    refine asg_run (cat_run (J := JO K d L2 ys) (stb_o nL2) rfl (fun _ z => z) od_st (mk_dr k3) (by omega) ⟨hL2, r2.2⟩ t2' (by omega) fun H3 L3 zs b3 t3' nL3 hL3 r3 => ?_)
    have g3 := r3.1
    exact ret_run (dr_pick2 (J := JO K d L3 zs) (R := fun H v => Od K d H v) (stb_o nL3) rfl rfl (fun _ z => z) od_st (mk_dr k4) ⟨by omega, by omega⟩ H3 _ _ ⟨hL3, r3.2⟩ t3' (by omega) fun H4 v b4 t4' r4 => q H4 v ((b1.trans b2).trans (b3.trans b4)) (t4'.more (by omega)) r4)
end
end Toy


namespace Toy
open PySem PySem.Spec L2 PyProof.Rows PySem.W
/-! ### steps as data -/
def pyV : V → PyData
  | .int i => .int i
  | .str x => .str x
  | _ => .none
def Ok1 (x : V) : Prop := (∃ i : Nat, i < 3 ∧ x = .int (i : Nat)) ∨ ∃ k : Str, x = .str k ∧ PyData.strOk k = true ∧ okX k = true
def OkP (xs : List V) : Prop := ∀ x ∈ xs, Ok1 x
theorem fit_int3 {k : Nat} (h : k < 3) : Ft (.int (k : Nat)) 0 20 := by
  match k, h with
  | 0, _ => exact ⟨by decide +kernel, Nat.zero_le _, by decide +kernel⟩
  | 1, _ => exact ⟨by decide +kernel, Nat.zero_le _, by decide +kernel⟩
  | 2, _ => exact ⟨by decide +kernel, Nat.zero_le _, by decide +kernel⟩
theorem ok1_ft {x : V} (h : Ok1 x) : Ft (pyV x) 0 20 := by
  rcases h with ⟨i, hi, rfl⟩ | ⟨k, rfl, _, hk⟩
  · exact fit_int3 hi
  · exact ⟨rfl, Nat.zero_le _, of_decide_eq_true hk⟩
theorem okp_ft {xs : List V} (h : OkP xs) : FtL (xs.map pyV) 0 (xs.length * 22) := by
  have := ftL_all (a := 0) (b := 20) (ds := xs.map pyV) fun d hd => by
    obtain ⟨x, hx, rfl⟩ := List.mem_map.mp hd
    exact ok1_ft (h x hx)
  rw [List.length_map] at this
  exact this
theorem okp_dp {K : PySem.W.Frag} {H : Hp} : ∀ {xs : List V}, OkP xs → DpAll K H xs (xs.map pyV)
  | [], _ => .nil
  | x :: xs, h => by
    refine .cons ?_ (okp_dp fun y hy => h y (List.mem_cons_of_mem _ hy))
    rcases h x List.mem_cons_self with ⟨i, hi, rfl⟩ | ⟨k, rfl, _, hk⟩
    · exact .int _
    · exact .str k
theorem okp_sd {K : PySem.W.Frag} {H : Hp} : ∀ {xs : List V}, OkP xs → SdAll K H xs (xs.map pyV)
  | [], _ => .nil
  | x :: xs, h => by
    refine .cons ?_ (okp_sd fun y hy => h y (List.mem_cons_of_mem _ hy))
    rcases h x List.mem_cons_self with ⟨i, hi, rfl⟩ | ⟨k, rfl, _, hk⟩
    · exact .int _
    · exact .str k
theorem okp_fine : ∀ {xs : List V}, OkP xs → ∀ e ∈ xs.map pyV, Fine 1 e := by
  intro xs h e he
  obtain ⟨x, hx, rfl⟩ := List.mem_map.mp he
  rcases h x hx with ⟨i, hi, rfl⟩ | ⟨k, rfl, h2, _⟩
  · exact fine_int _ _
  · exact fine_str _ h2
theorem okp_shaped {xs : List V} (h : OkP xs) : SeqAt.shaped (.tuple (xs.map pyV)) = true := fine_shaped (fine_tup (okp_fine h)) (by decide)
theorem pyV_ty {K : PySem.W.Frag} {H : Hp} {x : V} (h : Ok1 x) : ∃ k : String, Ty K H x k := by
  rcases h with ⟨i, _, rfl⟩ | ⟨k, rfl, _⟩
  · exact ⟨_, .int _⟩
  · exact ⟨_, .str _⟩
/-- what shows as a row of steps is that row -/
theorem sds_okp {K : PySem.W.Frag} {H : Hp} : ∀ {xs : List V} {ds : List PyData}, OkP xs → SdAll K H xs ds → ds = xs.map pyV
  | [], _, _, h => by cases h; rfl
  | x :: xs, _, ok, h => by
    cases h with
    | cons a b =>
      have ih := sds_okp (fun y hy => ok y (List.mem_cons_of_mem _ hy)) b
      rw [ih]
      rcases ok x List.mem_cons_self with ⟨i, _, rfl⟩ | ⟨k, rfl, _⟩
      · cases a; rfl
      · cases a; rfl
theorem lim_inner {n : Nat} {d : D} (h : Lim (n + 1) d) : (inner d).length ≤ 3 ∧ ∀ c ∈ inner d, Lim n c := by
  have non : ∀ n, Lim n .non := fun n => by cases n <;> simp [Lim]
  have lk : ∀ {ks : List Str} {ds : List D} {k : Str}, (∀ x ∈ ds, Lim n x) → Lim n (look ks ds k) := by
    intro ks
    induction ks with
    | nil => intro ds k _; rw [look]; exact non n; intros; simp_all
    | cons k' ks ih =>
      intro ds k hd
      cases ds with
      | nil => rw [look]; exact non n; intros; simp_all
      | cons d ds =>
        rw [look]
        split
        · exact hd _ List.mem_cons_self
        · exact ih fun x hx => hd x (List.mem_cons_of_mem _ hx)
  cases d with
  | lst ds =>
    simp only [Lim] at h
    exact h
  | dct ks ds =>
    simp only [Lim] at h
    refine ⟨by rw [inner_dlen, skeys_len]; exact h.2.1, fun c hc => ?_⟩
    obtain ⟨k, _, rfl⟩ := List.mem_map.mp (show c ∈ (skeys ks).map (look ks ds) from hc)
    exact lk h.2.2.2
  | _ => exact ⟨Nat.zero_le _, fun c hc => by cases hc⟩
theorem lim_zero {d : D} (h : Lim 0 d) : inner d = [] := by
  cases d with
  | lst ds => simp [Lim] at h
  | dct ks ds => simp [Lim] at h
  | _ => rfl
theorem Lim.mono : ∀ {n m : Nat} {d : D}, n ≤ m → Lim n d → Lim m d := by
  intro n
  induction n with
  | zero =>
    intro m d _ h
    cases d with
    | lst ds => simp [Lim] at h
    | dct ks ds => simp [Lim] at h
    | _ => cases m <;> simpa [Lim] using h
  | succ n ih =>
    intro m d hm h
    obtain ⟨m, rfl⟩ : ∃ k, m = k + 1 := ⟨m - 1, by omega⟩
    cases d with
    | lst ds => simp only [Lim] at h ⊢; exact ⟨h.1, fun x hx => ih (by omega) (h.2 x hx)⟩
    | dct ks ds => simp only [Lim] at h ⊢; exact ⟨h.1, h.2.1, h.2.2.1, fun x hx => ih (by omega) (h.2.2.2 x hx)⟩
    | _ => simpa [Lim] using h
def NB : Nat → Nat
  | 0 => 1
  | n + 1 => 1 + 3 * NB n
theorem kidsV_len {f : D → List V → List RowV} {s : List V} {B : Nat} : ∀ {xs : List V} {cs : List D}, (∀ c ∈ cs, ∀ t, (f c t).length ≤ B) → (kidsV f s xs cs).length ≤ cs.length * B
  | [], cs, _ => by simp [kidsV]
  | _ :: _, [], _ => by simp [kidsV]
  | x :: xs, c :: cs, h => by
    rw [kidsV, List.length_append, List.length_cons, Nat.succ_mul]
    have h1 := h c List.mem_cons_self (s ++ [x])
    have h2 := kidsV_len (s := s) (xs := xs) fun b hb => h b (List.mem_cons_of_mem _ hb)
    omega
theorem allV_len : ∀ {n : Nat} {d : D} (s : List V), Lim n d → (allV n d s).length ≤ NB n
  | 0, d, s, _ => Nat.le_refl 1
  | n + 1, d, s, h => by
    obtain ⟨h1, h2⟩ := lim_inner h
    rw [allV, List.length_cons, NB]
    have h3 := kidsV_len (f := allV n) (s := s) (xs := stepsV d) (B := NB n) fun c hc t => allV_len t (h2 c hc)
    have := Nat.mul_le_mul_right (NB n) h1
    omega
theorem pth_ok : ∀ {is : List Nat} {n : Nat} {H : Hp} {v : V} {d c : D}, Da n H v d → Lim n d → sub is d = some c → OkP (pth is d)
  | [], _, _, _, _, _, _, _, _ => fun x hx => by cases hx
  | i :: is, n, H, v, d, c, hd, hl, h => by
    rw [sub] at h
    cases hc : (inner d)[i]? with
    | none => rw [hc] at h; cases h
    | some b =>
      rw [hc] at h
      obtain ⟨y, hy⟩ := step_of hc
      obtain ⟨m, u, rfl, _, hd'⟩ := da_step hd hy hc
      obtain ⟨l1, l2⟩ := lim_inner hl
      have ih := pth_ok hd' (l2 b (List.mem_of_getElem? hc)) h
      rw [pth, hy, hc]
      intro x hx
      rcases List.mem_cons.mp hx with rfl | hx
      · rcases flat_step hy with ⟨k, rfl, e1, ds, rfl⟩ | ⟨k, rfl, ks, ds, rfl, hk⟩
        · have := (List.getElem?_eq_some_iff.mp hc).1
          exact .inl ⟨k, by omega, rfl⟩
        · simp only [Lim] at hl
          have mk := List.mem_of_getElem? hk
          exact .inr ⟨k, rfl, keys_ok hd k mk, hl.2.2.1 k ((skeys_perm ks).mem_iff.mp mk)⟩
      · exact ih x hx
/-! begins -/
abbrev sBegins : Stmt := top 13
abbrev sAlike : Stmt := top 29
def bgn (xs ys : List V) : Bool := PyData.eqv (.tuple ((ys.take xs.length).map pyV)) (.tuple (xs.map pyV))
def spBegins (K : PySem.W.Frag) : Sp := fun vs H Q _ => ∃ (a b : Addr) (xs ys : List V), vs = [.ref a, .ref b] ∧ SqT K H a xs ∧ SqT K H b ys ∧ OkP xs ∧ OkP ys ∧ ∀ H', Same H H' → Q (.bl (bgn xs ys)) H'
theorem cut_take (ys : List V) (n : Nat) : cutV ys none (some ((n : Nat) : Int)) = ys.take n := by
  unfold cutV
  rw [show HT.sIx ys.length ys.length (some ((n : Nat) : Int)) = min n ys.length from HT.sIx_nat _ _ n, HT.sIx_none, List.drop_zero, Nat.sub_zero]
  by_cases h : n ≤ ys.length
  · rw [Nat.min_eq_left h]
  · rw [Nat.min_eq_right (by omega), List.take_of_length_le (Nat.le_refl _), List.take_of_length_le (by omega)]
/-- other[:len(one)] == one -/
theorem begins_run {K : PySem.W.Frag} {H : Hp} {a b : Addr} {xs ys : List V} {Q : VK} (ha : SqT K H a xs) (hb : SqT K H b ys) (ox : OkP xs) (oy : OkP ys) (q : ∀ H', Same H H' → Q (.bl (bgn xs ys)) H') : rSlA K (.ref b) none (some ((xs.length : Nat) : Int)) H (fun y H1 => rEqD K y (.ref a) H1 Q) := by
  refine slA_run hb (fun H' c s hc => ?_) cut_all
  rw [cut_take] at hc
  have oc : OkP (ys.take xs.length) := fun x hx => oy x (List.mem_of_mem_take hx)
  exact ⟨_, _, .tup hc (okp_dp oc), .tup (seqT_same s ha) (okp_dp ox), okp_shaped oc, okp_shaped ox, q H' s⟩
def spAlike (j : Nat) : Sp := fun vs H Q _ => ∃ (v u : V) (n : Nat) (d e : D), n < j ∧ n ≤ 20 ∧ vs = [v, u] ∧ Da n H v d ∧ Da n H u e ∧ REq d e ∧ ∀ H', Same H H' → Q (.bl true) H'
section
variable {P : Program} {w : World} {K : PySem.W.Frag} {mg : Str → Option Value} {base : Heap}
theorem scBg : FnScope ["one", "other"] ["one", "other"] (defScope sBegins) := ⟨rfl, rfl, rfl, by decide +kernel, rfl, by decide +kernel, by decide +kernel⟩
theorem ok_begins {f : Addr} {fd : FuncData} (F : Fun K "begins" "begins" sBegins f fd) (mLen : mg "len" = none) : FnOk P w K mg base CX0 1 f fd ["one", "other"] (spBegins K) := by
  refine F.ok scBg (fun vs H Q E h => ?_) (fun cdv A outer s H vs Q E hr h => ?_)
  · obtain ⟨a, b, xs, ys, rfl, _⟩ := h
    rfl
  · obtain ⟨a, b, xs, ys, rfl, ha, hb, ox, oy, q⟩ := h
    refine ⟨_, pss_one (ps_ret (pe_cmpR (op_eqD hr.units) (pe_slice sl_tupA (pv 1) po_none (po_some (pe_callB call_len_seq (by rfl) mLen PySem.boot_len (pa_cons (pv 0) pa_nil)))) (pv 0) (nomark _))), ?_⟩
    refine ⟨_, rfl, _, rfl, a, _, rfl, .inr ha, _, rfl, ?_⟩
    have z := begins_run (Q := Q) ha hb ox oy q
    obtain ⟨b', ys', e1, e2, z1, z2⟩ := z
    exact ⟨b', ys', e1, e2, fun c => ⟨_, rfl, z1 c⟩, fun c p np => ⟨_, rfl, z2 c p np⟩⟩
theorem scAk : FnScope ["_law_one", "_law_other"] ["_law_one", "_law_other"] (defScope sAlike) := ⟨rfl, rfl, rfl, by decide +kernel, rfl, by decide +kernel, by decide +kernel⟩
theorem ok_alike {f fR : Addr} {fd fdR : FuncData} {j : Nat} (F : Fun K "_law_alike" "_law_alike" sAlike f fd) (GR : FnOk P w K mg base CX0 (j + 2) fR fdR ["_law_datum_here"] (spRank j)) (mR : mg "_law_rank" = some (.ref fR)) (kR : PySem.W.keepIn K (.ref fR) = true) (bR : Binds K fdR ["_law_datum_here"] []) : FnOk P w K mg base CX0 (j + 3) f fd ["_law_one", "_law_other"] (spAlike j) := by
  refine F.ok (k := j + 2) scAk (fun vs H Q E h => ?_) (fun cdv A outer s H vs Q E hr h => ?_)
  · obtain ⟨v, u, n, d, e, _, _, rfl, _⟩ := h
    rfl
  · obtain ⟨v, u, n, d, e, hn, hn20, rfl, hd, he, re, q⟩ := h
    refine ⟨_, pss_one (ps_ret (pe_cmpR (op_eqD hr.units) (pe_call GR hr (by rfl) mR kR bR .nil pass0 (pa_cons (pv 0) pa_nil)) (pe_call GR hr (by rfl) mR kR bR .nil pass0 (pa_cons (pv 1) pa_nil)) (nomark _))), ?_⟩
    refine ⟨_, rfl, v, n, d, hn, rfl, hd, fun H1 u1 s1 t1 => ⟨_, rfl, u, n, e, hn, rfl, he.mono s1 (Nat.le_refl _), fun H2 u2 s2 t2 => ?_⟩⟩
    refine ⟨_, _, (t1.mono (tkS s2)).dp, t2.dp, rank_shaped K hd hn20, rank_shaped K he hn20, ?_⟩
    rw [re n, PySem.SeqAt.eqv_refl _ (rank_fine K n H u e he).1]
    exact q H2 (s1.trans s2)
end
end Toy


namespace Toy
open PySem PySem.Spec L2 PyProof.Rows PySem.W
/-! ### what is known in a turn -/
theorem at_0 (a : V) (xs : List V) : atI (a :: xs) 0 = some a := atI_nat (j := 0) rfl
theorem no_pass {P : Program} {w : World} {X : Cx} : Passes (CX P w) X E0 := fun _ _ _ _ _ _ _ h => by
  obtain ⟨a, B, H', cls, d, z1, fl, z2, ub, z3, z4, z5, z6⟩ := h
  exact z6.elim
def qLam : Str := ("law" : Str) ++ ".<locals>." ++ "<lambda>"
theorem Tape.ext {H H' : Hp} {d l : Addr} {n : Nat} (t : Tape H d l n) (s : LamX.ExtN H H') : Tape H' d l n := by
  obtain ⟨ns, a, f, h1, h2, h3⟩ := t
  exact ⟨ns, a, f, s _ _ h1 (fun _ z => by cases z), s _ _ h2 (fun _ z => by cases z), h3⟩
theorem Tape.dk {H : Hp} {d l : Addr} {n : Nat} (t : Tape H d l n) : ∃ m, H d = some (.dK m) := by
  obtain ⟨ns, a, f, h1, _⟩ := t
  exact ⟨_, h1⟩
theorem tabs_same {T : Addr} {H H' : Hp} (h : LamX.Tabs [(T, qLam)] H) (s : Same H H') : LamX.Tabs [(T, qLam)] H' := fun p hp => (h p hp).ext s
theorem tabs_but {T d : Addr} {H H' : Hp} {m : List (Key × V)} (h : LamX.Tabs [(T, qLam)] H) (hd : H d = some (.dK m)) (s : But d H H') : LamX.Tabs [(T, qLam)] H' := fun p hp => by
  obtain ⟨ps, h1, h2, h3⟩ := h p hp
  refine ⟨ps, s _ _ (ne_of h1 hd (by intro z; cases z)) h1, h2, fun pos cv e => ?_⟩
  obtain ⟨c, h4, h5⟩ := h3 pos cv e
  exact ⟨c, h4, s _ _ (ne_of h5 hd (by intro z; cases z)) h5⟩
theorem RowD.up {K : PySem.W.Frag} {N : Nat} {G G' H H' : Hp} {v : V} {r : RowV} (h : RowD K N G H v r) (g : Same G G') (s : Same H H') : RowD K N G' H' v r := by
  obtain ⟨q, a, u, h1, h2, h3, h4⟩ := h
  exact ⟨q, a, u, h1, s _ _ h2, seqT_same s h3, h4.mono g (Nat.le_refl _)⟩
theorem RowD.x {K : PySem.W.Frag} {N : Nat} {G H : Hp} {d : Addr} {m : List (Key × V)} {v : V} {r : RowV} (h : RowD K N G H v r) (hd : H d = some (.dK m)) (g : Same G (XH H d)) : RowD K N (XH H d) (XH H d) v r := by
  obtain ⟨q, a, u, h1, h2, h3, h4⟩ := h
  exact ⟨q, a, u, h1, xh_some h2 (ne_of h2 hd (by intro z; cases z)) (fun _ z => by cases z), seqT_x hd h3, h4.mono g (Nat.le_refl _)⟩
structure Fx (K : PySem.W.Frag) (d l R T : Addr) (vx vp : V) (dx dp : D) (us : List V) (n : Nat) (H : Hp) : Prop where
  tape : Tape H d l n
  tabs : LamX.Tabs [(T, qLam)] H
  hx : Da 4 (XH H d) vx dx
  hp : Da 2 (XH H d) vp dp
  hR : XH H d R = some (.lst us)
  rows : Paired (RowD K 4 (XH H d) (XH H d)) us (allV 4 dx [])
section
variable {K : PySem.W.Frag} {d l R T : Addr} {vx vp : V} {dx dp : D} {us : List V} {n n' : Nat} {H H' : Hp}
theorem Fx.up (h : Fx K d l R T vx vp dx dp us n H) (s : Same (XH H d) (XH H' d)) (t : Tape H' d l n') (tb : LamX.Tabs [(T, qLam)] H') : Fx K d l R T vx vp dx dp us n' H' :=
  ⟨t, tb, h.hx.mono s (Nat.le_refl _), h.hp.mono s (Nat.le_refl _), s _ _ h.hR, L2.Paired.mapP h.rows fun _ _ z => z.up s s⟩
theorem Fx.same (h : Fx K d l R T vx vp dx dp us n H) (s : Same H H') : Fx K d l R T vx vp dx dp us n H' := h.up (xh_same s) (h.tape.same s) (tabs_same h.tabs s)
theorem Fx.but (h : Fx K d l R T vx vp dx dp us n H) (s : But d H H') (t : Tape H' d l n') : Fx K d l R T vx vp dx dp us n' H' := by
  obtain ⟨m, hd⟩ := h.tape.dk
  exact h.up (xh_but s) t (tabs_but h.tabs hd s)
theorem Fx.more (h : Fx K d l R T vx vp dx dp us n H) (k : n ≤ n') : Fx K d l R T vx vp dx dp us n' H := ⟨h.tape.more k, h.tabs, h.hx, h.hp, h.hR, h.rows⟩
theorem Fx.ext (h : Fx K d l R T vx vp dx dp us n H) (s : LamX.ExtN H H') (tb : LamX.Tabs [(T, qLam)] H') : Fx K d l R T vx vp dx dp us n H' := h.up (xh_ext s) (h.tape.ext s) tb
theorem Fx.r (h : Fx K d l R T vx vp dx dp us n H) : H R = some (.lst us) := xh_le _ _ h.hR
theorem Fx.x (h : Fx K d l R T vx vp dx dp us n H) : Da 4 H vx dx := h.hx.mono xh_le (Nat.le_refl _)
theorem Fx.p (h : Fx K d l R T vx vp dx dp us n H) : Da 2 H vp dp := h.hp.mono xh_le (Nat.le_refl _)
/-- a row, read -/
theorem Fx.row (h : Fx K d l R T vx vp dx dp us n H) {v : V} (hv : v ∈ us) : ∃ (q a : Addr) (u : V) (is : List Nat) (c : D), v = .ref q ∧ XH H d q = some (.tup [.ref a, u]) ∧ SqT K (XH H d) a (pth is dx) ∧ Da 4 (XH H d) u c ∧ sub is dx = some c := by
  obtain ⟨j, ej⟩ := List.getElem?_of_mem hv
  obtain ⟨r, hr, q, a, u, rfl, h2, h3, h4⟩ := paired_get h.rows j _ ej
  obtain ⟨is, e1, e2⟩ := allV_at h.hx.wd (List.mem_of_getElem? hr)
  rw [List.nil_append] at e1
  rw [e1] at h3
  exact ⟨q, a, u, is, r.2, rfl, h2, h3, h4, e2⟩
end
theorem neF (z : Str) : V.bl (!decide (V.str z = V.str z)) = V.bl false := by simp
theorem natV_dummy : True := trivial
/-- a value that may be shown, no long tuple -/
def Bd (K : PySem.W.Frag) (d : Addr) (H : Hp) (v : V) (t : PyData) : Prop := Sd K (XH H d) v t ∧ t.showable = true ∧ t.depth ≤ 150 ∧ t.shown.length ≤ sizeLine ∧ ∀ ds, t = .tuple ds → ds.length ≤ 900
theorem Bd.up {K : PySem.W.Frag} {d : Addr} {H H' : Hp} {v : V} {t : PyData} (h : Bd K d H v t) (s : Same (XH H d) (XH H' d)) : Bd K d H' v t := ⟨sdM s h.1, h.2⟩
theorem Bd.same {K : PySem.W.Frag} {d : Addr} {H H' : Hp} {v : V} {t : PyData} (h : Bd K d H v t) (s : Same H H') : Bd K d H' v t := h.up (xh_same s)
theorem Bd.ext {K : PySem.W.Frag} {d : Addr} {H H' : Hp} {v : V} {t : PyData} (h : Bd K d H v t) (s : LamX.ExtN H H') : Bd K d H' v t := h.up (xh_ext s)
theorem Bd.shw {K : PySem.W.Frag} {d : Addr} {H : Hp} {v : V} {t : PyData} (h : Bd K d H v t) : Shw K H v t := ⟨sdM xh_le h.1, h.2.1, h.2.2.1, h.2.2.2.1⟩
theorem bd_od {K : PySem.W.Frag} {d : Addr} {H : Hp} {v : V} (h : Od K d H v) : ∃ t, Bd K d H v t := by
  obtain ⟨t, h1, h2, h3, h4, h5⟩ := h
  exact ⟨t, h1, h2, by omega, Nat.le_trans h4 (by decide), fun ds e => by have := h5 ds e; omega⟩
theorem sds_app {K : PySem.W.Frag} {H : Hp} : ∀ {vs us : List V} {ds es : List PyData}, SdAll K H vs ds → SdAll K H us es → SdAll K H (vs ++ us) (ds ++ es)
  | _, _, _, _, .nil, r => r
  | _, _, _, _, .cons a b, r => .cons a (sds_app b r)
theorem ftL_app {ds es : List PyData} {a b c : Nat} (h : FtL ds a b) (k : FtL es a c) : FtL (ds ++ es) a (b + c) := by
  have key : ∀ ds : List PyData, PyData.showableAll (ds ++ es) = (PyData.showableAll ds && PyData.showableAll es) ∧ PyData.depthAll (ds ++ es) = max (PyData.depthAll ds) (PyData.depthAll es) ∧ ((PyData.shownAll (ds ++ es)).map fun t => t.length + 2).sum = ((PyData.shownAll ds).map fun t => t.length + 2).sum + ((PyData.shownAll es).map fun t => t.length + 2).sum := by
    intro ds
    induction ds with
    | nil => exact ⟨by simp [PyData.showableAll], by simp [PyData.depthAll], by simp [PyData.shownAll]⟩
    | cons d ds ih =>
      obtain ⟨i1, i2, i3⟩ := ih
      refine ⟨?_, ?_, ?_⟩
      · rw [List.cons_append]
        show (d.showable && PyData.showableAll (ds ++ es)) = ((d.showable && PyData.showableAll ds) && PyData.showableAll es)
        rw [i1, Bool.and_assoc]
      · rw [List.cons_append]
        show max d.depth (PyData.depthAll (ds ++ es)) = max (max d.depth (PyData.depthAll ds)) (PyData.depthAll es)
        rw [i2, Nat.max_assoc]
      · rw [List.cons_append, PyData.shownAll, PyData.shownAll, List.map_cons, List.sum_cons, List.map_cons, List.sum_cons, i3]
        omega
  obtain ⟨k1, k2, k3⟩ := key ds
  refine ⟨by rw [k1, h.shw, k.shw]; rfl, ?_, ?_⟩
  · rw [k2]
    have h1 := h.dep
    have h2 := k.dep
    omega
  · rw [k3]
    have h1 := h.len
    have h2 := k.len
    omega
/-- a place with a step more -/
theorem bd_cat {K : PySem.W.Frag} {d : Addr} {H : Hp} {c : Addr} {xs : List V} {v : V} {t : PyData} {m : List (Key × V)} (hd : H d = some (.dK m)) (ok : OkP xs) (l : xs.length ≤ 8) (hc : SqT K H c (xs ++ [v])) (h0 : Sd K (XH H d) v t) (h1 : t.showable = true) (h2 : t.depth ≤ 4) (h3 : t.shown.length ≤ 200) : ∃ t, Bd K d H (.ref c) t := by
  have f := ft_tup (ftL_app ((okp_ft ok).mono (Nat.zero_le 4) (Nat.le_refl _)) (ftL_cons (⟨h1, h2, h3⟩ : Ft t 4 200) (ftL_nil (b := 0))))
  refine ⟨_, .tup (seqT_x hd hc) (sds_app (okp_sd ok) (.cons h0 .nil)), f.shw, Nat.le_trans f.dep (by decide), Nat.le_trans f.len (Nat.le_trans (show _ ≤ 1000 by omega) (by decide)), fun ds e => ?_⟩
  cases e
  rw [List.length_append, List.length_map, List.length_singleton]
  omega
theorem bd_list {K : PySem.W.Frag} {d : Addr} {H : Hp} {D : Addr} {xs : List V} {m : List (Key × V)} (hd : H d = some (.dK m)) (ok : OkP xs) (l : xs.length ≤ 8) (hD : H D = some (.lst xs)) : ∃ t, Bd K d H (.ref D) t := by
  have f := ft_lst (okp_ft ok)
  exact ⟨_, .lst (SqL.of (xh_some hD (ne_of hD hd (by intro z; cases z)) (fun _ z => by cases z))) (okp_sd ok), f.shw, Nat.le_trans f.dep (by decide), Nat.le_trans f.len (Nat.le_trans (show _ ≤ 1000 by omega) (by decide)), fun _ z => by cases z⟩
theorem sd_ty {K : PySem.W.Frag} {H : Hp} {v : V} {d : PyData} (h : Sd K H v d) : ∃ k : String, Ty K H v k := by
  cases h with
  | non => exact ⟨_, .non⟩
  | bl b => exact ⟨_, .bl b⟩
  | int i => exact ⟨_, .int i⟩
  | str x => exact ⟨_, .str x⟩
  | lst h _ => exact ⟨_, .lst h⟩
  | tup h _ => exact ⟨_, .tup h⟩
  | dct h _ => exact ⟨_, .dct h⟩
theorem sds_ty {K : PySem.W.Frag} {H : Hp} : ∀ {vs : List V} {ds : List PyData}, SdAll K H vs ds → ∀ u ∈ vs, ∃ k : String, Ty K H u k
  | _, _, .nil, _, h => by cases h
  | _, _, .cons a b, u, h => by
    rcases List.mem_cons.mp h with rfl | h
    · exact sd_ty a
    · exact sds_ty b u h
def rowP (ts : List V) : PyData := .tuple (ts.map pyV)
/-- what is no place is refused -/
theorem plA_bad {K : PySem.W.Frag} {C d : Addr} {dx : D} {vx : V} {t : PyData} {v : V} {H : Hp} {E : XK} {R : List Nat → D → Prop} (hx : Da 4 H vx dx) (lx : Lim 4 dx) (hb : Bd K d H v t) (hno : t.shown ∉ (allV 4 dx []).map fun r => (rowP r.1).shown) (hr : Refuse C v H E) : PlA K C vx dx v H E R := by
  obtain ⟨hv, _, _, _, hlen⟩ := hb
  have hv := sdM xh_le hv
  cases hv with
  | non => exact ⟨_, .non, .inl ⟨by decide, hr⟩⟩
  | bl b => exact ⟨_, .bl b, .inl ⟨by decide, hr⟩⟩
  | int i => exact ⟨_, .int i, .inl ⟨by decide, hr⟩⟩
  | str x => exact ⟨_, .str x, .inl ⟨by decide, hr⟩⟩
  | lst h _ => exact ⟨_, .lst h, .inl ⟨by decide, hr⟩⟩
  | dct h _ => exact ⟨_, .dct h, .inl ⟨by decide, hr⟩⟩
  | @tup a xs ds h ha =>
    refine ⟨_, .tup h, .inr ⟨rfl, a, xs, rfl, h, by rw [sds_len ha]; exact hlen ds rfl, sds_ty ha, .inr ⟨?_, hr⟩⟩⟩
    cases hw : walkH H vx xs with
    | none => rfl
    | some u =>
      exfalso
      obtain ⟨is, c, m, e1, e2, _, _⟩ := walk_da hx hw
      subst e2
      have ok := pth_ok hx lx e1
      have eds := sds_okp ok ha
      subst eds
      have := allV_has (s := []) hx.wd e1
      exact hno (List.mem_map.mpr ⟨_, this, by rw [List.nil_append]; rfl⟩)
/-- a place of the rows is taken -/
theorem plA_ok {K : PySem.W.Frag} {C : Addr} {dx c : D} {vx : V} {a : Addr} {is : List Nat} {H : Hp} {E : XK} {R : List Nat → D → Prop} (ha : SqT K H a (pth is dx)) (hs : sub is dx = some c) (hl : is.length ≤ 900) (k : R is c) : PlA K C vx dx (.ref a) H E R :=
  ⟨"tuple", .tup ha, .inr ⟨rfl, a, _, rfl, ha, by rw [pth_len hs]; exact hl, pth_ty hs, .inl ⟨is, c, hs, rfl, k⟩⟩⟩
theorem ty_kL (K : PySem.W.Frag) (d : D) : ∃ b, PySem.W.kitOne K (.type (tyS d)) (.type "list") = some b ∧ (b = true → ∃ ds, d = .lst ds) := by
  cases d with
  | lst ds => exact ⟨true, (kit_ty (by decide +kernel) : PySem.W.kitOne K (.type "list") (.type "list") = some true), fun _ => ⟨_, rfl⟩⟩
  | non => exact ⟨false, (kit_ty (by decide +kernel) : PySem.W.kitOne K (.type "NoneType") (.type "list") = some false), fun z => by cases z⟩
  | bl b => exact ⟨false, (kit_ty (by decide +kernel) : PySem.W.kitOne K (.type "bool") (.type "list") = some false), fun z => by cases z⟩
  | int i => exact ⟨false, (kit_ty (by decide +kernel) : PySem.W.kitOne K (.type "int") (.type "list") = some false), fun z => by cases z⟩
  | str x => exact ⟨false, (kit_ty (by decide +kernel) : PySem.W.kitOne K (.type "str") (.type "list") = some false), fun z => by cases z⟩
  | dct ks ds => exact ⟨false, (kit_ty (by decide +kernel) : PySem.W.kitOne K (.type "dict") (.type "list") = some false), fun z => by cases z⟩
theorem inV_strs (x : Str) : ∀ ks : List Str, inV (.str x) (ks.map V.str) = decide (x ∈ ks)
  | [] => by simp [inV]
  | k :: ks => by
    have ih := inV_strs x ks
    unfold inV at ih ⊢
    rw [List.map_cons, List.any_cons, ih]
    show ((k == x) || decide (x ∈ ks)) = _
    rw [Bool.eq_iff_iff, Bool.or_eq_true, beq_iff_eq, decide_eq_true_iff, decide_eq_true_iff, List.mem_cons]
    exact ⟨fun h => h.imp Eq.symm id, fun h => h.imp Eq.symm id⟩
theorem flat_strs (ks : List Str) : (ks.map V.str).all flatV = true := by
  rw [List.all_eq_true]
  intro v hv
  obtain ⟨k, _, rfl⟩ := List.mem_map.mp hv
  rfl
/-! texts of all places -/
def IsP (K : PySem.W.Frag) (H : Hp) (v : V) (ts : List V) : Prop := ∃ a : Addr, v = .ref a ∧ SqT K H a ts
theorem IsP.same {K : PySem.W.Frag} {H H' : Hp} {v : V} {ts : List V} (h : IsP K H v ts) (s : Same H H') : IsP K H' v ts := by
  obtain ⟨a, h1, h2⟩ := h
  exact ⟨a, h1, seqT_same s h2⟩
theorem ps_sd {K : PySem.W.Frag} {H : Hp} : ∀ {out : List V} {l : List (List V)}, Paired (IsP K H) out l → (∀ ts ∈ l, OkP ts) → SdAll K H out (l.map rowP)
  | _, _, .nil, _ => .nil
  | _, _, .cons h t, ok => by
    obtain ⟨a, rfl, hs⟩ := h
    exact .cons (.tup hs (okp_sd (ok _ List.mem_cons_self))) (ps_sd t fun ts hts => ok ts (List.mem_cons_of_mem _ hts))
theorem paths_ok {n : Nat} {H : Hp} {vx : V} {dx : D} (hx : Da n H vx dx) (lx : Lim n dx) : ∀ ts ∈ (allV n dx []).map (·.1), OkP ts ∧ ts.length ≤ n := by
  intro ts hts
  obtain ⟨r, hr, rfl⟩ := List.mem_map.mp hts
  obtain ⟨is, e1, e2⟩ := allV_at hx.wd hr
  rw [List.nil_append] at e1
  have := (sub_wd hx.wd e2).2
  rw [e1]
  exact ⟨pth_ok hx lx e2, by rw [pth_len e2]; exact this⟩
theorem paths_ft {H : Hp} {vx : V} {dx : D} (hx : Da 4 H vx dx) (lx : Lim 4 dx) : Ft (.list (((allV 4 dx []).map (·.1)).map rowP)) 2 20000 := by
  have h1 := ftL_all (a := 1) (b := 91) (ds := ((allV 4 dx []).map (·.1)).map rowP) fun d hd => by
    obtain ⟨ts, hts, rfl⟩ := List.mem_map.mp hd
    obtain ⟨o1, o2⟩ := paths_ok hx lx ts hts
    exact (ft_tup (okp_ft o1)).mono (Nat.le_refl _) (by omega)
  refine (ft_lst h1).mono (Nat.le_refl _) ?_
  have h2 := allV_len [] lx
  have h3 : NB 4 = 121 := by decide
  rw [List.length_map, List.length_map]
  omega
def kP (dx dp : D) : PyData := .list [toP 4 dx, toP 2 dp]
theorem kP_shw {K : PySem.W.Frag} {H : Hp} {p : Addr} {vx vp : V} {dx dp : D} (hx : Da 4 H vx dx) (hp : Da 2 H vp dp) (lx : Lim 4 dx) (lp : Lim 2 dp) (h : H p = some (.lst [vx, vp])) : Shw K H (.ref p) (kP dx dp) := by
  have f := ft_lst (ftL_cons (lim_ft lx) (ftL_cons ((lim_ft lp).mono (show 2 ≤ 4 by decide) (Nat.le_refl _)) (ftL_nil (b := 0))))
  exact shw_ft (.lst (SqL.of h) (.cons (da_sd hx) (.cons (da_sd hp) .nil))) f (by decide) (by decide)
end Toy


namespace Toy
open PySem PySem.Spec L2 PyProof.Rows PySem.W
/-! ### the law's own def -/
abbrev sLaw : Stmt := top 30
abbrev NLw : List Str := ["_law_script", "_law_tape", "_law_turn", "_law_keys_here", "_law_datum_here", "_law_part", "_law_rows", "_law_kept", "_law_spot", "_law_inner", "_law_told", "_law_due", "_law_other", "_law_known", "_law_x", "_law_row", "_law_k"]
theorem scLw : FnScope NLw ["_law_script"] (defScope sLaw) := ⟨rfl, rfl, rfl, by decide +kernel, rfl, by decide +kernel, by decide +kernel⟩
structure LawT (mg : Str → Option Value) : Prop where
  len : mg "len" = none
  range : mg "range" = none
  min : mg "min" = none
  repr : mg "repr" = none
  list : mg "list" = none
  isi : mg "isinstance" = none
  lke : mg "LookupError" = none
  str : mg "str" = none
def spLawT (K : PySem.W.Frag) (T : Addr) : Sp := fun vs H Q _ => ∃ (a : Addr) (ns : List Int), vs = [.ref a] ∧ SqL K H a (ns.map V.int) ∧ ns.length ≤ 63 ∧ H T = some (.tbl #[]) ∧ ∀ H', Q (.bl true) H'
def keys5 : List Str := ["a", "b", "ab", "aa", "z"]
theorem keys5_ok : keys5.length ≤ 5 ∧ keys5.Nodup ∧ (∀ k ∈ keys5, PyData.strOk k = true) ∧ (∀ k ∈ keys5, okX k = true) := ⟨by decide, by decide, by decide +kernel, by decide +kernel⟩
theorem pow_le {m : Nat} (h : m ≤ 4) : 8 * 4 ^ m ≤ 2048 := by
  have := Nat.pow_le_pow_right (show 0 < 4 by decide) h
  have e : 4 ^ 4 = 256 := by decide
  omega
theorem tand_any {t2 : TT} {b : Bool} {σ : L2.St} {H : Hp} {Q : Bool → Hp → Prop} (Pv : Hp → Prop) (h2 : b = true → ∀ Q' : Bool → Hp → Prop, (∀ H', Pv H' → Q' false H') → t2 σ H Q') (h0 : Pv H) (k : ∀ H', Pv H' → Q false H') : if b = true then t2 σ H Q else Q false H := by
  cases b with
  | true => exact h2 rfl Q k
  | false => exact k H h0
theorem sl_begins {K : PySem.W.Frag} {H : Hp} {b : Addr} {ys : List V} {n : Nat} {R : V → Hp → Prop} (hb : SqT K H b ys) (q : ∀ H' c, Same H H' → SqT K H' c (ys.take n) → R (.ref c) H') : rSlA K (.ref b) none (some ((n : Nat) : Int)) H R :=
  slA_run hb (fun H' c s hc => q H' c s (by rw [cut_take] at hc; exact hc)) cut_all
theorem shw_bl {K : PySem.W.Frag} {H : Hp} (b : Bool) : Shw K H (.bl b) (.bool b) := ⟨.bl b, rfl, Nat.zero_le _, Nat.le_trans (by cases b <;> decide +kernel : (PyData.shown (.bool b)).length ≤ 5) (by decide)⟩
theorem delS_nil {H : Hp} : Same H (delS H []) := fun b o h => delS_some (by simp) h
section
variable {P : Program} {w : World} {K : PySem.W.Frag} {mg : Str → Option Value} {base : Heap}
theorem body_law {f c T C fB fD fP fSh fDt fSp fPl fPA fWi fWo fEx fLe fAl fBg fO fL : Addr} {dB dD dP dSh dDt dSp dPl dPA dWi dWo dEx dLe dAl dBg dO : FuncData} (L : LawT mg) (SY : SysD K)
    (GB : FnOk P w K mg base CX0 1 fB dB ["_law_script"] (spBegin K)) (mB : mg "_law_begin" = some (.ref fB)) (kB : PySem.W.keepIn K (.ref fB) = true) (bB : Binds K dB ["_law_script"] [])
    (GD : FnOk P w K mg base CX0 1 fD dD ["_law_tape", "_law_many"] spDraw) (mD : mg "_law_draw" = some (.ref fD)) (kD : PySem.W.keepIn K (.ref fD) = true) (bD : Binds K dD ["_law_tape", "_law_many"] [])
    (GP : FnOk P w K mg base CX0 2 fP dP ["_law_tape", "_law_items"] spPick) (mP : mg "_law_pick" = some (.ref fP)) (kP' : PySem.W.keepIn K (.ref fP) = true) (bP : Binds K dP ["_law_tape", "_law_items"] [])
    (GSh : FnOk P w K mg base CX0 2 fSh dSh ["_law_tape", "_law_items"] spShuf) (mSh : mg "_law_shuffled" = some (.ref fSh)) (kSh : PySem.W.keepIn K (.ref fSh) = true) (bSh : Binds K dSh ["_law_tape", "_law_items"] [])
    (GDt : FnOk P w K mg base CX0 9 fDt dDt ["_law_tape", "_law_keys_here", "_law_deep"] (spDatum 5)) (mDt : mg "_law_datum" = some (.ref fDt)) (kDt : PySem.W.keepIn K (.ref fDt) = true) (bDt : Binds K dDt ["_law_tape", "_law_keys_here", "_law_deep"] [])
    (GSp : FnOk P w K mg base CX0 7 fSp dSp ["_law_datum_here", "_law_spot"] (spSpots K 4 5)) (mSp : mg "_law_spots" = some (.ref fSp)) (kSp : PySem.W.keepIn K (.ref fSp) = true) (bSp : Binds K dSp ["_law_datum_here", "_law_spot"] [])
    (GPl : GFn P w K mg base 2 fPl dPl ["datum"] spPlaces) (mPl : mg "places" = some (.ref fPl)) (kPl : PySem.W.keepIn K (.ref fPl) = true) (bPl : Binds K dPl ["datum"] [])
    (GPA : FnOk P w K mg base (L2.CX P w) 9 fPA dPA ["datum", "place"] (spPartAt K C 5)) (mPA : mg "part_at" = some (.ref fPA)) (kPA : PySem.W.keepIn K (.ref fPA) = true) (bPA : Binds K dPA ["datum", "place"] [])
    (GWi : FnOk P w K mg base (L2.CX P w) 9 fWi dWi ["datum", "place", "part"] (spWith K C 5)) (mWi : mg "with_part" = some (.ref fWi)) (kWi : PySem.W.keepIn K (.ref fWi) = true) (bWi : Binds K dWi ["datum", "place", "part"] [])
    (GWo : FnOk P w K mg base (L2.CX P w) 9 fWo dWo ["datum", "place"] (spLess K C 5)) (mWo : mg "without" = some (.ref fWo)) (kWo : PySem.W.keepIn K (.ref fWo) = true) (bWo : Binds K dWo ["datum", "place"] [])
    (GEx : FnOk P w K mg base CX0 7 fEx dEx ["_law_datum_here", "_law_spot", "_law_part"] (spEx K 5)) (mEx : mg "_law_exchanged" = some (.ref fEx)) (kEx : PySem.W.keepIn K (.ref fEx) = true) (bEx : Binds K dEx ["_law_datum_here", "_law_spot", "_law_part"] [])
    (GLe : FnOk P w K mg base CX0 7 fLe dLe ["_law_datum_here", "_law_spot"] (spLe K 5)) (mLe : mg "_law_less" = some (.ref fLe)) (kLe : PySem.W.keepIn K (.ref fLe) = true) (bLe : Binds K dLe ["_law_datum_here", "_law_spot"] [])
    (GAl : FnOk P w K mg base CX0 12 fAl dAl ["_law_one", "_law_other"] (spAlike 9)) (mAl : mg "_law_alike" = some (.ref fAl)) (kAl : PySem.W.keepIn K (.ref fAl) = true) (bAl : Binds K dAl ["_law_one", "_law_other"] [])
    (GBg : FnOk P w K mg base CX0 1 fBg dBg ["one", "other"] (spBegins K)) (mBg : mg "begins" = some (.ref fBg)) (kBg : PySem.W.keepIn K (.ref fBg) = true) (bBg : Binds K dBg ["one", "other"] [])
    (GO : FnOk P w K mg base CX0 3 fO dO ["_law_tape"] (spOdd K)) (mO : mg "_law_odd" = some (.ref fO)) (kO : PySem.W.keepIn K (.ref fO) = true) (bO : Binds K dO ["_law_tape"] [])
    (CN : ClsN K C) (mN : mg "NoPart" = some (.ref C)) {dV kV doc pm cdvL ctL oc : Value} {an od : Option Addr} {osl : Array (Option Value)} (mL : mg "_law_lost" = some (.ref fL)) (kL : PySem.W.keepIn K (.ref fL) = true) (lkL : K.lookup fL = some ⟨oc, od, .func (PySem.W.fnOf "_law_lost" "_law_lost" (defArgs sLost) (defBody sLost) (defScope sLost) dV kV doc pm an cdvL ctL), osl⟩)
    (hcL : PySem.W.codeIn K cdvL "_law_lost" = true) (bL : Binds K (PySem.W.fnOf "_law_lost" "_law_lost" (defArgs sLost) (defBody sLost) (defScope sLost) dV kV doc pm an cdvL ctL) ["_law_call"] []) (TB : LamX.TabB base mg c T) :
    BodyT P w K mg base 20 NLw "law" (defScope sLaw) (defBody sLaw) f c (spLawT K T) := by
  intro s H vs Q E hr h
  obtain ⟨a, ns, rfl, hS, hlen, hT0, q⟩ := h
  have hr1 : Room 1 (callerA.deeper (PyProof.Rows.envOfC "law" (defScope sLaw) s.heap.objs.size f (.ref c))) := hr.mono (by decide)
  have hr2 : Room 2 (callerA.deeper (PyProof.Rows.envOfC "law" (defScope sLaw) s.heap.objs.size f (.ref c))) := hr.mono (by decide)
  have hr3 : Room 3 (callerA.deeper (PyProof.Rows.envOfC "law" (defScope sLaw) s.heap.objs.size f (.ref c))) := hr.mono (by decide)
  have hr5 : Room 5 (callerA.deeper (PyProof.Rows.envOfC "law" (defScope sLaw) s.heap.objs.size f (.ref c))) := hr.mono (by decide)
  have hr7 : Room 7 (callerA.deeper (PyProof.Rows.envOfC "law" (defScope sLaw) s.heap.objs.size f (.ref c))) := hr.mono (by decide)
  have hr9 : Room 9 (callerA.deeper (PyProof.Rows.envOfC "law" (defScope sLaw) s.heap.objs.size f (.ref c))) := hr.mono (by decide)
  have hr11 : Room 11 (callerA.deeper (PyProof.Rows.envOfC "law" (defScope sLaw) s.heap.objs.size f (.ref c))) := hr.mono (by decide)
  have hr12 : Room 12 (callerA.deeper (PyProof.Rows.envOfC "law" (defScope sLaw) s.heap.objs.size f (.ref c))) := hr.mono (by decide)
  have hu : (callerA.deeper (PyProof.Rows.envOfC "law" (defScope sLaw) s.heap.objs.size f (.ref c))).units + 230 < cLine := by
    have := hr.un
    omega
  have hu2 : (callerA.deeper (PyProof.Rows.envOfC "law" (defScope sLaw) s.heap.objs.size f (.ref c))).units + 200 < cLine := by omega
  have hgd : (callerA.deeper (PyProof.Rows.envOfC "law" (defScope sLaw) s.heap.objs.size f (.ref c))).guards = some [] := rfl
  refine ⟨_, PSs.nox (pss_cons (ps_set (i := 1) scLw.nd rfl (Or.inr rfl) (pe_call GB hr1 (by rfl) mB kB bB .nil pass0 (pa_cons (pv 0) pa_nil)))
    (pss_cons (ps_for PassesOwn.never rfl (pi_range1 (by rfl) L.range (pa_cons (pe_op op_add pe_int (pe_callB (call_min2 rfl) (by rfl) L.min (by decide +kernel) (pa_cons pe_int (pa_cons (pe_callB call_len_seq (by rfl) L.len PySem.boot_len (pa_cons (pv 0) pa_nil)) pa_nil)))) pa_nil)) (pg_name (i := 2) scLw.nd rfl (Or.inl rfl))
      (pss_cons (ps_set (i := 3) scLw.nd rfl (Or.inl rfl) (pe_call GSh hr2 (by rfl) mSh kSh bSh .nil pass0 (pa_cons (pv 1) (pa_cons (pe_lst (pa_cons pe_str (pa_cons pe_str (pa_cons pe_str (pa_cons pe_str (pa_cons pe_str pa_nil)))))) pa_nil))))
      (pss_cons (ps_asg (pe_tup (pa_cons (pe_call GDt hr9 (by rfl) mDt kDt bDt .nil pass0 (pa_cons (pv 1) (pa_cons (pv 3) (pa_cons (pe_op op_add pe_int (pe_call GD hr1 (by rfl) mD kD bD .nil pass0 (pa_cons (pv 1) (pa_cons pe_int pa_nil)))) pa_nil))))
          (pa_cons (pe_call GDt hr9 (by rfl) mDt kDt bDt .nil pass0 (pa_cons (pv 1) (pa_cons (pv 3) (pa_cons (pe_call GD hr1 (by rfl) mD kD bD .nil pass0 (pa_cons (pv 1) (pa_cons pe_int pa_nil))) pa_nil)))) pa_nil)))
        (pg_tup (by rfl) (pgs_cons (pg_name (i := 4) scLw.nd rfl (.inr rfl)) (pgs_cons (pg_name (i := 5) scLw.nd rfl (.inl rfl)) pgs_nil))))
      (pss_cons (ps_asg (pe_tup (pa_cons (pe_call GSp hr7 (by rfl) mSp kSp bSp .nil pass0 (pa_cons (pv 4) (pa_cons (pe_tup pa_nil) pa_nil)))
          (pa_cons (pe_callB (show CallR _ (.builtin "repr") (rRepA K) from call_rep SY hu2 hgd) (by rfl) L.repr (by decide +kernel) (pa_cons (pe_lst (pa_cons (pv 4) (pa_cons (pv 5) pa_nil))) pa_nil)) pa_nil)))
        (pg_tup (by rfl) (pgs_cons (pg_name (i := 6) scLw.nd rfl (.inr rfl)) (pgs_cons (pg_name (i := 7) scLw.nd rfl (.inl rfl)) pgs_nil))))
      (pss_cons (ps_if (pt_cmpR op_ne (pe_callB (show CallR _ (.builtin "repr") (rRepA K) from call_rep SY hu2 hgd) (by rfl) L.repr (by decide +kernel) (pa_cons (pe_listG (pgen_call GPl hr2 (by rfl) mPl kPl bPl .nil (pa_cons (pv 4) pa_nil)) no_pass (fun _ _ _ z => z.elim) hr5 (by rfl) L.list (by decide +kernel)) pa_nil))
          (pe_callB (show CallR _ (.builtin "repr") (rRepA K) from call_rep SY hu2 hgd) (by rfl) L.repr (by decide +kernel) (pa_cons (pe_lc (own := [("_law_row", 15)]) (g := gName 15) (te := tOp (rIxT K) (tVar 15) (tC (.int 0))) (by rfl) scLw.nd (pi_list (pv 6)) (blkOk_by (own := [("_law_row", 15)]) (N := NLw) (sc := defScope sLaw) (by decide +kernel)) (fun _ _ _ _ _ => pg_name (i := 15) scLw.nd rfl (Or.inl rfl)) (fun _ _ _ _ _ => pts_nil)
            (fun _ _ _ _ _ => by exact (pe_ix ix_tup (pv 15) pe_int (fun _ _ => rfl)))) pa_nil)) (nomark _)) (pss_one (ps_ret pe_bl)) pss_nil)
      (pss_cons (ps_for PassesOwn.never rfl (pi_list (pe_op op_cat (pe_lc (own := [("_law_k", 16)]) (g := gName 16) (te := tCall spPick [] E0 (tCons (tVar 1) (tCons (tVar 6) tNil))) (by rfl) scLw.nd (pi_range1 (by rfl) L.range (pa_cons pe_int pa_nil)) (blkOk_by (own := [("_law_k", 16)]) (N := NLw) (sc := defScope sLaw) (by decide +kernel)) (fun _ _ _ _ _ => pg_name (i := 16) scLw.nd rfl (Or.inl rfl)) (fun _ _ _ _ _ => pts_nil)
            (fun _ _ _ _ _ => by exact (pe_call GP hr2 (by rfl) mP kP' bP .nil pass0 (pa_cons (pv 1) (pa_cons (pv 6) pa_nil))))) (pe_slice sl_list (pv 6) po_none (po_some pe_int))))
          (pg_tup (by rfl) (pgs_cons (pg_name (i := 8) scLw.nd rfl (.inl rfl)) (pgs_cons (pg_name (i := 9) scLw.nd rfl (.inl rfl)) pgs_nil)))
        (pss_cons (ps_set (i := 10) scLw.nd rfl (Or.inl rfl) (pe_call (E := E0) GPA hr9 (by rfl) mPA kPA bPA .nil no_pass (pa_cons (pv 4) (pa_cons (pv 8) pa_nil))))
        (pss_cons (ps_set (i := 11) scLw.nd rfl (Or.inl rfl) (pe_call GEx hr7 (by rfl) mEx kEx bEx .nil pass0 (pa_cons (pv 4) (pa_cons (pv 8) (pa_cons (pv 5) pa_nil)))))
        (pss_cons (ps_if (PW.pt (pw_or (pt_not (pt_val (pe_call GAl hr12 (by rfl) mAl kAl bAl .nil pass0 (pa_cons (pv 10) (pa_cons (pv 9) pa_nil))))) (pw_or1 (pt_not (pt_val (pe_call GAl hr12 (by rfl) mAl kAl bAl .nil pass0 (pa_cons (pe_call (E := E0) GWi hr9 (by rfl) mWi kWi bWi .nil no_pass (pa_cons (pv 4) (pa_cons (pv 8) (pa_cons (pv 5) pa_nil)))) (pa_cons (pv 11) pa_nil)))))))) (pss_one (ps_ret pe_bl)) pss_nil)
        (pss_cons (ps_if (PW.pt (pw_and (pt_cmpR (op_neT0 hr1.units) (pv 8) (pe_tup pa_nil) (nomark _)) (pw_and1 (pt_not (pt_val (pe_call GAl hr12 (by rfl) mAl kAl bAl .nil pass0 (pa_cons (pe_call (E := E0) GWo hr9 (by rfl) mWo kWo bWo .nil no_pass (pa_cons (pv 4) (pa_cons (pv 8) pa_nil))) (pa_cons (pe_call GLe hr7 (by rfl) mLe kLe bLe .nil pass0 (pa_cons (pv 4) (pa_cons (pv 8) pa_nil))) pa_nil)))))))) (pss_one (ps_ret pe_bl)) pss_nil)
        (pss_cons (ps_if (pt_val (pe_callB call_isi (by rfl) L.isi PyProof.Rows.boot_isinstance (pa_cons (pv 10) (pa_cons (pe_bltn (v := .ty "list") (by rfl) L.list (by decide +kernel) rfl) pa_nil)))) (pss_one (ps_expr (pe_bm PySem.F.plainAttrs_list PySem.F.slot_list_append PySem.F.type_list_append mt_append (pv 10) (pa_cons pe_int pa_nil)))) pss_nil)
        (pss_cons (ps_set (i := 12) scLw.nd rfl (Or.inl rfl) (pe_ix ix_tup (pe_call GP hr2 (by rfl) mP kP' bP .nil pass0 (pa_cons (pv 1) (pa_cons (pv 6) pa_nil))) pe_int (fun _ _ => rfl)))
        (pss_one (ps_if (pt_cmpR op_ne (pe_callB (show CallR _ (.builtin "repr") (rRepA K) from call_rep SY hu2 hgd) (by rfl) L.repr (by decide +kernel) (pa_cons (pe_call GBg hr1 (by rfl) mBg kBg bBg .nil pass0 (pa_cons (pv 8) (pa_cons (pv 12) pa_nil))) pa_nil))
          (pe_callB (show CallR _ (.builtin "repr") (rRepA K) from call_rep SY hu2 hgd) (by rfl) L.repr (by decide +kernel) (pa_cons (pe_cmpR (op_eqD hr1.units) (pe_slice sl_tupA (pv 12) po_none (po_some (pe_callB call_len_seq (by rfl) L.len PySem.boot_len (pa_cons (pv 8) pa_nil)))) (pv 8) (nomark _)) pa_nil)) (nomark _)) (pss_one (ps_ret pe_bl)) pss_nil)))))))))
      (pss_cons (ps_set (i := 8) scLw.nd rfl (Or.inl rfl) (pe_ix ix_tup (pe_call GP hr2 (by rfl) mP kP' bP .nil pass0 (pa_cons (pv 1) (pa_cons (pv 6) pa_nil))) pe_int (fun _ _ => rfl)))
      (pss_cons (ps_setLc (i := 13) (own := [("_law_row", 15)]) (g := gName 15) (te := tCB (rRepA K) (tCons (tOp (rIxT K) (tVar 15) (tC (.int 0))) tNil)) (by rfl) scLw.nd rfl rfl (sw_true rfl rfl rfl (by decide +kernel)) (pi_list (pv 6)) (blkOk_by (own := [("_law_row", 15)]) (N := NLw) (sc := defScope sLaw) (by decide +kernel)) (fun _ _ _ _ _ => by exact (pg_name (i := 15) scLw.nd rfl (Or.inl rfl))) (fun _ _ _ _ _ => pts_nil)
          (fun _ _ _ _ _ => by exact (pe_callB (show CallR _ (.builtin "repr") (rRepA K) from call_rep SY hu2 hgd) (by rfl) L.repr (by decide +kernel) (pa_cons (pe_ix ix_tup (pv 15) pe_int (fun _ _ => rfl)) pa_nil))))
      (pss_cons (ps_for PassesOwn.never rfl (pi_list (pe_lst (pa_cons (pe_call GO hr3 (by rfl) mO kO bO .nil pass0 (pa_cons (pv 1) pa_nil)) (pa_cons (pe_op op_catA (pv 8) (pe_tup (pa_cons (pe_call GO hr3 (by rfl) mO kO bO .nil pass0 (pa_cons (pv 1) pa_nil)) pa_nil))) (pa_cons (pe_op op_catA (pv 8) (pe_tup (pa_cons (pe_un un_neg pe_int) pa_nil))) (pa_cons (pe_op op_catA (pv 8) (pe_tup (pa_cons pe_bl pa_nil))) (pa_cons (pe_callTy call_list_of (by rfl) L.list (by decide +kernel) (pa_cons (pv 8) pa_nil)) (pa_cons (pe_op op_catA (pv 8) (pe_tup (pa_cons pe_str pa_nil))) pa_nil)))))))) (pg_name (i := 14) scLw.nd rfl (Or.inr rfl))
        (pss_one (ps_if (PW.pt (pw_and (pt_cmpR op_notIn_seq (pe_callB (show CallR _ (.builtin "repr") (rRepA K) from call_rep SY hu2 hgd) (by rfl) L.repr (by decide +kernel) (pa_cons (pv 14) pa_nil)) (pv 13) (by rfl)) (pw_and1 (pt_not (pt_val (pe_callB call_isi (by rfl) L.isi PyProof.Rows.boot_isinstance (pa_cons (pv 14) (pa_cons (pe_bltn (v := .ty "str") (by rfl) L.str (by decide +kernel) rfl) pa_nil))))))))
          (pss_cons (ps_if (PW.pt (pw_or (pt_cmpR op_ne (LamX.pe_lamcall (T := [(T, qLam)]) (TT := TTLost K C) (k := 9) (Ng := NLo) (t := (fun E => tCall (spPartAt K C 5) [] E (tCons (tVar 4) (tCons (tVar 14) tNil)))) (by rfl) mL kL lkL hcL bL scLo rfl (.inl rfl) (lost_gives CN SY hu hgd mN L.isi L.repr L.lke) TB rfl (by exact List.mem_singleton.mpr rfl) (fun p hp _ => by rw [List.mem_singleton.mp hp]; rfl) hr11 (LamX.lamS_by (sc := defScope sLaw) (by decide +kernel)) rfl (fun _ _ _ _ _ => rfl) (fun A outer s H E f' c' hrL => by exact (pe_call (E := E) GPA hrL (by rfl) mPA kPA bPA .nil (passes_call (takes_of rfl rfl rfl rfl) fun cls d _ H h => h) (pa_cons (pv 4) (pa_cons (pv 14) pa_nil))))) (pe_callB (show CallR _ (.builtin "repr") (rRepA K) from call_rep SY hu2 hgd) (by rfl) L.repr (by decide +kernel) (pa_cons (pv 14) pa_nil)) (nomark _))
              (pw_or1 (pt_cmpR op_ne (LamX.pe_lamcall (T := [(T, qLam)]) (TT := TTLost K C) (k := 9) (Ng := NLo) (t := (fun E => tCall (spWith K C 5) [] E (tCons (tVar 4) (tCons (tVar 14) (tCons (tC (.int 1)) tNil))))) (by rfl) mL kL lkL hcL bL scLo rfl (.inl rfl) (lost_gives CN SY hu hgd mN L.isi L.repr L.lke) TB rfl (by exact List.mem_singleton.mpr rfl) (fun p hp _ => by rw [List.mem_singleton.mp hp]; rfl) hr11 (LamX.lamS_by (sc := defScope sLaw) (by decide +kernel)) rfl (fun _ _ _ _ _ => rfl) (fun A outer s H E f' c' hrL => by exact (pe_call (E := E) GWi hrL (by rfl) mWi kWi bWi .nil (passes_call (takes_of rfl rfl rfl rfl) fun cls d _ H h => h) (pa_cons (pv 4) (pa_cons (pv 14) (pa_cons pe_int pa_nil)))))) (pe_callB (show CallR _ (.builtin "repr") (rRepA K) from call_rep SY hu2 hgd) (by rfl) L.repr (by decide +kernel) (pa_cons (pv 14) pa_nil)) (nomark _))))) (pss_one (ps_ret pe_bl)) pss_nil)
          (pss_one (ps_if (pt_cmpR op_ne (LamX.pe_lamcall (T := [(T, qLam)]) (TT := TTLost K C) (k := 9) (Ng := NLo) (t := (fun E => tCall (spLess K C 5) [] E (tCons (tVar 4) (tCons (tVar 14) tNil)))) (by rfl) mL kL lkL hcL bL scLo rfl (.inl rfl) (lost_gives CN SY hu hgd mN L.isi L.repr L.lke) TB rfl (by exact List.mem_singleton.mpr rfl) (fun p hp _ => by rw [List.mem_singleton.mp hp]; rfl) hr11 (LamX.lamS_by (sc := defScope sLaw) (by decide +kernel)) rfl (fun _ _ _ _ _ => rfl) (fun A outer s H E f' c' hrL => by exact (pe_call (E := E) GWo hrL (by rfl) mWo kWo bWo .nil (passes_call (takes_of rfl rfl rfl rfl) fun cls d _ H h => h) (pa_cons (pv 4) (pa_cons (pv 14) pa_nil))))) (pe_callB (show CallR _ (.builtin "repr") (rRepA K) from call_rep SY hu2 hgd) (by rfl) L.repr (by decide +kernel) (pa_cons (pv 14) pa_nil)) (nomark _)) (pss_one (ps_ret pe_bl)) pss_nil))) pss_nil)))
      (pss_one (ps_if (PW.pt (pw_or (pt_cmpR op_ne (LamX.pe_lamcall (T := [(T, qLam)]) (TT := TTLost K C) (k := 9) (Ng := NLo) (t := (fun E => tCall (spLess K C 5) [] E (tCons (tVar 4) (tCons (tTup tNil) tNil)))) (by rfl) mL kL lkL hcL bL scLo rfl (.inl rfl) (lost_gives CN SY hu hgd mN L.isi L.repr L.lke) TB rfl (by exact List.mem_singleton.mpr rfl) (fun p hp _ => by rw [List.mem_singleton.mp hp]; rfl) hr11 (LamX.lamS_by (sc := defScope sLaw) (by decide +kernel)) rfl (fun _ _ _ _ _ => rfl) (fun A outer s H E f' c' hrL => by exact (pe_call (E := E) GWo hrL (by rfl) mWo kWo bWo .nil (passes_call (takes_of rfl rfl rfl rfl) fun cls d _ H h => h) (pa_cons (pv 4) (pa_cons (pe_tup pa_nil) pa_nil))))) pe_str (nomark _))
          (pw_or1 (pt_cmpR op_ne (pe_callB (show CallR _ (.builtin "repr") (rRepA K) from call_rep SY hu2 hgd) (by rfl) L.repr (by decide +kernel) (pa_cons (pe_lst (pa_cons (pv 4) (pa_cons (pv 5) pa_nil))) pa_nil)) (pv 7) (nomark _))))) (pss_one (ps_ret pe_bl)) pss_nil)))))))))))
    (pss_one (ps_ret pe_bl)))), ?_⟩
  refine ⟨_, rfl, a, ns, rfl, hS, hlen, fun H1 d l s1 nd nl nld hT => ?_⟩
  refine ⟨_, rfl, a, _, rfl, .inl (s1.seq hS), _, _, rfl, _, _, rfl, rfl, _, rfl, ?_⟩
  generalize hnn : (4 + if (((ns.map V.int).length : Nat) : Int) < 4 then (((ns.map V.int).length : Nat) : Int) else 4) = nn
  have hn10 : 4 ≤ nn ∧ nn ≤ 8 := by
    rw [← hnn]
    split <;> omega
  refine ⟨by omega, by omega, ?_⟩
  have tb0 : LamX.Tabs [(T, qLam)] H1 := fun p hp => by
    rw [List.mem_singleton.mp hp]
    exact LamX.TabS.nil (s1 _ _ hT0)
  refine for_range (lo := 0) (n := nn.toNat) (fun i σ H' => ∃ v2 v3 v4 v5 v6 v7 v8 v9 v10 v11 v12 v13 v14 : Option V, σ = [some (.ref a), some (.ref d), v2, v3, v4, v5, v6, v7, v8, v9, v10, v11, v12, v13, v14, none, none] ∧ Tape H' d l (5000 * i) ∧ LamX.Tabs [(T, qLam)] H') ⟨none, none, none, none, none, none, none, none, none, none, none, none, none, rfl, hT, tb0⟩ ?_ ?_
  · rintro i σ Ha hi ⟨v2, v3, v4, v5, v6, v7, v8, v9, v10, v11, v12, v13, v14, rfl, ta, tba⟩
    have hi9 : i ≤ 7 := by omega
    refine ⟨_, rfl, few (by show 5 ≤ 1000; decide), fun kp nkp => ?_⟩
    have sb : Same Ha (upd Ha kp (.lst [.str "a", .str "b", .str "ab", .str "aa", .str "z"])) := same_new same_id nkp
    have hkp : (upd Ha kp (.lst [.str "a", .str "b", .str "ab", .str "aa", .str "z"])) kp = some (.lst (keys5.map V.str)) := upd_same
    have nkd : kp ≠ d := by
      obtain ⟨o, ho⟩ := ta.at.1
      exact (ne_of_none ho nkp).symm
    generalize upd Ha kp (.lst [.str "a", .str "b", .str "ab", .str "aa", .str "z"]) = Hb at sb hkp ⊢
    have tb := ta.same sb
    have tbb := tabs_same tba sb
    generalize hN : 5000 * i = N0 at tb
    obtain ⟨k51, k52, k53, k54⟩ := keys5_ok
    refine ⟨d, l, kp, N0, keys5, rfl, tb, by omega, hkp, by omega, k53, fun Hc Rk ys b2 tc nRk hRk perm => ?_⟩
    have e5 : keys5.length = 5 := rfl
    rw [e5] at tc
    obtain ⟨m0, hd0⟩ := tb.dk
    have tbc := tabs_but tbb hd0 b2
    have nRd : Rk ≠ d := by
      obtain ⟨o, ho⟩ := tb.at.1
      exact (ne_of_none ho nRk).symm
    have ly : ys.length ≤ 5 := by rw [perm.length_eq]; exact k51
    have ndy : ys.Nodup := perm.nodup_iff.mpr k52
    have oky : ∀ k ∈ ys, PyData.strOk k = true := fun k hk => k53 k (perm.mem_iff.mp hk)
    have oxy : ∀ k ∈ ys, okX k = true := fun k hk => k54 k (perm.mem_iff.mp hk)
    refine ⟨_, rfl, _, rfl, _, rfl, d, l, N0 + 5, 4, rfl, tc, by omega, by decide, by decide, fun Hd r b3 td r0 r4 => ⟨_, _, rfl, rfl, ?_⟩⟩
    obtain ⟨rn, rfl⟩ : ∃ rn : Nat, r = rn := ⟨r.toNat, by omega⟩
    have hrn : 1 + rn ≤ 4 := by omega
    have er : [V.ref d, V.ref Rk, V.int (1 + ((rn : Nat) : Int))] = [V.ref d, V.ref Rk, V.int ((1 + rn : Nat) : Int)] := by
      push_cast
      rfl
    have hRd := b3 _ _ nRd hRk
    obtain ⟨m1, hd1⟩ := tc.dk
    have tbd := tabs_but tbc hd1 b3
    have pw1 := pow_le hrn
    refine ⟨d, l, Rk, N0 + 5 + 1, 1 + rn, ys, by omega, er, td, by omega, hRd, ly, ndy, oky, oxy, fun He vx dx b4 te dax lx0 => ?_⟩
    obtain ⟨m2, hd2⟩ := td.dk
    have tbe := tabs_but tbd hd2 b4
    have hRe := b4 _ _ nRd hRd
    have hx0 : Da 4 (XH He d) vx dx := da_fresh hd2 dax hrn
    have lx : Lim 4 dx := lx0.mono hrn
    have te := te.more (show N0 + 5 + 1 + 8 * 4 ^ (1 + rn) ≤ N0 + 2100 by omega)
    refine ⟨_, rfl, _, rfl, _, rfl, d, l, N0 + 2100, 3, rfl, te, by omega, by decide, by decide, fun Hf r2 b5 tf r20 r24 => ?_⟩
    obtain ⟨rm, rfl⟩ : ∃ rm : Nat, r2 = rm := ⟨r2.toNat, by omega⟩
    have hrm : rm ≤ 2 := by omega
    obtain ⟨m3, hd3⟩ := te.dk
    have tbf := tabs_but tbe hd3 b5
    have hRf := b5 _ _ nRd hRe
    have pw2 := pow_le (show rm ≤ 4 by omega)
    refine ⟨d, l, Rk, N0 + 2100 + 1, rm, ys, by omega, rfl, tf, by omega, hRf, ly, ndy, oky, oxy, fun Hg vp dp b6 tg dap lp0 => ⟨few (by show 2 ≤ 1000; decide), fun T1 nT1 => ?_⟩⟩
    obtain ⟨m4, hd4⟩ := tf.dk
    have tbg := tabs_but tbf hd4 b6
    have hp0 : Da 2 (XH Hg d) vp dp := da_fresh hd4 dap hrm
    have lp : Lim 2 dp := lp0.mono hrm
    have hx1 : Da 4 (XH Hg d) vx dx := hx0.mono (xh_but (b5.trans b6)) (Nat.le_refl _)
    have tg := tg.more (show N0 + 2100 + 1 + 8 * 4 ^ rm ≤ N0 + 4200 by omega)
    have s2 : Same Hg (upd Hg T1 (.tup [vx, vp])) := same_new same_id nT1
    refine ⟨T1, _, rfl, SqT.of upd_same, rfl, _, _, rfl, _, _, rfl, rfl, ?_⟩
    have ti := tg.same s2
    have tbi := tabs_same tbg s2
    have hxi := hx1.mono (xh_same s2) (Nat.le_refl _)
    have hpi := hp0.mono (xh_same s2) (Nat.le_refl _)
    generalize upd Hg T1 (.tup [vx, vp]) = Hi at ti tbi hxi hpi ⊢
    refine ⟨_, rfl, Nat.zero_le _, fun a0 na0 => ?_⟩
    have s3 : Same Hi (upd Hi a0 (.tup [])) := same_new same_id na0
    have ha0 : SqT K (upd Hi a0 (.tup [])) a0 [] := SqT.of upd_same
    have tj := ti.same s3
    have tbj := tabs_same tbi s3
    have hxj := hxi.mono (xh_same s3) (Nat.le_refl _)
    have hpj := hpi.mono (xh_same s3) (Nat.le_refl _)
    generalize upd Hi a0 (.tup []) = Hj at ha0 tj tbj hxj hpj ⊢
    have lall := allV_len [] lx
    have eNB : NB 4 = 121 := by decide
    rw [eNB] at lall
    refine ⟨vx, a0, 4, dx, [], XH Hj d, by decide, by decide, rfl, xh_le, hxj, ha0, by decide, by omega, fun Hk R us s4 nR hR hrows => ?_⟩
    obtain ⟨m5, hd5⟩ := tj.dk
    have nRd2 : R ≠ d := fun z => by rw [z, hd5] at nR; cases nR
    have X0 : Fx K d l R T vx vp dx dp us (N0 + 4200) Hk := ⟨tj.same s4, tabs_same tbj s4, hxj.mono (xh_same s4) (Nat.le_refl _), hpj.mono (xh_same s4) (Nat.le_refl _), xh_some hR nRd2 (fun _ z => by cases z), L2.Paired.mapP hrows fun _ _ z => z.x (s4 _ _ hd5) (xh_same s4)⟩
    refine ⟨_, rfl, _, rfl, few (by show 2 ≤ 1000; decide), fun p np => ?_⟩
    have s5 : Same Hk (upd Hk p (.lst [vx, vp])) := same_new same_id np
    have X1 := X0.same s5
    refine ⟨.ref p, kP dx dp, rfl, kP_shw X1.x X1.p lx lp upd_same, few (by show 2 ≤ 1000; decide), fun T3 nT3 => ?_⟩
    generalize upd Hk p (.lst [vx, vp]) = Hl at X1 nT3 ⊢
    have s6 : Same Hl (upd Hl T3 (.tup [.ref R, .str (kP dx dp).shown])) := same_new same_id nT3
    refine ⟨T3, _, rfl, SqT.of upd_same, rfl, _, _, rfl, _, _, rfl, rfl, ?_⟩
    have X2 := X1.same s6
    generalize upd Hl T3 (.tup [.ref R, .str (kP dx dp).shown]) = Hm at X2 ⊢
    clear hrows hR s4 s3 ha0 tj tbj hxj hpj ti tbi hxi hpi s2 hx1 hp0 tg tbg X0 X1 hd5 nR
    have lus := Paired.length X2.rows
    have lpos := allV_pos 4 dx []
    have hne : us ≠ [] := fun z => by rw [z] at lus; simp at lus; omega
    -- all places
    refine ⟨_, rfl, vx, 4, dx, rfl, X2.x, by decide, by omega, fun Hn out s7 hout p2 np2 => ?_⟩
    have PF := paths_ft X2.x lx
    have PO := paths_ok X2.x lx
    have sn : Same Hn (upd Hn p2 (.lst out)) := same_new same_id np2
    have hout2 : Paired (IsP K (upd Hn p2 (.lst out))) out ((allV 4 dx []).map (·.1)) := L2.Paired.mapP hout fun _ _ z => by
      obtain ⟨a1, e1, e2⟩ := z
      exact ⟨a1, e1, SqT.of (sn _ _ e2)⟩
    refine ⟨.ref p2, _, rfl, shw_ft (.lst (SqL.of upd_same) (ps_sd hout2 fun ts hts => (PO ts hts).1)) PF (by decide) (by decide), ?_⟩
    have X3 := X2.same (s7.trans sn)
    generalize upd Hn p2 (.lst out) = Ho at X3 ⊢
    refine ⟨_, rfl, R, rfl, ⟨_, SqL.of X3.r⟩, fun D nD => ?_⟩
    refine lc_list (K := K) (a := R) (xs := us) (fun j H' => ∃ acc : List V, Same Ho H' ∧ H' D = some (.lst acc) ∧ Paired (IsP K Ho) acc (((allV 4 dx []).take j).map (·.1))) ⟨[], same_new same_id nD, upd_same, .nil⟩ ?_ ?_ ?_
    · rintro j H' _ ⟨acc, s8, _⟩
      exact SqL.of (s8 _ _ X3.r)
    · rintro j x H' hx ⟨acc, s8, hD, hacc⟩
      obtain ⟨r, hr, q0, a', u, rfl, h2, h3, h4⟩ := paired_get X3.rows j x hx
      have lac := Paired.length hacc
      rw [List.length_map, List.length_take] at lac
      refine ⟨rfl, _, rfl, q0, _, 0, _, rfl, rfl, SqT.of (s8 _ _ (xh_le _ _ h2)), at_0 _ _, acc, hD, small1000 (by omega), acc ++ [.ref a'], ?_, upd_same, ?_⟩
      · intro b' o ho
        rw [upd_ne (ne_of_none ho nD)]
        exact s8 _ _ ho
      · rw [List.take_add_one, hr, List.map_append]
        exact Paired.snoc hacc ⟨a', rfl, seqT_same xh_le h3⟩
    rintro Hpp ⟨acc, s8, hD, hacc⟩
    rw [lus, List.take_length] at hacc
    have X4 := X3.same s8
    refine ⟨.ref D, _, rfl, shw_ft (.lst (SqL.of hD) (ps_sd (L2.Paired.mapP hacc fun _ _ z => z.same s8) fun ts hts => (PO ts hts).1)) PF (by decide) (by decide), rfl, false, neF _, iteF ?_⟩
    refine nx_run ?_
    clear hacc hD s8 X3 hout hout2 s7 sn X2
    -- the picked rows
    generalize hN4 : N0 + 4200 = N4 at X4
    refine ⟨_, rfl, by decide, by decide, fun D nD => ?_⟩
    obtain ⟨m5, hd5⟩ := X4.tape.dk
    have nDd : D ≠ d := (ne_of_none hd5 nD).symm
    have nDl : l ≠ D := by
      obtain ⟨_, o, ho⟩ := X4.tape.at
      exact ne_of_none ho nD
    have nDR : R ≠ D := ne_of_none X4.r nD
    refine lc_range (lo := 0) (n := 4) (fun j H' => ∃ acc : List V, H' D = some (.lst acc) ∧ acc.length = j ∧ (∀ x ∈ acc, x ∈ us) ∧ But d Hpp H' ∧ Tape H' d l (N4 + j)) ⟨[], upd_same, rfl, (fun _ z => by cases z), Same.but (same_new same_id nD) d, (X4.tape.upd nDd.symm nDl).more (by omega)⟩ ?_ ?_
    · rintro j H' hj ⟨acc, hD, lacc, hin, b7, t7⟩
      have X5 := X4.but b7 t7
      refine ⟨rfl, _, rfl, _, rfl, d, l, R, N4 + j, us, rfl, t7, by omega, X5.r, hne, by omega, fun H'' v b8 t8 hv => ?_⟩
      refine ⟨acc, b8 _ _ nDd hD, small1000 (by omega), acc ++ [v], upd_same, by rw [List.length_append, lacc]; rfl, fun x hx => ?_, fun b o hb ho => ?_, ?_⟩
      · rcases List.mem_append.mp hx with z | z
        · exact hin x z
        · rw [List.mem_singleton.mp z]; exact hv
      · rw [upd_ne (ne_of_none ho nD)]
        exact b8 _ _ hb (b7 _ _ hb ho)
      · exact (t8.upd nDd.symm nDl).more (by omega)
    rintro Hq ⟨acc, hD, lacc, hin, b7, t7⟩
    have X5 := X4.but b7 t7
    refine ⟨_, rfl, 2, rfl, R, us, rfl, SqL.of X5.r, fun S nS => ?_⟩
    have s9 : Same Hq (upd Hq S (.lst (cutV us none (some 2)))) := same_new same_id nS
    have ecut : cutV us none (some 2) = us.take 2 := cut_take us 2
    refine ⟨D, S, acc, cutV us none (some 2), rfl, rfl, s9 _ _ hD, upd_same, few (by rw [ecut, List.length_take]; omega), fun Ls nLs => ?_⟩
    have s10 : Same Hq (upd (upd Hq S (.lst (cutV us none (some 2)))) Ls (.lst (acc ++ cutV us none (some 2)))) := same_new s9 nLs
    have hLs : (upd (upd Hq S (.lst (cutV us none (some 2)))) Ls (.lst (acc ++ cutV us none (some 2)))) Ls = some (.lst (acc ++ us.take 2)) := by rw [upd_same, ecut]
    have X6 := X5.same s10
    generalize upd (upd Hq S (.lst (cutV us none (some 2)))) Ls (.lst (acc ++ cutV us none (some 2))) = Hr at X6 hLs ⊢
    refine ⟨Ls, rfl, ⟨_, SqL.of hLs⟩, ?_⟩
    have hxs : ∀ x ∈ acc ++ us.take 2, x ∈ us := fun x hx => by
      rcases List.mem_append.mp hx with z | z
      · exact hin x z
      · exact List.mem_of_mem_take z
    have lxs : (acc ++ us.take 2).length ≤ 6 := by
      rw [List.length_append, List.length_take]
      omega
    generalize acc ++ us.take 2 = xs at hLs hxs lxs ⊢
    clear hD hin b7 t7 X5 s9 s10 ecut
    refine for_list (K := K) (a := Ls) (xs := xs) (fun k σ H' => ∃ w8 w9 w10 w11 w12 : Option V, σ = [some (.ref a), some (.ref d), some (.int (0 + (i : Int))), some (.ref Rk), some vx, some vp, some (.ref R), some (.str (kP dx dp).shown), w8, w9, w10, w11, w12, v13, v14, none, none] ∧ Fx K d l R T vx vp dx dp us (N4 + 4 + k) H' ∧ H' Ls = some (.lst xs)) ⟨v8, v9, v10, v11, v12, rfl, X6, hLs⟩ ?_ ?_ ?_
    · rintro k σ H' _ ⟨_, _, _, _, _, _, _, hL'⟩
      exact SqL.of hL'
    · rintro k v σ Hs hv ⟨w8, w9, w10, w11, w12, rfl, Y0, hL0⟩
      have hk : k < 6 := by
        have := (List.getElem?_eq_some_iff.mp hv).1
        omega
      obtain ⟨q0, a', u, is, cD, rfl, hq0, ha', hu', hsub⟩ := Y0.row (hxs _ (List.mem_of_getElem? hv))
      have hq0' := xh_le _ _ hq0
      have ha'0 := seqT_same xh_le ha'
      have hu0 : Da 4 Hs u cD := hu'.mono xh_le (Nat.le_refl _)
      have lis : is.length ≤ 900 := by
        have := (sub_wd Y0.hx.wd hsub).2
        omega
      have okp : OkP (pth is dx) := pth_ok Y0.hx lx hsub
      have wd := Y0.hx.wd
      have wdc := hu'.wd
      have wdp := Y0.hp.wd
      refine ⟨q0, _, rfl, SqT.of hq0', rfl, _, _, rfl, _, _, rfl, rfl, ?_⟩
      -- part_at, exchanged
      refine ⟨_, rfl, _, rfl, vx, .ref a', 4, dx, by decide, rfl, Y0.x, plA_ok ha'0 hsub lis fun H1 told s1 t1 => ?_⟩
      refine ⟨_, rfl, _, rfl, _, rfl, vx, a', vp, 4, 2, dx, dp, cD, is, [], by decide, rfl, (fun _ z => by cases z), (Y0.x.mono s1 (Nat.le_refl _)).mono delS_nil (Nat.le_refl _), (Y0.p.mono s1 (Nat.le_refl _)).mono delS_nil (Nat.le_refl _), hsub, seqT_same s1 ha'0, lis, fun H2 due s2 hdue => ?_⟩
      have s12 := s1.trans s2
      have htold : Da 4 H2 told (canon 4 cD) := (t1.mono new_self).da.mono s2 (Nat.le_refl _)
      -- alike
      refine ⟨_, rfl, _, rfl, told, u, 4, canon 4 cD, cD, by decide, by decide, rfl, htold, hu0.mono s12 (Nat.le_refl _), req_canon wdc, fun H3 s3 => ⟨_, rfl, iteF ?_⟩⟩
      have s13 := s12.trans s3
      refine ⟨_, rfl, _, rfl, _, rfl, vx, .ref a', vp, 4, 2, dx, dp, by decide, by decide, rfl, Y0.x.mono s13 (Nat.le_refl _), Y0.p.mono s13 (Nat.le_refl _), plA_ok (seqT_same s13 ha'0) hsub lis fun H4 r s4 hr => ?_⟩
      have s14 := s13.trans s4
      refine ⟨_, rfl, r, due, 6, _, _, by decide, by decide, rfl, hr, (hdue.mono delS_off (Nat.le_refl _)).mono (s3.trans s4) (Nat.le_refl _), req_put is (req_canon wdp) wd, fun H5 s5 => ⟨_, rfl, iteF (nx_run ?_)⟩⟩
      have s15 := s14.trans s5
      have h3 := seqT_same s15 ha'0
      -- without
      refine ⟨_, rfl, Nat.zero_le _, fun T4 nT4 => ?_⟩
      have s6' : Same H5 (upd H5 T4 (.tup [])) := same_new same_id nT4
      have hT4 : SqT K (upd H5 T4 (.tup [])) T4 [] := SqT.of upd_same
      have s16 := s15.trans s6'
      generalize upd H5 T4 (.tup []) = H6 at hT4 s6' s16 ⊢
      refine ⟨a', T4, _, rfl, rfl, seqT_same s16 ha'0, hT4, _, rfl, ?_⟩
      refine tand_any (fun H' => Same H6 H') (fun hb Q' kk => ?_) same_id fun H7 s7 => iteF (nx_run ?_)
      · have hne2 : is ≠ [] := fun z => by
          rw [z] at hb
          cases hb
        refine ⟨_, rfl, _, rfl, vx, .ref a', 4, dx, by decide, rfl, Y0.x.mono s16 (Nat.le_refl _), plA_ok (seqT_same s16 ha'0) hsub lis ⟨fun z => absurd z hne2, fun _ H7 r2 s7 hr2 => ?_⟩⟩
        have s17 := s16.trans s7
        refine ⟨_, rfl, _, rfl, vx, a', 4, dx, cD, is, [], by decide, rfl, (fun _ z => by cases z), (Y0.x.mono s17 (Nat.le_refl _)).mono delS_nil (Nat.le_refl _), hne2, hsub, seqT_same s17 ha'0, lis, fun H8 r3 s8 hr3 => ?_⟩
        exact ⟨r2, r3, 4, _, _, by decide, by decide, rfl, hr2.mono s8 (Nat.le_refl _), hr3.mono delS_off (Nat.le_refl _), req_less is wd, fun H9 s9 => ⟨_, rfl, kk H9 ((s7.trans s8).trans s9)⟩⟩
      have s17 := s16.trans s7
      have htold7 : Da 4 H7 told (canon 4 cD) := (t1.mono new_self).da.mono (((((s2.trans s3).trans s4).trans s5).trans s6').trans s7) (Nat.le_refl _)
      -- told.append
      obtain ⟨bL, kL1, kL2⟩ := ty_kL K (canon 4 cD)
      refine ⟨_, rfl, _, _, _, _, bL, rfl, .ty _, ty_of htold7, kL1, _, rfl, ?_⟩
      cases bL with
      | false =>
        refine iteF ?_
        have s18 := s17
        refine nx_run ?_
        have Y1 := Y0.same s18
        refine ⟨_, rfl, _, rfl, d, l, R, N4 + 4 + k, us, rfl, Y1.tape, by omega, Y1.r, hne, by omega, fun H9 v2 b9 t9 hv2 => ?_⟩
        have Y2 := Y1.but b9 t9
        obtain ⟨q2, a2, u2, is2, c2, rfl, hq2, ha2, hu2, hsub2⟩ := Y2.row hv2
        have nL9 : Ls ≠ d := fun z => by
          obtain ⟨m9, hd9⟩ := Y0.tape.dk
          rw [z, hd9] at hL0
          cases hL0
        refine ⟨q2, _, 0, _, rfl, rfl, SqT.of (xh_le _ _ hq2), at_0 _ _, ?_⟩
        have h39 : SqT K H9 a' (pth is dx) := seqT_same (((xh_same s18).trans (xh_but b9)).trans xh_le) ha'
        have h29 := seqT_same xh_le ha2
        have okp2 : OkP (pth is2 dx) := pth_ok Y2.hx lx hsub2
        refine ⟨_, rfl, _, rfl, a', a2, _, _, rfl, h39, h29, okp, okp2, fun H10 s10 => ⟨_, .bool _, rfl, shw_bl _, ?_⟩⟩
        refine ⟨_, rfl, _, rfl, a', _, rfl, .inr (seqT_same s10 h39), _, rfl, ?_⟩
        have oc : OkP ((pth is2 dx).take (pth is dx).length) := fun x hx => okp2 x (List.mem_of_mem_take hx)
        refine sl_begins (seqT_same s10 h29) fun H11 cc s11 hcc => ⟨_, rfl, .tuple _, .tuple _, .tup hcc (okp_dp oc), .tup (seqT_same (s10.trans s11) h39) (okp_dp okp), okp_shaped oc, okp_shaped okp, .bl _, .bool _, rfl, shw_bl _, rfl, false, neF _, iteF ?_⟩
        refine nx_run ?_
        exact ⟨_, _, _, _, _, rfl, ((Y2.same (s10.trans s11)).more (by omega)), s11 _ _ (s10 _ _ (b9 _ _ nL9 (s18 _ _ hL0)))⟩
      | true =>
        obtain ⟨dsT, eT⟩ := kL2 rfl
        have tda := t1.da
        rw [eT] at tda
        simp only [Da] at tda
        obtain ⟨ta, xsT, rfl, hta, l20, _⟩ := tda
        obtain ⟨nta, hta1⟩ := newH_some.mp hta
        have hta7 := (((((s2.trans s3).trans s4).trans s5).trans s6').trans s7) _ _ hta1
        refine iteT ⟨_, rfl, .inl ⟨rfl, _, SqL.of hta7⟩, ta, _, _, rfl, rfl, hta7, small1000 (by omega), ?_⟩
        have s18 : Same Hs (upd H7 ta (.lst (xsT ++ [.int 5]))) := fun b o hb => by
          rw [upd_ne (ne_of_none hb nta)]
          exact s17 _ _ hb
        generalize upd H7 ta (.lst (xsT ++ [.int 5])) = H8 at s18 ⊢
        refine nx_run ?_
        have Y1 := Y0.same s18
        refine ⟨_, rfl, _, rfl, d, l, R, N4 + 4 + k, us, rfl, Y1.tape, by omega, Y1.r, hne, by omega, fun H9 v2 b9 t9 hv2 => ?_⟩
        have Y2 := Y1.but b9 t9
        obtain ⟨q2, a2, u2, is2, c2, rfl, hq2, ha2, hu2, hsub2⟩ := Y2.row hv2
        have nL9 : Ls ≠ d := fun z => by
          obtain ⟨m9, hd9⟩ := Y0.tape.dk
          rw [z, hd9] at hL0
          cases hL0
        refine ⟨q2, _, 0, _, rfl, rfl, SqT.of (xh_le _ _ hq2), at_0 _ _, ?_⟩
        have h39 : SqT K H9 a' (pth is dx) := seqT_same (((xh_same s18).trans (xh_but b9)).trans xh_le) ha'
        have h29 := seqT_same xh_le ha2
        have okp2 : OkP (pth is2 dx) := pth_ok Y2.hx lx hsub2
        refine ⟨_, rfl, _, rfl, a', a2, _, _, rfl, h39, h29, okp, okp2, fun H10 s10 => ⟨_, .bool _, rfl, shw_bl _, ?_⟩⟩
        refine ⟨_, rfl, _, rfl, a', _, rfl, .inr (seqT_same s10 h39), _, rfl, ?_⟩
        have oc : OkP ((pth is2 dx).take (pth is dx).length) := fun x hx => okp2 x (List.mem_of_mem_take hx)
        refine sl_begins (seqT_same s10 h29) fun H11 cc s11 hcc => ⟨_, rfl, .tuple _, .tuple _, .tup hcc (okp_dp oc), .tup (seqT_same (s10.trans s11) h39) (okp_dp okp), okp_shaped oc, okp_shaped okp, .bl _, .bool _, rfl, shw_bl _, rfl, false, neF _, iteF ?_⟩
        refine nx_run ?_
        exact ⟨_, _, _, _, _, rfl, ((Y2.same (s10.trans s11)).more (by omega)), s11 _ _ (s10 _ _ (b9 _ _ nL9 (s18 _ _ hL0)))⟩
    · rintro σ Hs ⟨w8, w9, w10, w11, w12, rfl, Y0, _⟩
      -- the last part of the turn
      have hk6 : Fx K d l R T vx vp dx dp us (N4 + 10) Hs := Y0.more (by omega)
      refine ⟨_, rfl, _, rfl, d, l, R, N4 + 10, us, rfl, hk6.tape, by omega, hk6.r, hne, by omega, fun H1 v1 b1 t1 hv1 => ?_⟩
      have Z1 := hk6.but b1 t1
      obtain ⟨q1, a1, u1, is1, c1, rfl, hq1, ha1, hu1, hsub1⟩ := Z1.row hv1
      refine ⟨q1, _, 0, _, rfl, rfl, SqT.of (xh_le _ _ hq1), at_0 _ _, ?_⟩
      -- known
      refine ⟨_, rfl, R, rfl, ⟨_, SqL.of Z1.r⟩, fun Kn nKn => ?_⟩
      refine lc_list (K := K) (a := R) (xs := us) (fun j2 H' => Same H1 H' ∧ H' Kn = some (.lst ((((allV 4 dx []).take j2).map fun r => (rowP r.1).shown).map V.str))) ⟨same_new same_id nKn, upd_same⟩ ?_ ?_ ?_
      · rintro j2 H' _ ⟨s8, _⟩
        exact SqL.of (s8 _ _ Z1.r)
      · rintro j2 x H' hx2 ⟨s8, hD⟩
        obtain ⟨r2, hr2', q2, a2, u2, rfl, k2, k3, k4⟩ := paired_get Z1.rows j2 x hx2
        obtain ⟨o1, o2⟩ := PO r2.1 (List.mem_map_of_mem (List.mem_of_getElem? hr2'))
        refine ⟨rfl, _, rfl, q2, _, 0, _, rfl, rfl, SqT.of (s8 _ _ (xh_le _ _ k2)), at_0 _ _, .ref a2, rowP r2.1, rfl, shw_ft (.tup (seqT_same s8 (seqT_same xh_le k3)) (okp_sd o1)) (ft_tup (okp_ft o1)) (by decide) (by omega), _, hD, small1000 (by rw [List.length_map, List.length_map, List.length_take]; omega), ?_, ?_⟩
        · intro b' o ho
          rw [upd_ne (ne_of_none ho nKn)]
          exact s8 _ _ ho
        · rw [upd_same, List.take_add_one, hr2', List.map_append, List.map_append]
          rfl
      rintro H2 ⟨s8, hKn⟩
      rw [lus, List.take_length] at hKn
      have Z2 := Z1.same s8
      have ha2 : SqT K (XH H2 d) a1 (pth is1 dx) := seqT_same (xh_same s8) ha1
      have okp : OkP (pth is1 dx) := pth_ok Z1.hx lx hsub1
      have lps : (pth is1 dx).length ≤ 4 := by
        rw [pth_len hsub1]
        exact (sub_wd Z1.hx.wd hsub1).2
      generalize pth is1 dx = PS at ha2 okp lps
      generalize htx : ((allV 4 dx []).map fun r => (rowP r.1).shown) = texts at hKn
      clear hq1 ha1 hu1 hsub1 hk6 Y0 Z1
      -- the six values
      refine ⟨_, rfl, d, l, N4 + 10 + 1, rfl, Z2.tape, by omega, fun Ja o1 b3 t3 ho1 => ?_⟩
      have Z3 := Z2.but b3 t3
      have ha3 := seqT_same (xh_but b3) ha2
      refine ⟨_, rfl, _, rfl, d, l, N4 + 10 + 1 + 1, rfl, Z3.tape, by omega, fun Jb o2 b4 t4 ho2 => ⟨few (by show 1 ≤ 1000; decide), fun T1 nT1 => ?_⟩⟩
      have Z4 := Z3.but b4 t4
      have ha4 := seqT_same (xh_but b4) ha3
      obtain ⟨m8, hd8⟩ := Z4.tape.dk
      obtain ⟨x1, B1⟩ := bd_od (od_st _ _ _ b4 ho1)
      obtain ⟨x2, g1, g2, g3, g4, _⟩ := ho2
      have lnsT : ∀ z : V, PS.length + [z].length ≤ 1000 := fun z => by
        rw [List.length_singleton]
        omega
      have z1 : Same Jb (upd Jb T1 (.tup [o2])) := same_new same_id nT1
      refine catA_run (seqT_same (xh_le.trans z1) ha4) (SqT.of upd_same) (lnsT _) fun Jd c2 z2 hc2 => ?_
      have z12 := z1.trans z2
      have hdd := z12 _ _ hd8
      have had := seqT_same (xh_same z12) ha4
      obtain ⟨x2', B2⟩ := bd_cat hdd okp (by omega) hc2 (sdM (xh_same z12) g1) g2 g3 g4
      refine ⟨_, rfl, 1, rfl, few (by show 1 ≤ 1000; decide), fun T3 nT3 => ?_⟩
      have z3 : Same Jd (upd Jd T3 (.tup [.int (-1)])) := same_new same_id nT3
      refine catA_run (seqT_same (xh_le.trans z3) had) (SqT.of upd_same) (lnsT _) fun Je c3 z4 hc3 => ?_
      have zde := z3.trans z4
      have hae := seqT_same (xh_same zde) had
      obtain ⟨x3, B3⟩ := bd_cat (zde _ _ hdd) okp (by omega) hc3 (.int (-1)) (by decide +kernel) (by decide) (by decide +kernel)
      refine ⟨_, rfl, few (by show 1 ≤ 1000; decide), fun T4 nT4 => ?_⟩
      have z5 : Same Je (upd Je T4 (.tup [.bl true])) := same_new same_id nT4
      refine catA_run (seqT_same (xh_le.trans z5) hae) (SqT.of upd_same) (lnsT _) fun Jf c4 z6 hc4 => ?_
      have zef := z5.trans z6
      have haf := seqT_same (xh_same zef) hae
      obtain ⟨x4, B4⟩ := bd_cat (zef _ _ (zde _ _ hdd)) okp (by omega) hc4 (.bl true) (by decide +kernel) (by decide) (by decide +kernel)
      refine ⟨_, rfl, a1, _, rfl, .inr (seqT_same xh_le haf), fun D5 nD5 => ?_⟩
      have z7 : Same Jf (upd Jf D5 (.lst PS)) := same_new same_id nD5
      obtain ⟨x5, B5⟩ := bd_list (K := K) (z7 _ _ (zef _ _ (zde _ _ hdd))) okp (by omega) (upd_same : (upd Jf D5 (.lst PS)) D5 = _)
      generalize upd Jf D5 (.lst PS) = Jg at z7 B5 ⊢
      have hag := seqT_same (xh_same z7) haf
      refine ⟨_, rfl, few (by show 1 ≤ 1000; decide), fun T6 nT6 => ?_⟩
      have z8 : Same Jg (upd Jg T6 (.tup [.str "zzz"])) := same_new same_id nT6
      refine catA_run (seqT_same (xh_le.trans z8) hag) (SqT.of upd_same) (lnsT _) fun Jh c6 z9 hc6 => ?_
      have zgh := z8.trans z9
      obtain ⟨x6, B6⟩ := bd_cat (zgh _ _ (z7 _ _ (zef _ _ (zde _ _ hdd)))) okp (by omega) hc6 (.str "zzz") (by decide +kernel) (by decide) (by decide +kernel)
      refine ⟨few (by show 6 ≤ 1000; decide), fun B nB => ?_⟩
      have z10 : Same Jh (upd Jh B (.lst [o1, .ref c2, .ref c3, .ref c4, .ref D5, .ref c6])) := same_new same_id nB
      have hB : (upd Jh B (.lst [o1, .ref c2, .ref c3, .ref c4, .ref D5, .ref c6])) B = some (.lst [o1, .ref c2, .ref c3, .ref c4, .ref D5, .ref c6]) := upd_same
      have zg := zgh.trans z10
      have zf := z7.trans zg
      have ze := zef.trans zf
      have zd := zde.trans ze
      have zb := z12.trans zd
      have hbads : ∀ x ∈ [o1, .ref c2, .ref c3, .ref c4, .ref D5, .ref c6], ∃ t, Bd K d (upd Jh B (.lst [o1, .ref c2, .ref c3, .ref c4, .ref D5, .ref c6])) x t := by
        intro x hx
        simp only [List.mem_cons, List.not_mem_nil, or_false] at hx
        rcases hx with rfl | rfl | rfl | rfl | rfl | rfl
        · exact ⟨_, B1.same zb⟩
        · exact ⟨_, B2.same zd⟩
        · exact ⟨_, B3.same ze⟩
        · exact ⟨_, B4.same zf⟩
        · exact ⟨_, B5.same zg⟩
        · exact ⟨_, B6.same z10⟩
      have Z5 := Z4.same zb
      have nKd : Kn ≠ d := fun z => by
        obtain ⟨m9, hd9⟩ := Z2.tape.dk
        rw [z, hd9] at hKn
        cases hKn
      have hKn5 := zb _ _ (b4 _ _ nKd (b3 _ _ nKd hKn))
      generalize upd Jh B (.lst [o1, .ref c2, .ref c3, .ref c4, .ref D5, .ref c6]) = Ji at hB hbads Z5 hKn5 ⊢
      generalize [o1, V.ref c2, .ref c3, .ref c4, .ref D5, .ref c6] = bads at hB hbads ⊢
      refine ⟨B, rfl, ⟨_, SqL.of hB⟩, ?_⟩
      refine for_list (K := K) (a := B) (xs := bads) (fun k σ H' => ∃ x14 : Option V, σ = [some (.ref a), some (.ref d), some (.int (0 + (i : Int))), some (.ref Rk), some vx, some vp, some (.ref R), some (.str (kP dx dp).shown), some (.ref a1), w9, w10, w11, w12, some (.ref Kn), x14, none, none] ∧ Fx K d l R T vx vp dx dp us (N4 + 10 + 1 + 1 + 1) H' ∧ (∀ x ∈ bads, ∃ t, Bd K d H' x t) ∧ H' B = some (.lst bads) ∧ H' Kn = some (.lst (texts.map V.str)))
        ⟨v14, rfl, Z5, hbads, hB, hKn5⟩ ?_ ?_ ?_
      · rintro k σ H' _ ⟨x14, _, _, _, hB', _⟩
        exact SqL.of hB'
      · rintro k v σ Ka hv' ⟨x14, rfl, W0, hb0, hB0, hK0⟩
        obtain ⟨t, Bv⟩ := hb0 v (List.mem_of_getElem? hv')
        obtain ⟨nm, hty⟩ := sd_ty Bv.shw.1
        refine ⟨_, rfl, v, t, rfl, Bv.shw, _, rfl, Kn, _, rfl, .inl (SqL.of hK0), rfl, flat_strs _, _, rfl, ?_⟩
        by_cases hin : t.shown ∈ texts
        · have hiv : inV (.str t.shown) (texts.map V.str) = true := by rw [inV_strs]; exact decide_eq_true hin
          rw [hiv]
          exact iteF (iteF (nx_run ⟨_, rfl, W0, hb0, hB0, hK0⟩))
        · have hiv : inV (.str t.shown) (texts.map V.str) = false := by rw [inV_strs]; exact decide_eq_false hin
          rw [hiv]
          have hno : t.shown ∉ (allV 4 dx []).map fun r => (rowP r.1).shown := by rw [htx]; exact hin
          refine iteT ⟨_, rfl, _, _, _, _, _, rfl, .ty _, hty.tyx, ty_str hty, _, rfl, ?_⟩
          by_cases hst : nm = "str"
          · rw [decide_eq_true hst]
            exact iteF (nx_run ⟨_, rfl, W0, hb0, hB0, hK0⟩)
          · rw [decide_eq_false hst]
            refine iteT ?_
            refine ⟨W0.tabs, fun Kc ex1 tb1 => ?_⟩
            have W1 := W0.ext ex1 tb1
            have Bv1 := Bv.ext ex1
            refine ⟨_, rfl, _, rfl, vx, v, 4, dx, by decide, rfl, W1.x, plA_bad W1.x lx Bv1 hno fun Kd dd s9 hdd => ⟨dd, v, t, rfl, rfl, hdd, (Bv1.same s9).shw, ?_⟩⟩
            have W2 := W1.same s9
            have Bv2 := Bv1.same s9
            refine ⟨_, rfl, v, t, rfl, Bv2.shw, rfl, false, neF _, iteF ?_⟩
            refine ⟨W2.tabs, fun Ke ex3 tb3 => ?_⟩
            have W3 := W2.ext ex3 tb3
            have Bv3 := Bv2.ext ex3
            refine ⟨_, rfl, _, rfl, vx, v, .int 1, 4, 0, dx, .int 1, by decide, by decide, rfl, W3.x, by simp [Da], plA_bad W3.x lx Bv3 hno fun Kf dd4 s11 hdd4 => ⟨dd4, v, t, rfl, rfl, hdd4, (Bv3.same s11).shw, ?_⟩⟩
            have W4 := W3.same s11
            have Bv4 := Bv3.same s11
            refine ⟨_, rfl, v, t, rfl, Bv4.shw, rfl, false, neF _, iteF (nx_run ?_)⟩
            refine ⟨W4.tabs, fun Kg ex5 tb5 => ?_⟩
            have W5 := W4.ext ex5 tb5
            have Bv5 := Bv4.ext ex5
            refine ⟨_, rfl, _, rfl, vx, v, 4, dx, by decide, rfl, W5.x, plA_bad W5.x lx Bv5 hno fun Kh dd6 s13 hdd6 => ⟨dd6, v, t, rfl, rfl, hdd6, (Bv5.same s13).shw, ?_⟩⟩
            have W6 := W5.same s13
            have Bv6 := Bv5.same s13
            refine ⟨_, rfl, v, t, rfl, Bv6.shw, rfl, false, neF _, iteF (nx_run ?_)⟩
            have exA : LamX.ExtN Ka Kh := fun b o hb nb => s13 _ _ (ex5 _ _ (s11 _ _ (ex3 _ _ (s9 _ _ (ex1 _ _ hb nb)) nb)) nb)
            exact ⟨_, rfl, W6, fun x hx => (hb0 x hx).imp fun _ z => z.ext exA, exA _ _ hB0 (fun _ z => by cases z), exA _ _ hK0 (fun _ z => by cases z)⟩
      · rintro σ Ka ⟨x14, rfl, W0, hb0, hB0, hK0⟩
        refine ⟨W0.tabs, fun Kc ex1 tb1 => ?_⟩
        have W1 := W0.ext ex1 tb1
        refine ⟨_, rfl, Nat.zero_le _, fun a0 na0 => ?_⟩
        have s0 : Same Kc (upd Kc a0 (.tup [])) := same_new same_id na0
        have W2 := W1.same s0
        have ha0 : SqT K (upd Kc a0 (.tup [])) a0 (pth [] dx) := SqT.of upd_same
        generalize upd Kc a0 (.tup []) = Kd at W2 ha0 ⊢
        have shE : ∀ {H : Hp}, SqT K H a0 (pth [] dx) → Shw K H (.ref a0) (.tuple []) := fun z => ⟨.tup z .nil, by decide +kernel, by decide +kernel, Nat.le_trans (by decide +kernel : (PyData.shown (.tuple [])).length ≤ 5) (by decide)⟩
        refine ⟨vx, .ref a0, 4, dx, by decide, rfl, W2.x, plA_ok (is := []) ha0 rfl (by decide) ⟨fun _ Ke dd s1 hdd => ⟨dd, .ref a0, .tuple [], rfl, rfl, hdd, shE (seqT_same s1 ha0), ?_⟩, fun z => absurd rfl z⟩⟩
        have W3 := W2.same s1
        have eE : (PyData.tuple []).shown = "()" := by decide +kernel
        rw [eE]
        refine ⟨rfl, false, neF _, iteF ?_⟩
        refine ⟨_, rfl, _, rfl, few (by show 2 ≤ 1000; decide), fun p2 np2 => ?_⟩
        have W4 := W3.same (same_new same_id np2 : Same Ke (upd Ke p2 (.lst [vx, vp])))
        refine ⟨.ref p2, kP dx dp, rfl, kP_shw W4.x W4.p lx lp upd_same, _, rfl, rfl, false, neF _, iteF (nx_run ?_)⟩
        exact ⟨_, _, _, _, _, _, _, _, _, _, _, _, _, rfl, W4.tape.more (by omega), W4.tabs⟩
  · rintro σ Ha ⟨v2, v3, v4, v5, v6, v7, v8, v9, v10, v11, v12, v13, v14, rfl, ta, tba⟩
    exact q Ha
end
end Toy


namespace Toy
open PySem PySem.Spec PyProof.Rows L2
/-! ### the head: what the top has written, as one answer -/
def freeB (K : PySem.W.Frag) (c : Addr) (f : Str) : Bool := decide (PySem.W.takerIn K c f = some none) && He.eqO (PySem.W.findIn K (.ref c) f) (some none)
def btL : List Value := [.type "LookupError", .type "Exception", .type "BaseException", .type "object"]
def ownB (K : PySem.W.Frag) (c fi : Addr) : Bool :=
  PySem.W.excInitIn K c btL "LookupError.__new__" && (PySem.W.excOver K c btL && (PySem.W.hasDictIn K c && (He.eqO (PySem.W.findIn K (.ref c) "__setattr__") (some (some (.builtin "object.__setattr__"))) &&
  (He.eqO (PySem.W.findIn K (.ref c) "__getattribute__") (some (some (.builtin "BaseException.__getattribute__"))) && (He.eqO (PySem.W.findIn K (.ref c) "__getattr__") (some none) && (decide (PySem.W.subIn K (.ref c) (.type "BaseException") = some true) &&
  (PySem.W.keepIn K (.ref c) && (He.eqO (PySem.W.findIn K (.ref c) "__init__") (some (some (.ref fi))) && (decide (PySem.W.typeIn K (.ref fi) = some (.type "function")) && (He.eqO (PySem.W.findIn K (.ref c) "__class__") (some (some (.builtin "object.__class__"))) &&
  decide (PySem.W.mroIn K c (.type "object") = some true)))))))))))
def CA (K : PySem.W.Frag) : Addr := He.ga K "NoPart"
def clsB (K : PySem.W.Frag) : Bool := ownB K (CA K) (He.ma K (CA K) "__init__") && (freeB K (CA K) "place" && (decide (PySem.W.kitOne K (.ref (CA K)) (.type "LookupError") = some true) && (decide (PySem.W.exmOne K (.ref (CA K)) (.ref (CA K)) = some true) && (decide (PySem.W.typeIn K (.ref (CA K)) = some (.type "type")) &&
  (decide (PySem.W.specialIn K (.builtin "object.__class__") "__get__" = some (some (.builtin "getset_descriptor.__get__"))) && decide (PySem.W.takesIn K (.builtin "object.__class__") = some true))))))
def sysB (K : PySem.W.Frag) : Bool := match K.lookup sysModules with
  | some o => o.cls == .type "dict"
  | none => false
def exB (K : PySem.W.Frag) : Bool := clsB K && sysB K
def ts : List He.Tab := []
def tf : List He.Defn := [("law", none)]
def iOf (x q : Str) (st : Stmt) : He.DefD := ⟨(x, some "__init__"), "__init__", q, defArgs st, defBody st, defScope st, [], []⟩
def hdOf (x : Str) (st : Stmt) : He.DefD := ⟨(x, none), x, x, defArgs st, defBody st, defScope st, [], []⟩
def fn : List He.DefD := [hdOf "is_integer" sIsInt', hdOf "steps_into" sSteps, hdOf "copied" sCopied, hdOf "places" sPlaces, hdOf "part_at" sPartAt, hdOf "with_part" sWith, hdOf "without" sWithout, hdOf "found_part" sFound, hdOf "has_step" sHas, hdOf "begins" sBegins, hdOf "_law_begin" sBegin, hdOf "_law_draw" sDraw, hdOf "_law_pick" sPick, hdOf "_law_shuffled" sShuf, hdOf "_law_odd" sOdd, hdOf "_law_leaf" sLeaf, hdOf "_law_datum" sDatum, hdOf "_law_sort" sLSort, hdOf "_law_keys" sLKeys, hdOf "_law_rank" sRank, hdOf "_law_spots" sSpots, hdOf "_law_exchanged" sEx, hdOf "_law_less" sLe, hdOf "_law_lost" sLost, hdOf "_law_alike" sAlike, hdOf "law" sLaw, iOf "NoPart" "NoPart.__init__" (inClass (top 1) 0)]
def fa : List He.Fa := [.glo "is_integer", .glo "steps_into", .glo "copied", .glo "places", .glo "part_at", .glo "with_part", .glo "without", .glo "found_part", .glo "has_step", .glo "begins", .glo "_law_begin", .glo "_law_draw", .glo "_law_pick", .glo "_law_shuffled", .glo "_law_odd", .glo "_law_leaf", .glo "_law_datum", .glo "_law_sort", .glo "_law_keys", .glo "_law_rank", .glo "_law_spots", .glo "_law_exchanged", .glo "_law_less", .glo "_law_lost", .glo "_law_alike", .glo "law", .free "len", .free "int", .free "bool", .free "str", .free "list", .free "dict", .free "range", .free "min", .free "repr", .free "isinstance", .free "tuple", .free "zip", .free "sum", .free "abs", .free "sorted", .free "reversed", .free "LookupError", .glo "NoPart"]
abbrev R : PySem.W.OpenRow := PySem.W.OpenLaw.row PySem.Challenge.rw_sieveways_k04_places_of_data
/-! sys.modules beside what the module's names reach -/
def frS (g : Addr → Option Obj) : PySem.W.Frag := He.frT g (sysModules :: He.asD g 5)
def obK (g : Addr → Option Obj) : He.AlX := (He.obsT fa fn ts (frS g), exB (frS g) && He.tabsB g tf (frS g))
theorem sayK {w : World} {h : Heap} (e : obK h.get? = He.valX fn ts w) : He.SaysX fa fn ts tf exB w h (frS h.get?) := by
  have e1 : He.obsT fa fn ts (frS h.get?) = He.valT fn ts w := (Prod.mk.inj e).1
  obtain ⟨e2, e3⟩ := He.ba (show (exB (frS h.get?) && He.tabsB h.get? tf (frS h.get?)) = true from (Prod.mk.inj e).2)
  have hall : ∀ p ∈ tf, PySem.W.codeHdIn (frS h.get?) (He.cT (frS h.get?) p).1 (He.cT (frS h.get?) p).2 = true ∧ ∃ o, h.get? (He.cT (frS h.get?) p).2 = some o ∧ He.emptyTab o = true := by
    intro p hp
    obtain ⟨a1, a2⟩ := He.ba (List.all_eq_true.mp e3 p hp)
    refine ⟨a1, ?_⟩
    revert a2
    cases h.get? (He.cT (frS h.get?) p).2 with
    | none => exact fun z => by cases z
    | some o => exact fun z => ⟨o, rfl, z⟩
  refine ⟨e1, e2, fun p hp => (hall p hp).1, fun p hp => ?_, fun p hp => ?_⟩
  · obtain ⟨_, o, z1, z2⟩ := hall p hp
    exact He.frT_none z1 z2
  · obtain ⟨_, o, z1, z2⟩ := hall p hp
    rw [z1, He.emptyTab_eq z2]
def hk : PySem.W.Hook where
  α := He.AlX
  obs := fun s => obK s.heap.get?
  val := fun w => He.valX fn ts w
  says := (He.hookX 5 fa fn ts tf exB).says
  of := fun _ _ e => ⟨_, He.frT_in, sayK e⟩
  keeps := (He.hookX 5 fa fn ts tf exB).keeps
def ob (s : PySem.W.SharedT) : He.AlX := obK (HandSHeadRun.getT s)
theorem ob_eq (s : PySem.W.SharedT) : ob s = hk.obs s.abs := by
  have e : HandSHeadRun.getT s = s.abs.heap.get? := funext (HandSHeadRun.getT_eq s)
  show obK (HandSHeadRun.getT s) = obK s.abs.heap.get?
  rw [e]
def looseN0 : List Str := ["is_integer", "steps_into", "copied", "places", "part_at", "with_part", "without", "found_part", "has_step", "begins", "_law_begin", "_law_draw", "_law_pick", "_law_shuffled", "_law_odd", "_law_leaf", "_law_datum", "_law_sort"]
def looseN1 : List Str := ["_law_keys", "_law_rank", "_law_spots", "_law_exchanged", "_law_less", "_law_lost", "_law_alike", "NoPart"]
def looseN : List Str := looseN0 ++ looseN1
theorem run (w : World) : HandSHeadRun.RunEq R (PySem.W.view R.prog [30]) hk ob 9000 looseN w := by
  intro os
  kernel_rfl
end Toy


namespace Toy
open PySem PySem.Spec PyProof.Rows L2 PySem.KX
/-! ### the facts, read off the head's answer -/
theorem fun_of {K : PySem.W.Frag} {x q : Str} {st : Stmt} {f : Addr} {fd : FuncData} (F : FunD K x q (defArgs st) (defBody st) (defScope st) [] [] f fd) : Fun K x q st f fd := by
  obtain ⟨oc, od, dV, kV, doc, pm, an, cdv, ct, osl, rfl, lk, hcd, hD, _⟩ := F.ex
  rcases hD with ⟨_, rfl⟩ | ⟨e, _⟩
  · exact ⟨⟨oc, od, kV, doc, pm, an, cdv, ct, osl, rfl, lk, hcd⟩, F.kp⟩
  · exact absurd rfl e
theorem and2 {a b : Bool} (h : (a && b) = true) : a = true ∧ b = true := Bool.and_eq_true_iff.mp h
section
variable {K : PySem.W.Frag} (c : clsB K = true)
include c
theorem ex_own : Own K (CA K) (He.ma K (CA K) "__init__") "LookupError" "LookupError.__new__" "LookupError.__init__" btL := by
  obtain ⟨o, h⟩ := and2 c
  obtain ⟨_, h⟩ := and2 h
  obtain ⟨_, h⟩ := and2 h
  obtain ⟨_, h⟩ := and2 h
  obtain ⟨_, h⟩ := and2 h
  obtain ⟨s1, s2⟩ := and2 h
  obtain ⟨o1, o⟩ := and2 o
  obtain ⟨o2, o⟩ := and2 o
  obtain ⟨o3, o⟩ := and2 o
  obtain ⟨o4, o⟩ := and2 o
  obtain ⟨o5, o⟩ := and2 o
  obtain ⟨o6, o⟩ := and2 o
  obtain ⟨o7, o⟩ := and2 o
  obtain ⟨o8, o⟩ := and2 o
  obtain ⟨o9, o⟩ := and2 o
  obtain ⟨o10, o⟩ := and2 o
  obtain ⟨o11, o12⟩ := and2 o
  exact ⟨PySem.F.excBase_LookupError, PySem.F.store_LookupError, o1, o2, o3, He.eqO_ok o4, He.eqO_ok o5, He.eqO_ok o6, of_decide_eq_true o7, o8, He.eqO_ok o9, of_decide_eq_true o10, He.eqO_ok o11, of_decide_eq_true s1, of_decide_eq_true s2, of_decide_eq_true o12⟩
theorem ex_free : Free K (CA K) "place" := by
  obtain ⟨_, h⟩ := and2 c
  obtain ⟨h, _⟩ := and2 h
  obtain ⟨a, b⟩ := and2 h
  exact ⟨of_decide_eq_true a, He.eqO_ok b⟩
theorem ex_clsN : ClsN K (CA K) := by
  have o := ex_own c
  obtain ⟨_, h⟩ := and2 c
  obtain ⟨_, h⟩ := and2 h
  obtain ⟨h1, h⟩ := and2 h
  obtain ⟨h2, _⟩ := and2 h
  exact ⟨⟨o.ga, o.gg, o.exc, o.dct, o.cA, o.cN, o.cT, o.cM⟩, ⟨o.ga, o.gg, o.exc, o.dct⟩, (ex_free c).n, of_decide_eq_true h2, of_decide_eq_true h1⟩
theorem ex_clR : ClR K (CA K) := by
  have o := ex_own c
  obtain ⟨_, h⟩ := and2 c
  obtain ⟨_, h⟩ := and2 h
  obtain ⟨_, h⟩ := and2 h
  obtain ⟨_, h⟩ := and2 h
  obtain ⟨h1, _⟩ := and2 h
  exact ⟨o.exc, of_decide_eq_true h1⟩
end
/-- the maker of a class of one field -/
theorem mk_cl1 {K : PySem.W.Frag} (c : clsB K = true) {qual : Str} {fd : FuncData} {a1 a2 q1 q2 q3 q4 : Pos}
    (F : FunD K "__init__" qual (argsOf [arg1 "self" a1, arg1 "place" a2]) [setS "place" q1 q2 q3 q4] (scOf ["self", "place"]) [] [] (He.ma K (CA K) "__init__") fd)
    (b1 : ∀ (kV doc pm : Value) (an : Option Addr) (cdv ct self v : Value), bindArgs (PySem.W.fnOf "__init__" qual (argsOf [arg1 "self" a1, arg1 "place" a2]) [setS "place" q1 q2 q3 q4] (scOf ["self", "place"]) .none kV doc pm an cdv ct) ⟨[self, v], []⟩ = pure [(("self" : Str), self), ("place", v)])
    (b2 : ∀ (kV doc pm : Value) (an : Option Addr) (cdv ct self v : Value), bindArgs (PySem.W.fnOf "__init__" qual (argsOf [arg1 "self" a1, arg1 "place" a2]) [setS "place" q1 q2 q3 q4] (scOf ["self", "place"]) .none kV doc pm an cdv ct) ⟨[self], [("place", v)]⟩ = pure [(("self" : Str), self), ("place", v)]) : Cl1 K (CA K) "place" := by
  have O := ex_own c
  refine ⟨⟨_, _, _, _, _, qual, fd, a1, a2, q1, q2, q3, q4, O, F, ?_⟩, ex_free c, by decide +kernel, by decide +kernel, O.kp⟩
  obtain ⟨oc, od, dV, kV, doc, pm, an, cdv, ct, osl, rfl, lk, hcd, hD, _⟩ := F.ex
  rcases hD with ⟨_, rfl⟩ | ⟨e, _⟩
  · exact ⟨fun s self v => .of_eq (b1 kV doc pm an cdv ct (.ref self) v), fun s self v => .of_eq (b2 kV doc pm an cdv ct (.ref self) v)⟩
  · exact absurd rfl e
theorem facts {P : Program} {w : World} {K : PySem.W.Frag} {h : Heap} {mg : Str → Option Value} {f : Addr} (X : K.In h) (G : h.Ns mainGlobals mg) (hfa : mg ("law" : Str) = some (.ref f)) (S : He.SaysX fa fn ts tf exB w h K) :
    ∃ (fd : FuncData) (c T : Addr), FunD K "law" "law" (defArgs sLaw) (defBody sLaw) (defScope sLaw) [] [] f fd ∧ fd.code = .ref c ∧ (∀ (s : Shared) (v : Value), BindsTo s fd ⟨[v], []⟩ [("_law_script", v)]) ∧ h.get? T = some { cls := .none, data := .fields #[] } ∧ K.lookup T = none ∧ PySem.W.CodeHd h c T ∧
      ∀ base : Heap, K.In base → base.Ns mainGlobals mg → LamX.TabB base mg c T → BodyT P w K mg base 20 NLw "law" (defScope sLaw) (defBody sLaw) f c (spLawT K T) := by
  obtain ⟨dIi, FIi⟩ := S.t.d.def_ 0 (d := hdOf "is_integer" sIsInt') rfl
  have mIi := He.glo_ok X G (S.t.d.fact 0 (f := .glo "is_integer") rfl)
  obtain ⟨dSi, FSi⟩ := S.t.d.def_ 1 (d := hdOf "steps_into" sSteps) rfl
  have mSi := He.glo_ok X G (S.t.d.fact 1 (f := .glo "steps_into") rfl)
  obtain ⟨dCo, FCo⟩ := S.t.d.def_ 2 (d := hdOf "copied" sCopied) rfl
  have mCo := He.glo_ok X G (S.t.d.fact 2 (f := .glo "copied") rfl)
  obtain ⟨dPl, FPl⟩ := S.t.d.def_ 3 (d := hdOf "places" sPlaces) rfl
  have mPl := He.glo_ok X G (S.t.d.fact 3 (f := .glo "places") rfl)
  obtain ⟨dPA, FPA⟩ := S.t.d.def_ 4 (d := hdOf "part_at" sPartAt) rfl
  have mPA := He.glo_ok X G (S.t.d.fact 4 (f := .glo "part_at") rfl)
  obtain ⟨dWi, FWi⟩ := S.t.d.def_ 5 (d := hdOf "with_part" sWith) rfl
  have mWi := He.glo_ok X G (S.t.d.fact 5 (f := .glo "with_part") rfl)
  obtain ⟨dWo, FWo⟩ := S.t.d.def_ 6 (d := hdOf "without" sWithout) rfl
  have mWo := He.glo_ok X G (S.t.d.fact 6 (f := .glo "without") rfl)
  obtain ⟨dFo, FFo⟩ := S.t.d.def_ 7 (d := hdOf "found_part" sFound) rfl
  have mFo := He.glo_ok X G (S.t.d.fact 7 (f := .glo "found_part") rfl)
  obtain ⟨dHa, FHa⟩ := S.t.d.def_ 8 (d := hdOf "has_step" sHas) rfl
  have mHa := He.glo_ok X G (S.t.d.fact 8 (f := .glo "has_step") rfl)
  obtain ⟨dBg, FBg⟩ := S.t.d.def_ 9 (d := hdOf "begins" sBegins) rfl
  have mBg := He.glo_ok X G (S.t.d.fact 9 (f := .glo "begins") rfl)
  obtain ⟨dB, FB⟩ := S.t.d.def_ 10 (d := hdOf "_law_begin" sBegin) rfl
  have mB := He.glo_ok X G (S.t.d.fact 10 (f := .glo "_law_begin") rfl)
  obtain ⟨dD, FD⟩ := S.t.d.def_ 11 (d := hdOf "_law_draw" sDraw) rfl
  have mD := He.glo_ok X G (S.t.d.fact 11 (f := .glo "_law_draw") rfl)
  obtain ⟨dPi, FPi⟩ := S.t.d.def_ 12 (d := hdOf "_law_pick" sPick) rfl
  have mPi := He.glo_ok X G (S.t.d.fact 12 (f := .glo "_law_pick") rfl)
  obtain ⟨dSh, FSh⟩ := S.t.d.def_ 13 (d := hdOf "_law_shuffled" sShuf) rfl
  have mSh := He.glo_ok X G (S.t.d.fact 13 (f := .glo "_law_shuffled") rfl)
  obtain ⟨dOd, FOd⟩ := S.t.d.def_ 14 (d := hdOf "_law_odd" sOdd) rfl
  have mOd := He.glo_ok X G (S.t.d.fact 14 (f := .glo "_law_odd") rfl)
  obtain ⟨dLf, FLf⟩ := S.t.d.def_ 15 (d := hdOf "_law_leaf" sLeaf) rfl
  have mLf := He.glo_ok X G (S.t.d.fact 15 (f := .glo "_law_leaf") rfl)
  obtain ⟨dDt, FDt⟩ := S.t.d.def_ 16 (d := hdOf "_law_datum" sDatum) rfl
  have mDt := He.glo_ok X G (S.t.d.fact 16 (f := .glo "_law_datum") rfl)
  obtain ⟨dLs, FLs⟩ := S.t.d.def_ 17 (d := hdOf "_law_sort" sLSort) rfl
  have mLs := He.glo_ok X G (S.t.d.fact 17 (f := .glo "_law_sort") rfl)
  obtain ⟨dLk, FLk⟩ := S.t.d.def_ 18 (d := hdOf "_law_keys" sLKeys) rfl
  have mLk := He.glo_ok X G (S.t.d.fact 18 (f := .glo "_law_keys") rfl)
  obtain ⟨dRa, FRa⟩ := S.t.d.def_ 19 (d := hdOf "_law_rank" sRank) rfl
  have mRa := He.glo_ok X G (S.t.d.fact 19 (f := .glo "_law_rank") rfl)
  obtain ⟨dSp, FSp⟩ := S.t.d.def_ 20 (d := hdOf "_law_spots" sSpots) rfl
  have mSp := He.glo_ok X G (S.t.d.fact 20 (f := .glo "_law_spots") rfl)
  obtain ⟨dEx, FEx⟩ := S.t.d.def_ 21 (d := hdOf "_law_exchanged" sEx) rfl
  have mEx := He.glo_ok X G (S.t.d.fact 21 (f := .glo "_law_exchanged") rfl)
  obtain ⟨dLe, FLe⟩ := S.t.d.def_ 22 (d := hdOf "_law_less" sLe) rfl
  have mLe := He.glo_ok X G (S.t.d.fact 22 (f := .glo "_law_less") rfl)
  obtain ⟨dLo, FLo⟩ := S.t.d.def_ 23 (d := hdOf "_law_lost" sLost) rfl
  have mLo := He.glo_ok X G (S.t.d.fact 23 (f := .glo "_law_lost") rfl)
  obtain ⟨dAl, FAl⟩ := S.t.d.def_ 24 (d := hdOf "_law_alike" sAlike) rfl
  have mAl := He.glo_ok X G (S.t.d.fact 24 (f := .glo "_law_alike") rfl)
  obtain ⟨dL, FL⟩ := S.t.d.def_ 25 (d := hdOf "law" sLaw) rfl
  have mL := He.glo_ok X G (S.t.d.fact 25 (f := .glo "law") rfl)
  obtain ⟨dI, FI⟩ := S.t.d.def_ 26 (d := iOf "NoPart" "NoPart.__init__" (inClass (top 1) 0)) rfl
  have z0 := He.free_ok X G (S.t.d.fact 26 (f := .free "len") rfl)
  have z1 := He.free_ok X G (S.t.d.fact 27 (f := .free "int") rfl)
  have z2 := He.free_ok X G (S.t.d.fact 28 (f := .free "bool") rfl)
  have z3 := He.free_ok X G (S.t.d.fact 29 (f := .free "str") rfl)
  have z4 := He.free_ok X G (S.t.d.fact 30 (f := .free "list") rfl)
  have z5 := He.free_ok X G (S.t.d.fact 31 (f := .free "dict") rfl)
  have z6 := He.free_ok X G (S.t.d.fact 32 (f := .free "range") rfl)
  have z7 := He.free_ok X G (S.t.d.fact 33 (f := .free "min") rfl)
  have z8 := He.free_ok X G (S.t.d.fact 34 (f := .free "repr") rfl)
  have z9 := He.free_ok X G (S.t.d.fact 35 (f := .free "isinstance") rfl)
  have z10 := He.free_ok X G (S.t.d.fact 36 (f := .free "tuple") rfl)
  have z11 := He.free_ok X G (S.t.d.fact 37 (f := .free "zip") rfl)
  have z12 := He.free_ok X G (S.t.d.fact 38 (f := .free "sum") rfl)
  have z13 := He.free_ok X G (S.t.d.fact 39 (f := .free "abs") rfl)
  have z14 := He.free_ok X G (S.t.d.fact 40 (f := .free "sorted") rfl)
  have z15 := He.free_ok X G (S.t.d.fact 41 (f := .free "reversed") rfl)
  have z16 := He.free_ok X G (S.t.d.fact 42 (f := .free "LookupError") rfl)
  have mN := He.glo_ok X G (S.t.d.fact 43 (f := .glo "NoPart") rfl)
  have hm := S.more
  unfold exB at hm
  simp only [Bool.and_eq_true] at hm
  obtain ⟨x0, x1⟩ := hm
  have C1 : Cl1 K (CA K) "place" := mk_cl1 x0 FI (fun _ _ _ _ _ _ _ _ => rfl) (fun _ _ _ _ _ _ _ _ => rfl)
  have CR := ex_clR x0
  have CN := ex_clsN x0
  have SY : SysD K := by
    unfold sysB at x1
    cases e : K.lookup sysModules with
    | none => rw [e] at x1; cases x1
    | some o => rw [e] at x1; exact ⟨o, e, eq_of_beq x1⟩
  have bIi : Binds K dIi ["value"] [] := FIi.bindsN fun _ _ _ _ _ _ us hl => match us, hl with | [_], _ => rfl
  have bSi : Binds K dSi ["datum"] [] := FSi.bindsN fun _ _ _ _ _ _ us hl => match us, hl with | [_], _ => rfl
  have bCo : Binds K dCo ["datum"] [] := FCo.bindsN fun _ _ _ _ _ _ us hl => match us, hl with | [_], _ => rfl
  have bPl : Binds K dPl ["datum"] [] := FPl.bindsN fun _ _ _ _ _ _ us hl => match us, hl with | [_], _ => rfl
  have bPA : Binds K dPA ["datum", "place"] [] := FPA.bindsN fun _ _ _ _ _ _ us hl => match us, hl with | [_, _], _ => rfl
  have bWi : Binds K dWi ["datum", "place", "part"] [] := FWi.bindsN fun _ _ _ _ _ _ us hl => match us, hl with | [_, _, _], _ => rfl
  have bWo : Binds K dWo ["datum", "place"] [] := FWo.bindsN fun _ _ _ _ _ _ us hl => match us, hl with | [_, _], _ => rfl
  have bFo : Binds K dFo ["datum", "place"] [] := FFo.bindsN fun _ _ _ _ _ _ us hl => match us, hl with | [_, _], _ => rfl
  have bHa : Binds K dHa ["datum", "step"] [] := FHa.bindsN fun _ _ _ _ _ _ us hl => match us, hl with | [_, _], _ => rfl
  have bBg : Binds K dBg ["one", "other"] [] := FBg.bindsN fun _ _ _ _ _ _ us hl => match us, hl with | [_, _], _ => rfl
  have bB : Binds K dB ["_law_script"] [] := FB.bindsN fun _ _ _ _ _ _ us hl => match us, hl with | [_], _ => rfl
  have bD : Binds K dD ["_law_tape", "_law_many"] [] := FD.bindsN fun _ _ _ _ _ _ us hl => match us, hl with | [_, _], _ => rfl
  have bPi : Binds K dPi ["_law_tape", "_law_items"] [] := FPi.bindsN fun _ _ _ _ _ _ us hl => match us, hl with | [_, _], _ => rfl
  have bSh : Binds K dSh ["_law_tape", "_law_items"] [] := FSh.bindsN fun _ _ _ _ _ _ us hl => match us, hl with | [_, _], _ => rfl
  have bOd : Binds K dOd ["_law_tape"] [] := FOd.bindsN fun _ _ _ _ _ _ us hl => match us, hl with | [_], _ => rfl
  have bLf : Binds K dLf ["_law_tape"] [] := FLf.bindsN fun _ _ _ _ _ _ us hl => match us, hl with | [_], _ => rfl
  have bDt : Binds K dDt ["_law_tape", "_law_keys_here", "_law_deep"] [] := FDt.bindsN fun _ _ _ _ _ _ us hl => match us, hl with | [_, _, _], _ => rfl
  have bLs : Binds K dLs ["_law_datum_here"] [] := FLs.bindsN fun _ _ _ _ _ _ us hl => match us, hl with | [_], _ => rfl
  have bLk : Binds K dLk ["_law_datum_here"] [] := FLk.bindsN fun _ _ _ _ _ _ us hl => match us, hl with | [_], _ => rfl
  have bRa : Binds K dRa ["_law_datum_here"] [] := FRa.bindsN fun _ _ _ _ _ _ us hl => match us, hl with | [_], _ => rfl
  have bSp : Binds K dSp ["_law_datum_here", "_law_spot"] [] := FSp.bindsN fun _ _ _ _ _ _ us hl => match us, hl with | [_, _], _ => rfl
  have bEx : Binds K dEx ["_law_datum_here", "_law_spot", "_law_part"] [] := FEx.bindsN fun _ _ _ _ _ _ us hl => match us, hl with | [_, _, _], _ => rfl
  have bLe : Binds K dLe ["_law_datum_here", "_law_spot"] [] := FLe.bindsN fun _ _ _ _ _ _ us hl => match us, hl with | [_, _], _ => rfl
  have bLo : Binds K dLo ["_law_call"] [] := FLo.bindsN fun _ _ _ _ _ _ us hl => match us, hl with | [_], _ => rfl
  have bAl : Binds K dAl ["_law_one", "_law_other"] [] := FAl.bindsN fun _ _ _ _ _ _ us hl => match us, hl with | [_, _], _ => rfl
  have e := hfa.symm.trans mL
  cases e
  have eqc : ∃ c, dL.code = .ref c ∧ He.codeOf K ("law", none) = c := by
    obtain ⟨oc, od, dV, kV, doc, pm, an, cdv, ct, osl, rfl, lk, hcd, _, _⟩ := FL.ex
    obtain ⟨c, rfl⟩ := He.codeIn_ref hcd
    exact ⟨c, rfl, He.codeOf_eq (p := ("law", none)) lk rfl⟩
  obtain ⟨c, ec, eco⟩ := eqc
  have tmem : (("law", none) : He.Defn) ∈ tf := List.mem_singleton.mpr rfl
  have th := S.hd _ tmem
  have to := S.out _ tmem
  have te := S.empty _ tmem
  have ecT : He.cT K ("law", none) = (c, He.tabOf K c) := by
    unfold He.cT
    rw [eco]
  rw [ecT] at th to te
  refine ⟨dL, c, He.tabOf K c, FL, ec, fun s v => FL.bindsA (ps := ["_law_script"]) (fun _ _ _ _ _ _ us hl => match us, hl with | [_], _ => rfl) s [v] rfl, te, to, PySem.W.codeHd_of_K X th, fun base _ _ TB => ?_⟩
  have GD : FnOk P w K mg base CX0 1 _ dD ["_law_tape", "_law_many"] spDraw := ok_draw (fun_of FD) z0 z1
  have GB : FnOk P w K mg base CX0 1 _ dB ["_law_script"] (spBegin K) := ok_begin (fun_of FB)
  have GPi : FnOk P w K mg base CX0 2 _ dPi ["_law_tape", "_law_items"] spPick := ok_pick (fun_of FPi) GD mD FD.kp bD z0
  have GSh : FnOk P w K mg base CX0 2 _ dSh ["_law_tape", "_law_items"] spShuf := ok_shuf (fun_of FSh) GD mD FD.kp bD z0 z4
  have GOd : FnOk P w K mg base CX0 3 _ dOd ["_law_tape"] (spOdd K) := ok_odd (fun_of FOd) GPi mPi FPi.kp bPi
  have GLf : FnOk P w K mg base CX0 3 _ dLf ["_law_tape"] spLeaf := ok_leaf (fun_of FLf) GPi mPi FPi.kp bPi
  have GDt : FnOk P w K mg base CX0 9 _ dDt ["_law_tape", "_law_keys_here", "_law_deep"] (spDatum 5) := ok_datum (fun_of FDt) GD mD FD.kp bD GSh mSh FSh.kp bSh GLf mLf FLf.kp bLf mDt FDt.kp bDt z6 z5 5
  have GLs : FnOk P w K mg base CX0 1 _ dLs ["_law_datum_here"] spLSort := ok_lsort (fun_of FLs) z9 z2 z1 z3 z4
  have GLk : FnOk P w K mg base CX0 1 _ dLk ["_law_datum_here"] spSteps := ok_lkeys (fun_of FLk) z9 z4 z5 z6 z0 z14
  have GRa : FnOk P w K mg base CX0 11 _ dRa ["_law_datum_here"] (spRank 9) := ok_rank (fun_of FRa) GLs mLs FLs.kp bLs GLk mLk FLk.kp bLk mRa FRa.kp bRa z9 z2 z1 z3 z4 z13 z12 z0 z10 z11 9
  have GAl : FnOk P w K mg base CX0 12 _ dAl ["_law_one", "_law_other"] (spAlike 9) := ok_alike (fun_of FAl) GRa mRa FRa.kp bRa
  have GSp : FnOk P w K mg base CX0 7 _ dSp ["_law_datum_here", "_law_spot"] (spSpots K 4 5) := ok_spots 4 (fun_of FSp) mSp FSp.kp bSp GLk mLk FLk.kp bLk 5
  have GEx : FnOk P w K mg base CX0 7 _ dEx ["_law_datum_here", "_law_spot", "_law_part"] (spEx K 5) := ok_ex (fun_of FEx) mEx FEx.kp bEx GLk mLk FLk.kp bLk z9 z4 z5 5
  have GLe : FnOk P w K mg base CX0 7 _ dLe ["_law_datum_here", "_law_spot"] (spLe K 5) := ok_le (fun_of FLe) mLe FLe.kp bLe GLk mLk FLk.kp bLk z9 z4 z5 z0 5
  have GSi : FnOk P w K mg base CX0 1 _ dSi ["datum"] spSteps := ok_steps (fun_of FSi) z9 z4 z5 z6 z0 z14
  have GPl : GFn P w K mg base 2 _ dPl ["datum"] spPlaces := gok_places (fun_of FPl) GSi mSi FSi.kp bSi z15
  have GIi : FnOk P w K mg base CX0 1 _ dIi ["value"] (spIsI K) := ok_isI (fun_of FIi) z9 z2 z1
  have GHa : FnOk P w K mg base CX0 2 _ dHa ["datum", "step"] (spHas K) := ok_has (fun_of FHa) GIi mIi FIi.kp bIi z9 z4 z5 z3 z0
  have GFo : FnOk P w K mg base (L2.CX P w) 3 _ dFo ["datum", "place"] (spFound K (CA K)) := ok_found (fun_of FFo) C1 CR mN GHa mHa FHa.kp bHa z9 z10
  have GCo : FnOk P w K mg base CX0 8 _ dCo ["datum"] (spCopied 5) := ok_copied (fun_of FCo) mCo FCo.kp bCo z9 z4 z5 z14 5
  have GPA : FnOk P w K mg base (L2.CX P w) 9 _ dPA ["datum", "place"] (spPartAt K (CA K) 5) := ok_partat (fun_of FPA) GFo mFo FFo.kp bFo GCo mCo FCo.kp bCo
  have GWi : FnOk P w K mg base (L2.CX P w) 9 _ dWi ["datum", "place", "part"] (spWith K (CA K) 5) := ok_with (fun_of FWi) GFo mFo FFo.kp bFo GCo mCo FCo.kp bCo
  have GWo : FnOk P w K mg base (L2.CX P w) 9 _ dWo ["datum", "place"] (spLess K (CA K) 5) := ok_less (fun_of FWo) C1 CR mN GFo mFo FFo.kp bFo GCo mCo FCo.kp bCo
  have GBg : FnOk P w K mg base CX0 1 _ dBg ["one", "other"] (spBegins K) := ok_begins (fun_of FBg) z0
  obtain ⟨oc, od, dV, kV, doc, pm, an, cdv, ct, osl, rfl, lkL, hcL, _, _⟩ := FLo.ex
  exact body_law ⟨z0, z6, z7, z8, z4, z9, z16, z3⟩ SY GB mB FB.kp bB GD mD FD.kp bD GPi mPi FPi.kp bPi GSh mSh FSh.kp bSh GDt mDt FDt.kp bDt GSp mSp FSp.kp bSp GPl mPl FPl.kp bPl GPA mPA FPA.kp bPA GWi mWi FWi.kp bWi GWo mWo FWo.kp bWo GEx mEx FEx.kp bEx GLe mLe FLe.kp bLe GAl mAl FAl.kp bAl GBg mBg FBg.kp bBg GOd mOd FOd.kp bOd CN mN mLo FLo.kp lkL hcL bLo TB
end Toy
open PySem PySem.W PySem.Calls PyProof.Rows
set_option maxRecDepth 100000 in
set_option maxHeartbeats 0 in
theorem PySem.Challenge.cw_sieveways_k04_places_of_data_holds : PySem.Challenge.rw_sieveways_k04_places_of_data.Holds := by
  w_on; o_law
  refine HandSHeadRun.head_any (r := OpenLaw.row PySem.Challenge.rw_sieveways_k04_places_of_data) (q := view (OpenLaw.row PySem.Challenge.rw_sieveways_k04_places_of_data).prog [30]) (H := Toy.hk) (ob := Toy.ob) (M := 9000) (loose := Toy.looseN) (d := HandSHeadRun.topDef (OpenLaw.row PySem.Challenge.rw_sieveways_k04_places_of_data).prog 30) (kwd := []) Toy.ob_eq
    (by kernel_rfl) (fun s => by kernel_rfl) Toy.run (by kernel_rfl) (by kernel_rfl) (by kernel_rfl) (by rfl) (by first | assumption | decide +kernel) (by decide +kernel) ⟨rfl, rfl, rfl, rfl, rfl, by decide +kernel⟩ ?hw ?hc
  case hw => w_witness2
  case hc =>
    refine L2.walkT (l := PySem.Challenge.rw_sieveways_k04_places_of_data) (n := 63) (k := 20) (x := "_law_script") rfl (by decide) (by kernel_rfl) ⟨rfl, by decide, by decide⟩ ?F
    intro w mg fa h Y G hmg0
    obtain ⟨K, KX, c⟩ := Y
    have hmg : mg ("law" : PySem.Str) = some (.ref fa) := by
      have e : (HandSHeadRun.topDef (OpenLaw.row PySem.Challenge.rw_sieveways_k04_places_of_data).prog 30).name = ("law" : PySem.Str) := by kernel_rfl
      rw [← e]
      exact hmg0
    obtain ⟨fd, cc, T, FD, ec, hb, hT, nT, CH, hF⟩ := Toy.facts (P := (PySem.Challenge.rw_sieveways_k04_places_of_data).prog) (w := w) KX G hmg c
    exact ⟨K, fd, _, _, _, _, _, Toy.NLw, Toy.spLawT K T, cc, T, KX, FD, ec, Toy.scLw, hb, hT, nT, CH, fun H a ns hl hTT hS => ⟨a, ns, rfl, hS, hl, hTT, fun _ => rfl⟩, hF⟩

