import PyProof.Rows.All
import Wide.All
import OpenK.AllK
import Wide.FinOn
import KE.KExcInit
import HandS.ForMost
import HandS.Exc
import HandS.ExcInit
import HandS.ExcIs
import HandS.Defaults
import HandS.ExcValue
import HandS.MakeKw
import KE.KExcIs
import HandS.IsInst
import HandS.MakeKwOnly
import PyProof.ReprRoads
import HandS.Dict
import HandS.Flow
import HandS.Wide
import HandS.Small
import HandS.More
import HandS.Strs
import HandS.Style
import HandS.Conv
import HandS.HeadEnd
import KE.KStateDown
import HandS.Zip
import HandS.Deep
import HandS.ListItems
import HandS.SortKw
import HandS.Lambda
import HandS.ExcField
import KE.GoesZip
import HandS.WordsExc
import HandS.Star
import PyProof.ZipIter
import PyProof.CollectWalk
import PyProof.TupleOfGen
import KE.KDictZip
import HandS.Rev
import HandS.Walk
import HandS.TupAny
import KE.GoesEnum
import HandS.GenBody
import HandS.GenYield
import HandS.GenCall
import HandS.GenList
import PyProof.EqKinds
import PyProof.FactsAll.dict_1
import PyProof.FactsAll.tuple_2
import PyProof.FactsAll.subtypes
import HandS.Steps
import HandS.EndTab
import HandS.Head0
import HandS.Head1
import HandS.Head2
import HandS.HeadHook1
import HandS.HeadHook2
import HandS.HeadHook3
import HandS.HeadHook4
import HandS.NestedK
import PySem.Challenge.RW_sieveways_k07_spots_of_filters
set_option Elab.async false
set_option linter.all false
set_option maxRecDepth 100000
set_option maxHeartbeats 0
/-! An own exception class over any base, called with positional or keyword arguments: the library tells it without keywords. -/
namespace PySem
namespace KX
open PySem.W PySem.Calls PyProof.Rows PySem.HandSPX
open Builtin Builtin.ObjectAttr
section
variable {P : Program} {wo : World} {Ar : Around} {Er : Value → Shared → Prop} {Rs : Result → Shared → Prop} {hp : Heap} {gs : Array GenState} {dr : Drawn} {tk : Nat} {os : OsState}
variable {cn qn : Str} {c nsA : Addr} {bases tl bt : List Value} {hasD : Bool} {sls : List Str} {subs : List Value} {abst : Bool} {coll : Option Bool} {cd : Option Addr} {y0 y1 y2 y3 y5 : Option Value} {base nid iid : String}
/-- the class's object -/
abbrev clsO (cn qn : Str) (c nsA : Addr) (bases tl : List Value) (hasD : Bool) (sls : List Str) (subs : List Value) (abst : Bool) (coll : Option Bool) (cd : Option Addr) (y0 y1 y2 y3 y5 : Option Value) (nid : String) : Obj :=
  excClassObj cn qn c nsA bases tl hasD sls subs abst coll cd y0 y1 y2 y3 y5 nid
variable (FB : ExcBaseFacts base nid iid bt) (same : ∀ Z : String, tl.contains (.type Z) = bt.contains (.type Z)) (at_ : hp.get? c = some (clsO cn qn c nsA bases tl hasD sls subs abst coll cd y0 y1 y2 y3 y5 nid))
include same in
theorem has_in {Z : String} {b : Bool} (z : bt.contains (.type Z) = b) : (Value.ref c :: tl).contains (.type Z) = b := by
  rw [List.contains_cons, same Z, z]; exact Bool.false_or b
include FB same at_ in
theorem new_checked {M : Model} {ps : List Value} {ks : List (Str × Value)} {Go : Unit → Shared → Prop} (go : Go () ⟨hp, gs, dr, tk, os⟩) : wpAny M Ar (checkBuiltinCall nid ⟨.ref c :: ps, ks⟩) Go Er ⟨hp, gs, dr, tk, os⟩ := by
  have star := FB.noStar
  have sub := has_in (c := c) same FB.hasB
  simp only [checkBuiltinCall, FB.newKind, FB.newSplit, FB.newRow]
  repeat (first | (refine wpAny_isSubtype_exc at_ ?_; rw [sub]) | refine wpAny_loadPart_at at_ ?_ | refine wpAny_madeBy_exc at_ ?_ | refine wpAny_staticBase_exc at_ ?_ | wp_step | simp only [Bool.false_eq_true, bne_self_eq_false, if_false])
  exact go
include FB same at_ in
theorem born {ps : List Value} {ks : List (Str × Value)} (few : ps.length ≤ sizeLine)
    (go : Rs (.ok (.ret (.ref (hp.objs.size + 1)))) ⟨(hp.push (W.kdv_tup ps)).push (excO c hp.objs.size), gs, dr, tk, os⟩) : codeAny (model P wo) Ar (.builtin nid ⟨.ref c :: ps, ks⟩) Rs ⟨hp, gs, dr, tk, os⟩ := by
  have fin := FB.ends
  have i1 := has_in (c := c) same FB.hasB
  have i2 := has_in (c := c) same FB.noAttr
  have i3 := has_in (c := c) same FB.noName
  refine codeAny_builtinAt FB.entry ?_
  unfold Builtin.«BaseException.__new__»
  refine wpAt_bind (?_ : wpAt _ _ _ (stack >>= _) _ _ _)
  refine wpAt_bind (wpAt_stack fun _ _ => wpAt_of_wpAny ?_)
  wp_walk
  refine wpAt_of_wpAny ?_
  rw [FB.owner]
  repeat (first | with_reducible refine wpAny_loadPart_at at_ ?_ | with_reducible refine wpAny_madeHere_exc FB.canon at_ ?_ | (with_reducible refine wpAny_isSubtype_exc at_ ?_; first | rw [i1] | rw [i2] | rw [i3]) | wp_step)
  show Rs _ _
  rw [Heap.size_push]
  exact go
include FB same at_ in
/-- C(.., k = ..): a new object, then the class's own __init__ -/
theorem class_called {ps : List Value} {ks : List (Str × Value)} {fi : Addr} (few : ps.length ≤ sizeLine)
    (ini : W.Looks (model P wo) hp (typeLookup (.ref c) "__init__") (some (.ref fi))) (bnd : ∀ self, W.Looks (model P wo) hp (bindSpecial (.ref fi) self) (.ref fi, [self]))
    (go : codeAny (model P wo) (Ar.under (.builtin "type.__call__" ⟨.ref c :: ps, ks⟩)) (.call (.ref fi) ⟨.ref (hp.objs.size + 1) :: ps, ks⟩) (W.InitBack (hp.objs.size + 1) Rs)
      ⟨(hp.push (W.kdv_tup ps)).push (excO c hp.objs.size), gs, dr, tk, os⟩) : codeAny (model P wo) Ar (.call (.ref c) ⟨ps, ks⟩) Rs ⟨hp, gs, dr, tk, os⟩ := by
  have t1 := tc_lookup
  have t2 := tc_bind (.ref c)
  have isT : (⟨hp, gs, dr, tk, os⟩ : Shared).TypeIs (.ref c) "type" := ⟨_, at_, rfl⟩
  refine codeAny_of_tree (?_ : wpAny _ _ (callAny (.ref c) _) _ _ _)
  repeat (any_goals (first | assumption | wp_step | with_reducible refine wpAny_loadPart_at at_ ?_))
  refine ⟨rfl, codeAny_call_builtin_at (Code.quiet_builtin _ (by decide +kernel)) entry_typeCall (wpAny_check_type_call_sub at_ (?_ : wpAny _ _ (Builtin.«type.__call__» ⟨.ref c :: ps, ks⟩) _ _ _))⟩
  repeat (first | with_reducible refine wpAny_madeBy_exc at_ ?_ | with_reducible refine wpAny_loadPart_at at_ ?_ | wp_step)
  refine codeAny_call_builtin_code (Code.quiet_builtin _ FB.quiet) (new_checked FB same at_ (born FB same at_ few ?_))
  show wpAny _ _ _ _ _ _
  have up : ∀ b o, hp.get? b = some o → ((hp.push (W.kdv_tup ps)).push (excO c hp.objs.size)).get? b = some o := fun _ _ q => Heap.get?_push_of_some _ (Heap.get?_push_of_some _ q)
  have at2 := up _ _ at_
  have obj : ((hp.push (W.kdv_tup ps)).push (excO c hp.objs.size)).get? (hp.objs.size + 1) = some (excO c hp.objs.size) := by heap_get
  have self : (Value.ref c :: tl).contains (.ref c) = true := by simp
  have l1 := ini.keeps up
  have l2 := (bnd (.ref (hp.objs.size + 1))).keeps up
  unfold isInstance
  repeat (first | (with_reducible refine wpAny_isSubtype_exc at2 ?_; rw [self]) | with_reducible refine wpAny_loadPart_at obj ?_ | wp_step)
  refine (l1.at ?_ : wpAny _ _ (typeLookup (.ref c) _) _ _ _)
  refine wpAny_holding (wpAny_bind (l2.at (wpAny_bind (wpAny_call (codeAny_mono go fun r s' q => ?_)))))
  cases r with
  | error e => exact q
  | ok fl =>
    cases fl with
    | ret v =>
      obtain ⟨rfl, q⟩ := q
      first
        | exact wpAny_pure (wpAny_pure q)
        | (wp_walk; exact q)
    | next => exact q.elim
    | brk => exact q.elim
    | cont => exact q.elim
end
end KX
end PySem


namespace PySem
namespace KX
open PySem.W PySem.Calls PyProof.Rows PySem.HandSPX
open Builtin Builtin.ObjectAttr
/-- what the written part says of an own exception class with an own __init__, over the built-in class of that name -/
structure Own (K : Frag) (c fi : Addr) (base nid iid : String) (bt : List Value) : Prop where
  FB : ExcBaseFacts base nid iid bt
  SF : StoreFacts base bt "object.__setattr__" "object"
  ini : excInitIn K c bt nid = true
  over : excOver K c bt = true
  dct : hasDictIn K c = true
  sa : findIn K (.ref c) "__setattr__" = some (some (.builtin "object.__setattr__"))
  ga : findIn K (.ref c) "__getattribute__" = some (some (.builtin "BaseException.__getattribute__"))
  gg : findIn K (.ref c) "__getattr__" = some none
  exc : subIn K (.ref c) (.type "BaseException") = some true
  kp : keepIn K (.ref c) = true
  fI : findIn K (.ref c) "__init__" = some (some (.ref fi))
  fT : typeIn K (.ref fi) = some (.type "function")
  cA : findIn K (.ref c) "__class__" = some (some (.builtin "object.__class__"))
  cN : specialIn K (.builtin "object.__class__") "__get__" = some (some (.builtin "getset_descriptor.__get__"))
  cT : takesIn K (.builtin "object.__class__") = some true
  cM : mroIn K c (.type "object") = some true
/-- no class says anything of the name f -/
structure Free (K : Frag) (c : Addr) (f : Str) : Prop where
  t : takerIn K c f = some none
  n : findIn K (.ref c) f = some none
/-- an exception's object, its dict at d -/
abbrev withD (c t : Addr) (d : Option Addr) : Obj := { cls := .ref c, dict := d, data := .fields #[.ref t, .none, .none, .none, .bool false, .none] }
section
variable {P : Program} {wo : World} {Ar : Around} {Rs : Result → Shared → Prop} {hp : Heap} {gs : Array GenState} {dr : Drawn} {tk : Nat} {os : OsState}
variable {K : Frag} {c fi : Addr} {base nid iid : String} {bt : List Value} {f : Str} {v : Value} {x t : Addr} {tn : Tok}
/-- the first store -/
theorem put_first (O : Own K c fi base nid iid bt) (N : Free K c f) (X : K.In hp) (hx : hp.get? x = some (withD c t none))
    (go : ∀ h' tk' dx, (∀ b o, b ≠ x → hp.get? b = some o → h'.get? b = some o) → hp.objs.size ≤ dx → dx ≠ x → h'.get? x = some (withD c t (some dx)) →
      h'.Ns1 dx (fun y => if y = f then some v else none) → Rs (.ok (.ret .none)) ⟨h', gs, dr, tk', os⟩) :
    codeAny (model P wo) Ar (.call (.builtin "object.__setattr__") ⟨[.ref x, .str f tn, v], []⟩) Rs ⟨hp, gs, dr, tk, os⟩ := by
  have at_ : InstAt hp x (withD c t none) c none := ⟨hx, rfl, rfl, trivial⟩
  have apart : x ≠ hp.objs.size := Nat.ne_of_lt (Heap.lt_size hx)
  obtain ⟨cd, hcd, hdd⟩ := any_some O.dct
  have look : Looks (model P wo) hp (classData c) cd := looks_clsIn X hcd
  refine osa_openX O.SF X at_ O.over N.t fun b => ?_
  show wpAny _ _ (storeInOwnDict (.ref x) (.ref c) (.str f tn) f v b) _ _ _
  obtain ⟨a1, a2, a3, a4, a5, a6, a7, a8, a9, a10, a11⟩ := cd
  have e6 : a6 = true := hdd
  subst e6
  unfold storeInOwnDict ownDictForStores
  repeat (first | with_reducible refine store_in_new ?_ ?_ | with_reducible refine look.at ?_ | with_reducible refine wpAny_loadPart_at hx ?_ | wp_step)
  · exact ⟨_, #[], _, (Heap.get?_update_ne _ _ _ _ apart.symm).trans (Heap.get?_push_at rfl rfl), rfl, fun e he => absurd he (by simp), fun _ => rfl⟩
  · intro h' tk' hn but
    have old : (hp.push { cls := .type "dict", data := .dict #[] }).get? x = some (withD c t none) := Heap.get?_push_of_some _ hx
    exact go h' tk' hp.objs.size (fun b o hb q => (but.2 b (Nat.ne_of_lt (Heap.lt_size q))).trans ((Heap.get?_update_ne _ _ _ _ hb).trans (Heap.get?_push_of_some _ q))) (Nat.le_refl _) apart.symm
      ((but.2 x apart).trans (Heap.get?_update_self _ old rfl)) hn
/-- a further store -/
theorem put_next {dx : Addr} {m0 : Str → Option Value} {ns : List Str} (O : Own K c fi base nid iid bt) (N : Free K c f) (X : K.In hp) (hx : hp.get? x = some (withD c t (some dx))) (hm : hp.Ns1 dx m0) (hw : Within m0 ns) (hz : ns.length ≤ 1000)
    (go : ∀ h' tk', (∀ b o, b ≠ dx → hp.get? b = some o → h'.get? b = some o) → h'.Ns1 dx (fun y => if y = f then some v else m0 y) → Rs (.ok (.ret .none)) ⟨h', gs, dr, tk', os⟩) :
    codeAny (model P wo) Ar (.call (.builtin "object.__setattr__") ⟨[.ref x, .str f tn, v], []⟩) Rs ⟨hp, gs, dr, tk, os⟩ := by
  obtain ⟨od, _, _, hod, _, _⟩ := hm.count hw
  have at_ : InstAt hp x (withD c t (some dx)) c (some od) := ⟨hx, rfl, rfl, hod⟩
  obtain ⟨cd, hcd, hdd⟩ := any_some O.dct
  have look : Looks (model P wo) hp (classData c) cd := looks_clsIn X hcd
  refine osa_openX O.SF X at_ O.over N.t fun b => ?_
  show wpAny _ _ (storeInOwnDict (.ref x) (.ref c) (.str f tn) f v b) _ _ _
  obtain ⟨a1, a2, a3, a4, a5, a6, a7, a8, a9, a10, a11⟩ := cd
  have e6 : a6 = true := hdd
  subst e6
  unfold storeInOwnDict ownDictForStores
  repeat (first | with_reducible refine PySem.OEX.store_in_old hm hw hz ?_ | with_reducible refine look.at ?_ | with_reducible refine wpAny_loadPart_at hx ?_ | wp_step)
  intro h' tk' hn but
  exact go h' tk' (fun b o hb q => (but.2 b hb).trans q) hn
end
end KX
end PySem


namespace PySem
namespace KX
open PySem.W PySem.Calls PyProof.Rows PySem.HandSPX
def arg1 (n : Str) (p : Pos) : Arg := { arg := n, annotation := none, pos := p }
def argsOf (l : List Arg) : Arguments := { posonlyargs := [], args := l, vararg := none, kwonlyargs := [], kw_defaults := [], kwarg := none, defaults := [] }
def setS (f : Str) (q1 q2 q3 q4 : Pos) : Stmt := .Assign [.Attribute (.Name "self" q1) f q2] (.Name f q3) q4
def scOf (l : List Str) : Scope := { kind := .function, names := l.map fun n => (n, .local), isGenerator := false, isCoroutine := false, more := [] }
/-- a local name is read -/
theorem readL {M : Model} {s : Shared} {name : Str} {sc : Scope} {L a : Addr} {cd : Value} {m : Str → Option Value} {x : Str} {pos : Pos} {v : Value} {Q : Value → Shared → Prop} {A : Around} {E : Value → Shared → Prop} (hn : s.heap.Ns L m) (hv : m x = some v)
    (hk : sc.kind = .function) (hl : sc.names.lookup x = some .local) (hd : (x == ("__debug__" : Str)) = false) (h : Q v s) : wpAny M A (eval (.Name x pos) (envOfC name sc L a cd)) Q E s := wpAny_Name (wpAny_loadName_local hk hl hn hv h) hd
/-- what __init__ leaves of the object at x: its dict at dx holds m -/
structure Filled (h h' : Heap) (x c dx t : Addr) (m : Str → Option Value) : Prop where
  old : ∀ b o, b ≠ x → h.get? b = some o → h'.get? b = some o
  obj : h'.get? x = some (withD c t (some dx))
  big : h.objs.size ≤ dx
  ne : dx ≠ x
  ns : h'.Ns1 dx m
section
variable {P : Program} {wo : World} {Ar : Around} {Rs : Result → Shared → Prop} {s : Shared} {K : Frag} {c fi : Addr} {base nid iid : String} {bt : List Value} {f g : Str} {v u : Value} {x t : Addr} {qual : Str} {fd : FuncData} {a1 a2 a3 q1 q2 q3 q4 r1 r2 r3 r4 : Pos} {args : Args}
theorem in_step {A : Around} {E : Value → Shared → Prop} {Q : Flow → Shared → Prop} {L a : Addr} {cd : Value} {sc : Scope} {m : Str → Option Value} {rest : List Stmt} (hn : s.heap.Ns L m) (hk : sc.kind = .function) (sS : sc.names.lookup ("self" : Str) = some NameKind.local) (sF : sc.names.lookup f = some .local)
    (dF : (f == ("__debug__" : Str)) = false) (mS : m "self" = some (.ref x)) (mF : m f = some v)
    (h : wpAny (model P wo) A (setAttr (.ref x) f v) (fun _ s' => wpAny (model P wo) A (execs rest (envOfC qual sc L a cd)) Q E s') E s) :
    wpAny (model P wo) A (execs (setS f q1 q2 q3 q4 :: rest) (envOfC qual sc L a cd)) Q E s := by
  refine wpAny_execs_cons (plainObj_wpAny_Assign_Attribute ?_)
  exact readL hn mF hk sF dF (readL hn mS hk sS (by decide) h)
theorem init_one (O : Own K c fi base nid iid bt) (N : Free K c f) (F : L2.FunD K "__init__" qual (argsOf [arg1 "self" a1, arg1 f a2]) [setS f q1 q2 q3 q4] (scOf ["self", f]) [] [] fi fd) (fs : (f == ("self" : Str)) = false) (fdb : (f == ("__debug__" : Str)) = false)
    (hb : BindsTo s fd args [("self", .ref x), (f, v)]) (X : K.In s.heap) (lim : s.heap.NoLimit) (hx : s.heap.get? x = some (withD c t none)) (room : Ar.depth < recursionLimit)
    (go : ∀ h' tk dx, Filled s.heap h' x c dx t (fun y => if y = f then some v else none) → Rs (.ok (.ret .none)) { s with heap := h', toks := tk }) :
    codeAny (model P wo) Ar (.call (.ref fi) args) Rs s := by
  obtain ⟨oc, od, dV, kV, doc, pm, an, cdv, ct, osl, rfl, lk, hcd, hD, hK⟩ := F.ex
  have l1 : (scOf ["self", f]).names.lookup ("self" : Str) = some .local := by simp [scOf, List.lookup]
  have l2 : (scOf ["self", f]).names.lookup f = some .local := by simp [scOf, List.lookup, fs]
  refine Att.call_fn (binds := [("self", .ref x), (f, v)]) X lim lk hcd room hb (by simp [l1, l2]) (fun s₁ IC => ?_) rfl rfl rfl
  obtain ⟨h₁, tk₁, rfl⟩ := IC.toInCall.same
  have up : ∀ b o, s.heap.get? b = some o → h₁.get? b = some o := IC.toInCall.keep
  have hn := IC.toInCall.ns
  have k1 : (envOfC qual (scOf ["self", f]) s.heap.objs.size fi cdv).kindOf ("self" : Str) = some .local := l1
  have k2 : (envOfC qual (scOf ["self", f]) s.heap.objs.size fi cdv).kindOf f = some .local := l2
  have nsf : ¬ (("self" : Str) = f) := fun z => by rw [← z] at fs; simp at fs
  refine in_step (x := x) (v := v) hn rfl l1 l2 fdb (by simp [bindL, k1, k2, nsf]) (by simp [bindL, k1, k2]) ?_
  refine set_plain (X.keeps up) (ox := withD c t none) (od := none) ⟨up _ _ hx, rfl, rfl, trivial⟩ O.sa ?_
  refine put_first O N (X.keeps up) (up _ _ hx) (fun h₃ tk₃ dx k₃ dn dne hx₃ hn₃ => ?_)
  have z : s.heap.objs.size < h₁.objs.size := hn.lt
  exact wpAny_execs_nil (go h₃ tk₃ dx ⟨fun b o hb e => k₃ b o hb (up b o e), hx₃, Nat.le_of_lt (Nat.lt_of_lt_of_le z dn), dne, hn₃⟩)
theorem init_two (O : Own K c fi base nid iid bt) (N : Free K c f) (N2 : Free K c g) (F : L2.FunD K "__init__" qual (argsOf [arg1 "self" a1, arg1 f a2, arg1 g a3]) [setS f q1 q2 q3 q4, setS g r1 r2 r3 r4] (scOf ["self", f, g]) [] [] fi fd)
    (fs : (f == ("self" : Str)) = false) (gs : (g == ("self" : Str)) = false) (gf : (g == f) = false) (fdb : (f == ("__debug__" : Str)) = false) (gdb : (g == ("__debug__" : Str)) = false)
    (hb : BindsTo s fd args [("self", .ref x), (f, v), (g, u)]) (X : K.In s.heap) (lim : s.heap.NoLimit) (hx : s.heap.get? x = some (withD c t none)) (hnx : K.lookup x = none) (room : Ar.depth < recursionLimit)
    (go : ∀ h' tk dx, Filled s.heap h' x c dx t (fun y => if y = g then some u else if y = f then some v else none) → Rs (.ok (.ret .none)) { s with heap := h', toks := tk }) :
    codeAny (model P wo) Ar (.call (.ref fi) args) Rs s := by
  obtain ⟨oc, od, dV, kV, doc, pm, an, cdv, ct, osl, rfl, lk, hcd, hD, hK⟩ := F.ex
  have l1 : (scOf ["self", f, g]).names.lookup ("self" : Str) = some .local := by simp [scOf, List.lookup]
  have l2 : (scOf ["self", f, g]).names.lookup f = some .local := by simp [scOf, List.lookup, fs]
  have l3 : (scOf ["self", f, g]).names.lookup g = some .local := by simp [scOf, List.lookup, gs, gf]
  refine Att.call_fn (binds := [("self", .ref x), (f, v), (g, u)]) X lim lk hcd room hb (by simp [l1, l2, l3]) (fun s₁ IC => ?_) rfl rfl rfl
  obtain ⟨h₁, tk₁, rfl⟩ := IC.toInCall.same
  have up : ∀ b o, s.heap.get? b = some o → h₁.get? b = some o := IC.toInCall.keep
  have hn := IC.toInCall.ns
  have k1 : (envOfC qual (scOf ["self", f, g]) s.heap.objs.size fi cdv).kindOf ("self" : Str) = some .local := l1
  have k2 : (envOfC qual (scOf ["self", f, g]) s.heap.objs.size fi cdv).kindOf f = some .local := l2
  have k3 : (envOfC qual (scOf ["self", f, g]) s.heap.objs.size fi cdv).kindOf g = some .local := l3
  have n1 : ¬ (("self" : Str) = f) := fun z => by rw [← z] at fs; simp at fs
  have n2 : ¬ (("self" : Str) = g) := fun z => by rw [← z] at gs; simp at gs
  have n3 : ¬ (f = g) := fun z => by rw [← z] at gf; simp at gf
  refine in_step (x := x) (v := v) hn rfl l1 l2 fdb (by simp [bindL, k1, k2, k3, n1, n2]) (by simp [bindL, k1, k2, k3, n3]) ?_
  refine set_plain (X.keeps up) (ox := withD c t none) (od := none) ⟨up _ _ hx, rfl, rfl, trivial⟩ O.sa ?_
  refine put_first O N (X.keeps up) (up _ _ hx) (fun h₃ tk₃ dx k₃ dn dne hx₃ hn₃ => ?_)
  have z : s.heap.objs.size < h₁.objs.size := hn.lt
  have lx : s.heap.objs.size ≠ x := Nat.ne_of_gt (Heap.lt_size hx)
  have hn3 : h₃.Ns s.heap.objs.size _ := hn.at fun o q => k₃ _ _ lx q
  obtain ⟨od3, _, _, hod3, _, _⟩ := hn₃.count (Within.cons f v Within.nil)
  have X3 : K.In h₃ := fun b o e => by
    by_cases hbx : b = x
    · rw [hbx, hnx] at e
      cases e
    · exact k₃ b o hbx (up _ _ (X b o e))
  refine in_step (x := x) (v := u) hn3 rfl l1 l3 gdb (by simp [bindL, k1, k2, k3, n1, n2]) (by simp [bindL, k1, k2, k3]) ?_
  refine set_plain X3 (ox := withD c t (some dx)) (od := some od3) ⟨hx₃, rfl, rfl, hod3⟩ O.sa ?_
  refine put_next O N2 X3 hx₃ hn₃ (Within.cons f v Within.nil) (by show 1 ≤ 1000; decide) (fun h₄ tk₄ k₄ hn₄ => ?_)
  exact wpAny_execs_nil (go h₄ tk₄ dx ⟨fun b o hb e => k₄ b o (Nat.ne_of_lt (Nat.lt_of_lt_of_le (Heap.lt_size (up b o e)) dn)) (k₃ b o hb (up b o e)), k₄ _ _ dne.symm hx₃, Nat.le_of_lt (Nat.lt_of_lt_of_le z dn), dne, hn₄⟩)
end
end KX
end PySem


namespace L2
open PySem PySem.Spec PyProof.Rows PySem.KX
/-- the end of C(..): the object at e and its dict at d stand -/
def Laid (H : Hp) (c : Addr) (fs : List (Str × V)) (Q : VK) : Prop := ∀ e d, H e = none → H d = none → d ≠ e → Q (.ref e) (upd (upd H d (exd d fs)) e (exo e c (some d)))
section
variable {X : Cx} {pins : List (Addr × Obj)} {σ : St} {H : Hp} {s : Shared} {c fi : Addr} {base nid iid : String} {bt : List Value} {f g : Str} {y z : V} {v u : Value} {qual : Str} {fd : FuncData} {a1 a2 a3 q1 q2 q3 q4 r1 r2 r3 r4 : Pos} {us : List Value} {ks : List (Str × Value)} {Q : VK} {k : Nat}
theorem laid_end {hp h' : Heap} {g0 : Array GenState} {dr : Drawn} {t0 t' : Nat} {os : OsState} {d0 t1 : Addr} {m : Str → Option Value} {fs : List (Str × V)} (I : Inv X pins σ H ⟨hp, g0, dr, t0, os⟩) (h : Laid H c fs Q) {w1 w2 : Obj}
    (M : Filled ((hp.push w1).push w2) h' (hp.objs.size + 1) c d0 t1 m) (rel : ∀ f, RelO (fs.lookup f) (m f)) :
    EP X pins σ Q (.ref (hp.objs.size + 1)) ⟨h', g0, dr, t', os⟩ := by
  have old : ∀ b o, hp.get? b = some o → h'.get? b = some o := fun b o e => M.old b o (Nat.ne_of_lt (Nat.lt_succ_of_lt (Heap.lt_size e))) (Heap.get?_push_of_some _ (Heap.get?_push_of_some _ e))
  have big : hp.objs.size ≤ d0 := by
    have z := M.big
    rw [Heap.size_push, Heap.size_push] at z
    omega
  have hn : H (hp.objs.size + 1) = none := I.hok.fresh (Nat.le_succ _)
  have hd : H d0 = none := I.hok.fresh big
  obtain ⟨G, g1, g2⟩ := restrict h' fun b => decide (b ≠ hp.objs.size + 1)
  have gk : ∀ b, b ≠ hp.objs.size + 1 → G.get? b = h'.get? b := fun b hb => g1 b (decide_eq_true hb)
  have ge : G.get? (hp.objs.size + 1) = none := g2 _ (by simp)
  have oldG : ∀ b o, hp.get? b = some o → G.get? b = some o := fun b o q => (gk b (Nat.ne_of_lt (Nat.lt_succ_of_lt (Heap.lt_size q)))).trans (old b o q)
  have J : Inv X pins σ (upd H d0 (exd d0 fs)) ⟨G, g0, dr, t', os⟩ := I.laid (t' := t') oldG big (exd_ok (M.ns.at fun o q => (gk d0 M.ne).trans q) rel)
  have he : (upd H d0 (exd d0 fs)) (hp.objs.size + 1) = none := by rw [upd_ne M.ne.symm]; exact hn
  refine ⟨.ref (hp.objs.size + 1), _, J.laidN (t' := t') (h' := h') (fun b o q => ?_) ge he (exo_ok M.obj), rfl, h _ _ hn hd M.ne⟩
  by_cases hb : b = hp.objs.size + 1
  · have q' : G.get? b = some o := q
    rw [hb, ge] at q'
    cases q'
  · exact (gk b hb).symm.trans q
theorem not_written {K : PySem.W.Frag} {hp : Heap} (KX : K.In hp) : K.lookup (hp.objs.size + 1) = none := by
  cases e : K.lookup (hp.objs.size + 1) with
  | none => rfl
  | some o =>
    have z : hp.get? (hp.objs.size + 1) = some o := KX _ _ e
    exact absurd (Nat.lt_of_succ_lt (Heap.lt_size z)) (Nat.lt_irrefl _)
theorem run_mk1 (O : Own X.K c fi base nid iid bt) (N : Free X.K c f) (F : FunD X.K "__init__" qual (argsOf [arg1 "self" a1, arg1 f a2]) [setS f q1 q2 q3 q4] (scOf ["self", f]) [] [] fi fd) (fs : (f == ("self" : Str)) = false) (fdb : (f == ("__debug__" : Str)) = false)
    (hr : Room 1 X.A) (I : Inv X pins σ H s) (rv : RelV y v) (few : us.length ≤ sizeLine) (hb : ∀ s self, BindsTo s fd ⟨.ref self :: us, ks⟩ [("self", .ref self), (f, v)])
    (h : Laid H c [(f, y)] Q) : wpAny (model X.prog X.w) X.A (call (.ref c) us ks) (EP X pins σ Q) X.xe s := by
  obtain ⟨nm, nsA, qn, bs, bm, hdct, sn, sub, ab, col, dd, k0, k1, k2, k3, k5, hC, same⟩ := PySem.W.excInit_of I.kIn O.ini
  obtain ⟨hp, g0, dr, tk, os⟩ := s
  have up : ∀ b o, hp.get? b = some o → ((hp.push (PySem.W.kdv_tup us)).push (PySem.HandSPX.excO c hp.objs.size)).get? b = some o := fun b o e => Heap.get?_push_of_some _ (Heap.get?_push_of_some _ e)
  have obj : ((hp.push (PySem.W.kdv_tup us)).push (PySem.HandSPX.excO c hp.objs.size)).get? (hp.objs.size + 1) = some (withD c hp.objs.size none) := by heap_get
  refine wpAny_call (class_called O.FB same hC few (PySem.W.looks_findIn I.kIn O.fI) (fun self => PySem.W.bind_fn I.kIn self O.fT) ?_)
  refine init_one (s := ⟨(hp.push (PySem.W.kdv_tup us)).push (PySem.HandSPX.excO c hp.objs.size), g0, dr, tk, os⟩) O N F fs fdb (hb _ _) (I.kIn.keeps up) (I.nolimit.keeps up) obj (by show X.A.depth + 1 < recursionLimit; have := hr.dp; omega) fun h' tk' d0 M => ?_
  refine ⟨rfl, laid_end I h M fun q => ?_⟩
  exact relO_put (fs := []) (mA := fun _ => none) rv (fun _ => True.intro) q
theorem run_mk2 (O : Own X.K c fi base nid iid bt) (N : Free X.K c f) (N2 : Free X.K c g) (F : FunD X.K "__init__" qual (argsOf [arg1 "self" a1, arg1 f a2, arg1 g a3]) [setS f q1 q2 q3 q4, setS g r1 r2 r3 r4] (scOf ["self", f, g]) [] [] fi fd)
    (fs : (f == ("self" : Str)) = false) (gs : (g == ("self" : Str)) = false) (gf : (g == f) = false) (fdb : (f == ("__debug__" : Str)) = false) (gdb : (g == ("__debug__" : Str)) = false)
    (hr : Room 1 X.A) (I : Inv X pins σ H s) (rv : RelV y v) (ru : RelV z u) (few : us.length ≤ sizeLine) (hb : ∀ s self, BindsTo s fd ⟨.ref self :: us, ks⟩ [("self", .ref self), (f, v), (g, u)])
    (h : Laid H c [(g, z), (f, y)] Q) : wpAny (model X.prog X.w) X.A (call (.ref c) us ks) (EP X pins σ Q) X.xe s := by
  obtain ⟨nm, nsA, qn, bs, bm, hdct, sn, sub, ab, col, dd, k0, k1, k2, k3, k5, hC, same⟩ := PySem.W.excInit_of I.kIn O.ini
  obtain ⟨hp, g0, dr, tk, os⟩ := s
  have up : ∀ b o, hp.get? b = some o → ((hp.push (PySem.W.kdv_tup us)).push (PySem.HandSPX.excO c hp.objs.size)).get? b = some o := fun b o e => Heap.get?_push_of_some _ (Heap.get?_push_of_some _ e)
  have obj : ((hp.push (PySem.W.kdv_tup us)).push (PySem.HandSPX.excO c hp.objs.size)).get? (hp.objs.size + 1) = some (withD c hp.objs.size none) := by heap_get
  refine wpAny_call (class_called O.FB same hC few (PySem.W.looks_findIn I.kIn O.fI) (fun self => PySem.W.bind_fn I.kIn self O.fT) ?_)
  refine init_two (s := ⟨(hp.push (PySem.W.kdv_tup us)).push (PySem.HandSPX.excO c hp.objs.size), g0, dr, tk, os⟩) O N N2 F fs gs gf fdb gdb (hb _ _) (I.kIn.keeps up) (I.nolimit.keeps up) obj (not_written I.kIn) (by show X.A.depth + 1 < recursionLimit; have := hr.dp; omega) fun h' tk' d0 M => ?_
  refine ⟨rfl, laid_end I h M fun q => ?_⟩
  exact relO_put (fs := [(f, y)]) ru (relO_put (fs := []) (mA := fun _ => none) rv (fun _ => True.intro)) q
end
end L2


namespace L2
open PySem PySem.Spec PyProof.Rows PySem.KX
/-- the class nm, at c, has an __init__ of one field f -/
structure Cl1 (K : PySem.W.Frag) (c : Addr) (f : Str) : Prop where
  ex : ∃ (fi : Addr) (base nid iid : String) (bt : List Value) (qual : Str) (fd : FuncData) (a1 a2 q1 q2 q3 q4 : Pos), Own K c fi base nid iid bt ∧
    FunD K "__init__" qual (argsOf [arg1 "self" a1, arg1 f a2]) [setS f q1 q2 q3 q4] (scOf ["self", f]) [] [] fi fd ∧
    (∀ s self v, BindsTo s fd ⟨[.ref self, v], []⟩ [("self", .ref self), (f, v)]) ∧ ∀ s self v, BindsTo s fd ⟨[.ref self], [(f, v)]⟩ [("self", .ref self), (f, v)]
  fr : Free K c f
  fs : (f == ("self" : Str)) = false
  fdb : (f == ("__debug__" : Str)) = false
  kp : PySem.W.keepIn K (.ref c) = true
/-- .. of two fields f, g; by name in the other order -/
structure Cl2 (K : PySem.W.Frag) (c : Addr) (f g : Str) : Prop where
  ex : ∃ (fi : Addr) (base nid iid : String) (bt : List Value) (qual : Str) (fd : FuncData) (a1 a2 a3 q1 q2 q3 q4 r1 r2 r3 r4 : Pos), Own K c fi base nid iid bt ∧
    FunD K "__init__" qual (argsOf [arg1 "self" a1, arg1 f a2, arg1 g a3]) [setS f q1 q2 q3 q4, setS g r1 r2 r3 r4] (scOf ["self", f, g]) [] [] fi fd ∧
    (∀ s self v u, BindsTo s fd ⟨[.ref self, v, u], []⟩ [("self", .ref self), (f, v), (g, u)]) ∧ ∀ s self v u, BindsTo s fd ⟨[.ref self], [(g, u), (f, v)]⟩ [("self", .ref self), (f, v), (g, u)]
  fr : Free K c f
  gr : Free K c g
  fs : (f == ("self" : Str)) = false
  gs : (g == ("self" : Str)) = false
  gf : (g == f) = false
  fdb : (f == ("__debug__" : Str)) = false
  gdb : (g == ("__debug__" : Str)) = false
  kp : PySem.W.keepIn K (.ref c) = true
/-- what reading an exception of the class at c wants -/
structure ClG (K : PySem.W.Frag) (c : Addr) : Prop where
  ga : PySem.W.findIn K (.ref c) "__getattribute__" = some (some (.builtin "BaseException.__getattribute__"))
  gg : PySem.W.findIn K (.ref c) "__getattr__" = some none
  exc : PySem.W.subIn K (.ref c) (.type "BaseException") = some true
  dct : PySem.W.hasDictIn K c = true
  cA : PySem.W.findIn K (.ref c) "__class__" = some (some (.builtin "object.__class__"))
  cN : PySem.W.specialIn K (.builtin "object.__class__") "__get__" = some (some (.builtin "getset_descriptor.__get__"))
  cT : PySem.W.takesIn K (.builtin "object.__class__") = some true
  cM : PySem.W.mroIn K c (.type "object") = some true
def tX1 (c : Addr) (f : Str) (ta : TA) : TE := fun σ H Q => ta σ H fun vs H1 => ∃ y, vs = [y] ∧ Laid H1 c [(f, y)] Q
def tX2 (c : Addr) (f g : Str) (ta : TA) : TE := fun σ H Q => ta σ H fun vs H1 => ∃ y z, vs = [y, z] ∧ Laid H1 c [(g, z), (f, y)] Q
def tX2k (c : Addr) (f g : Str) (ta : TA) : TE := fun σ H Q => ta σ H fun vs H1 => ∃ y z, vs = [z, y] ∧ Laid H1 c [(g, z), (f, y)] Q
/-- e.f of an exception object -/
def tXG (K : PySem.W.Frag) (f : Str) (te : TE) : TE := fun σ H Q => te σ H fun x H1 => ∃ (a c d : Addr) (fs : List (Str × V)) (v : V), x = .ref a ∧ ClG K c ∧ PySem.W.findIn K (.ref c) f = some none ∧ H1 a = some (exo a c (some d)) ∧ H1 d = some (exd d fs) ∧ fs.lookup f = some v ∧ Q v H1
def rIsX (K : PySem.W.Frag) : List V → Hp → VK → Prop := fun xs H Q => ∃ (a c d : Addr) (fs : List (Str × V)) (k : V) (u : Value) (b : Bool), xs = [.ref a, k] ∧ ClsV k u ∧ ClG K c ∧ H a = some (exo a c (some d)) ∧ H d = some (exd d fs) ∧ PySem.W.kitOne K (.ref c) u = some b ∧ Q (.bl b) H
section
variable {X : Cx} {c : Addr} {f g : Str} {x : Str} {p pos : Pos} {e : Expr} {es : List Expr} {kws : List Keyword} {ta : TA} {te : TE}
theorem one_few (v : Value) : [v].length ≤ sizeLine := by
  rw [sizeLine_eq]
  exact (by decide : 1 ≤ 16777216)
theorem two_few (v u : Value) : [v, u].length ≤ sizeLine := by
  rw [sizeLine_eq]
  exact (by decide : 2 ≤ 16777216)
theorem nil_few : ([] : List Value).length ≤ sizeLine := Nat.zero_le _
theorem pe_x1 (T : Cl1 X.K c f) (hr : Room 1 X.A) (hm : X.mg x = some (.ref c)) (hg : Gl X x) (ha : PA X [e] ta) (hdb : (x == ("__debug__" : Str)) = false := by decide)
    (he : starEach (e :: []) X.env = (false, eval e X.env) :: starEach [] X.env := by rfl) (hpl : (backTo pos (starEach [] X.env)).any (·.1) = false := by rfl) : PE X (.Call (.Name x p) [e] [] pos) (tX1 c f ta) := by
  refine ⟨fun pins s σ H Q I h => ?_⟩
  obtain ⟨fi, base, nid, iid, bt, qual, fd, a1, a2, q1, q2, q3, q4, O, F, b1, b2⟩ := T.ex
  refine wpAny_Call_Name_kw (ld_glob I hg hm ?_ hdb)
  refine PySem.W.callWith_K (h₀ := X.base) I.ok.mod.kin T.kp (thn (ha.run pos pins s σ H _ I h) fun us s1 hh => ?_) he hpl
  obtain ⟨vs, H1, I1, r1, y, rfl, q⟩ := hh
  obtain ⟨u, rfl, ru⟩ := vals1 r1
  exact ⟨I1.kIn, run_mk1 (us := [u]) (ks := []) O T.fr F T.fs T.fdb hr I1 ru (one_few u) (fun s self => b1 s self u) q⟩
theorem pe_x1k (T : Cl1 X.K c f) (hr : Room 1 X.A) (hm : X.mg x = some (.ref c)) (hg : Gl X x) (hkw : PK X kws ta) (hall : (backToKw pos (keywordEach kws X.env)).all (·.1.isSome) = true := by rfl) (hks : (backToKw pos (keywordEach kws X.env)).filterMap (·.1) = [f] := by rfl)
    (hdb : (x == ("__debug__" : Str)) = false := by decide) (hpl : ((backTo pos (starEach [] X.env)).any (·.1) || (backToKw pos (keywordEach kws X.env)).any (·.1.isNone)) = false := by rfl) : PE X (.Call (.Name x p) [] kws pos) (tX1 c f ta) := by
  refine ⟨fun pins s σ H Q I h => ?_⟩
  obtain ⟨fi, base, nid, iid, bt, qual, fd, a1, a2, q1, q2, q3, q4, O, F, b1, b2⟩ := T.ex
  refine wpAny_Call_Name_kw (ld_glob I hg hm ?_ hdb)
  refine PySem.W.callWith_KW0 (h₀ := X.base) I.ok.mod.kin T.kp hall ?_ hpl
  refine thn (hkw.run pos pins s σ H _ I h) fun ws s2 hh => ?_
  obtain ⟨zs, H2, I2, rz, y, rfl, q⟩ := hh
  obtain ⟨u, rfl, ru⟩ := vals1 rz
  refine ⟨I2.kIn, ?_⟩
  rw [hks]
  exact run_mk1 (us := []) (ks := [(f, u)]) O T.fr F T.fs T.fdb hr I2 ru nil_few (fun s self => b2 s self u) q
theorem pe_x2 (T : Cl2 X.K c f g) (hr : Room 1 X.A) (hm : X.mg x = some (.ref c)) (hg : Gl X x) (ha : PA X (e :: es) ta) (hdb : (x == ("__debug__" : Str)) = false := by decide)
    (he : starEach (e :: es) X.env = (false, eval e X.env) :: starEach es X.env := by rfl) (hpl : (backTo pos (starEach es X.env)).any (·.1) = false := by rfl) : PE X (.Call (.Name x p) (e :: es) [] pos) (tX2 c f g ta) := by
  refine ⟨fun pins s σ H Q I h => ?_⟩
  obtain ⟨fi, base, nid, iid, bt, qual, fd, a1, a2, a3, q1, q2, q3, q4, r1, r2, r3, r4, O, F, b1, b2⟩ := T.ex
  refine wpAny_Call_Name_kw (ld_glob I hg hm ?_ hdb)
  refine PySem.W.callWith_K (h₀ := X.base) I.ok.mod.kin T.kp (thn (ha.run pos pins s σ H _ I h) fun us s1 hh => ?_) he hpl
  obtain ⟨vs, H1, I1, r1, y, z, rfl, q⟩ := hh
  obtain ⟨u, u2, rfl, ru, ru2⟩ := vals2 r1
  exact ⟨I1.kIn, run_mk2 (us := [u, u2]) (ks := []) O T.fr T.gr F T.fs T.gs T.gf T.fdb T.gdb hr I1 ru ru2 (two_few u u2) (fun s self => b1 s self u u2) q⟩
theorem pe_x2k (T : Cl2 X.K c f g) (hr : Room 1 X.A) (hm : X.mg x = some (.ref c)) (hg : Gl X x) (hkw : PK X kws ta) (hall : (backToKw pos (keywordEach kws X.env)).all (·.1.isSome) = true := by rfl) (hks : (backToKw pos (keywordEach kws X.env)).filterMap (·.1) = [g, f] := by rfl)
    (hdb : (x == ("__debug__" : Str)) = false := by decide) (hpl : ((backTo pos (starEach [] X.env)).any (·.1) || (backToKw pos (keywordEach kws X.env)).any (·.1.isNone)) = false := by rfl) : PE X (.Call (.Name x p) [] kws pos) (tX2k c f g ta) := by
  refine ⟨fun pins s σ H Q I h => ?_⟩
  obtain ⟨fi, base, nid, iid, bt, qual, fd, a1, a2, a3, q1, q2, q3, q4, r1, r2, r3, r4, O, F, b1, b2⟩ := T.ex
  refine wpAny_Call_Name_kw (ld_glob I hg hm ?_ hdb)
  refine PySem.W.callWith_KW0 (h₀ := X.base) I.ok.mod.kin T.kp hall ?_ hpl
  refine thn (hkw.run pos pins s σ H _ I h) fun ws s2 hh => ?_
  obtain ⟨zs, H2, I2, rz, y, z, rfl, q⟩ := hh
  obtain ⟨u2, u, rfl, ru2, ru⟩ := vals2 rz
  refine ⟨I2.kIn, ?_⟩
  rw [hks]
  exact run_mk2 (us := []) (ks := [(g, u2), (f, u)]) O T.fr T.gr F T.fs T.gs T.gf T.fdb T.gdb hr I2 ru ru2 nil_few (fun s self => b2 s self u u2) q
theorem inst_at {pins : List (Addr × Obj)} {σ : St} {H : Hp} {s : Shared} {a d : Addr} {fs : List (Str × V)} (I : Inv X pins σ H s) (ea : H a = some (exo a c (some d))) (ed : H d = some (exd d fs)) :
    ∃ ox od, PySem.W.InstAt s.heap a ox c (some od) ∧ ∀ f v, fs.lookup f = some v → ∃ u, PySem.W.lookIn f od = some (some u) ∧ RelV v u := by
  obtain ⟨t1, ho⟩ := exo_at I.hok ea
  obtain ⟨mA, hns, rel⟩ := exd_at I.hok ed
  obtain ⟨od, hod, hl⟩ := lookIn_ns hns
  refine ⟨_, od, ⟨ho, rfl, rfl, hod⟩, fun f v l => ?_⟩
  obtain ⟨u, hu, ru⟩ := RelO.some_of (v := v) (o := mA f) (by rw [← l]; exact rel f)
  exact ⟨u, by rw [hl, hu], ru⟩
theorem pe_xg (he : PE X e te) (hb : attributeBase e f X.env (eval e X.env) = eval e X.env := by rfl) : PE X (.Attribute e f pos) (tXG X.K f te) := by
  refine ⟨fun pins s σ H Q I h => ?_⟩
  refine attr_of hb (thn (he.run pins s σ H _ I h) fun u s1 hh => ?_)
  obtain ⟨x, H1, I1, rx, a, c, d, fs, v, rfl, T, hno, ea, ed, l, q⟩ := hh
  obtain rfl : u = Value.ref a := rx
  obtain ⟨ox, od, J, look⟩ := inst_at I1 ea ed
  obtain ⟨w, lw, rw'⟩ := look f v l
  exact HandSPX.exc_get I1.kIn J T.ga T.gg T.exc (PySem.W.findObj_own T.dct hno rfl lw) (handed_of rw') ⟨v, H1, I1.tok _, rw', q⟩
theorem call_isX : CallR X (.builtin "isinstance") (rIsX X.K) := by
  intro pins s σ H xs us Q I r h
  obtain ⟨a, c, d, fs, k, u, b, rfl, ku, T, ea, ed, e, q⟩ := h
  obtain ⟨u1, u2, rfl, r1, r2⟩ := vals2 r
  have e2 := ku.eq r2
  subst e2
  obtain rfl : u1 = Value.ref a := r1
  obtain ⟨ox, od, J, look⟩ := inst_at I ea ed
  exact PySem.W.kia_one (PySem.W.kitx_exc (by obtain ⟨cd, hc, _⟩ := PySem.W.any_some T.dct; rw [hc]; rfl) T.ga T.gg T.exc T.cA T.cN T.cT T.cM) I.kIn J e (fun z => nomatch z) fun tk => ⟨.bl b, H, I.tok tk, rfl, q⟩
end
end L2


namespace L2
open PySem PySem.Spec PyProof.Rows PySem.KX
/-! repr of data: lists, tuples, dicts of flat values -/
def keyD : Key → PyData
  | .inl i => .int i
  | .inr x => .str x
def leafD : V → PyData
  | .int i => .int i
  | .str x => .str x
  | _ => .none
def leafV (v : V) : Prop := (∃ i, v = .int i) ∨ ∃ x, v = .str x
mutual
inductive Dq (H : Hp) : V → PyData → Prop
  | non : Dq H .non .none
  | bl (b : Bool) : Dq H (.bl b) (.bool b)
  | int (i : Int) : Dq H (.int i) (.int i)
  | str (x : Str) : Dq H (.str x) (.str x)
  | lst {a : Addr} {xs : List V} {ds : List PyData} : H a = some (.lst xs) → sysModules ≠ a → DqAll H xs ds → Dq H (.ref a) (.list ds)
  | tup {a : Addr} {xs : List V} {ds : List PyData} : H a = some (.tup xs) → DqAll H xs ds → Dq H (.ref a) (.tuple ds)
  | dct {a : Addr} {kvs : List (Key × V)} : H a = some (.dK kvs) → (∀ p ∈ kvs, leafV p.2) → Dq H (.ref a) (.dict (kvs.map fun p => (keyD p.1, leafD p.2)))
inductive DqAll (H : Hp) : List V → List PyData → Prop
  | nil : DqAll H [] []
  | cons {v : V} {vs : List V} {d : PyData} {ds : List PyData} : Dq H v d → DqAll H vs ds → DqAll H (v :: vs) (d :: ds)
end
mutual
theorem Dq.mono {H H' : Hp} (s : Same H H') : ∀ {v : V} {d : PyData}, Dq H v d → Dq H' v d
  | _, _, .non => .non
  | _, _, .bl b => .bl b
  | _, _, .int i => .int i
  | _, _, .str x => .str x
  | _, _, .lst h n a => .lst (s _ _ h) n (DqAll.mono s a)
  | _, _, .tup h a => .tup (s _ _ h) (DqAll.mono s a)
  | _, _, .dct h a => .dct (s _ _ h) a
theorem DqAll.mono {H H' : Hp} (s : Same H H') : ∀ {v : List V} {d : List PyData}, DqAll H v d → DqAll H' v d
  | _, _, .nil => .nil
  | _, _, .cons a b => .cons (Dq.mono s a) (DqAll.mono s b)
end
section
variable {X : Cx} {pins : List (Addr × Obj)} {σ : St} {H : Hp} {s : Shared}
theorem reads_keys (h : Heap) {P : Program} {w : World} : ∀ {es : List DictEntry} {vs : List (Key × Value)}, Pairs (mixKind P w) es vs → ReadsAll h (es.map (·.key)) (vs.map fun p => keyD p.1) [] ∧ es.map (·.val) = vs.map (·.2) := by
  intro es vs hp
  induction hp with
  | nil => exact ⟨.nil, rfl⟩
  | @cons e kv es kvs hk hv _ ih =>
    obtain ⟨i1, i2⟩ := ih
    have kd : ∀ k : Key, ∀ u : Value, keyIs k u = true → Reads h u (keyD k) [] := fun k u q => by
      rcases keyIs_shape q with ⟨i, t, rfl, rfl⟩ | ⟨x, t, rfl, rfl⟩
      · exact .int i t
      · exact .str x t
    exact ⟨ReadsAll.cons (as := []) (bs := []) (kd _ _ hk) i1, by rw [List.map_cons, List.map_cons, i2, hv]⟩
theorem reads_leaf {h : Heap} {v : V} {u : Value} (l : leafV v) (r : RelV v u) : Reads h u (leafD v) [] := by
  rcases l with ⟨i, rfl⟩ | ⟨x, rfl⟩
  · obtain ⟨t, rfl⟩ := r
    exact .int i t
  · obtain ⟨t, rfl⟩ := r
    exact .str x t
theorem reads_vals {h : Heap} : ∀ {kvs : List (Key × V)} {vs : List (Key × Value)}, KV kvs vs → (∀ p ∈ kvs, leafV p.2) → ReadsAll h (vs.map (·.2)) (kvs.map fun p => leafD p.2) [] ∧ (vs.map fun p => keyD p.1) = kvs.map fun p => keyD p.1 := by
  intro kvs vs r
  unfold KV at r
  induction r with
  | nil => intro _; exact ⟨.nil, rfl⟩
  | @cons p q ps qs hpq t ih =>
    intro l
    obtain ⟨i1, i2⟩ := ih fun z hz => l z (List.mem_cons_of_mem _ hz)
    refine ⟨ReadsAll.cons (as := []) (bs := []) (reads_leaf (l p List.mem_cons_self) hpq.2) i1, ?_⟩
    rw [List.map_cons, List.map_cons, i2, hpq.1]
mutual
theorem Dq.reads (I : Inv X pins σ H s) : ∀ {v : V} {d : PyData} {u : Value}, Dq H v d → RelV v u → ∃ as, Reads s.heap u d as ∧ sysModules ∉ as
  | _, _, _, .non, r => by cases r; exact ⟨_, .none, nofun⟩
  | _, _, _, .bl b, r => by cases r; exact ⟨_, .bool b, nofun⟩
  | _, _, _, .int i, r => by obtain ⟨t, rfl⟩ := r; exact ⟨_, .int i t, nofun⟩
  | _, _, _, .str x, r => by obtain ⟨t, rfl⟩ := r; exact ⟨_, .str x t, nofun⟩
  | _, _, _, .lst h n a, r => by
    cases r
    obtain ⟨its, rv, ⟨o, m, ho, hc, _, hd⟩, _⟩ := I.list (SqL.of h)
    obtain ⟨as, hr, hn⟩ := DqAll.reads I a rv
    exact ⟨_, Reads.list ho hc hd hr, fun z => by rcases List.mem_cons.mp z with e | e; exact n e; exact hn e⟩
  | _, _, _, .tup h a, r => by
    cases r
    obtain ⟨its, rv, ⟨o, ho, hc, m, hd⟩, _⟩ := I.tuple (SqT.of h)
    obtain ⟨as, hr, hn⟩ := DqAll.reads I a rv
    exact ⟨_, Reads.tuple ho hc hd hr, hn⟩
  | _, _, _, .dct (a := a) (kvs := kvs) h l, r => by
    cases r
    obtain ⟨_, hs, vs, rv, o, es, ep, h1, h2, h3, _, h5, _⟩ := (show ObjOk X.prog X.w H s.heap a (.dK kvs) from I.hok a _ h)
    obtain ⟨k1, k2⟩ := reads_keys s.heap h5
    obtain ⟨v1, v2⟩ := reads_vals (h := s.heap) rv l
    refine ⟨_, Reads.dict (as := []) (bs := []) h1 h2.1 h3 ?_ ?_, ?_⟩
    · rw [List.map_map]
      rw [v2] at k1
      exact k1
    · rw [k2, List.map_map]
      exact v1
    · intro z
      simp at z
      rw [← z] at hs
      simp at hs
theorem DqAll.reads (I : Inv X pins σ H s) : ∀ {v : List V} {d : List PyData} {u : List Value}, DqAll H v d → Vals v u → ∃ as, ReadsAll s.heap u d as ∧ sysModules ∉ as
  | _, _, _, .nil, r => by cases r; exact ⟨_, .nil, nofun⟩
  | _, _, _, .cons a b, r => by
    cases r with
    | cons r1 r2 =>
      obtain ⟨as, q1, n1⟩ := Dq.reads I a r1
      obtain ⟨bs, q2, n2⟩ := DqAll.reads I b r2
      exact ⟨_, .cons q1 q2, fun z => by rcases List.mem_append.mp z with e | e; exact n1 e; exact n2 e⟩
end
end
section
variable {X : Cx}
/-- a list display, new, not sys.modules -/
def tLstN (t : TA) : TE := fun σ H Q => t σ H fun xs H1 => xs.length ≤ sizeLine ∧ ∀ l, H1 l = none → sysModules ≠ l → Q (.ref l) (upd H1 l (.lst xs))
theorem pe_lstN {es : List Expr} {t : TA} {pos : Pos} (h : PA X es t) : PE X (.List es pos) (tLstN t) := by
  refine ⟨fun pins s σ H Q I hq => ?_⟩
  refine wpAny_List_spliced (thn (h.run pos pins s σ H _ I hq) fun us s1 hh => ?_)
  obtain ⟨xs, H1, I1, r, z, q⟩ := hh
  refine ⟨by rw [← r.length]; exact z, .ref s1.heap.objs.size, upd H1 s1.heap.objs.size (.lst xs), I1.laid (t' := s1.toks) (fun b u e => Heap.get?_push_of_some _ e) (Nat.le_refl _) ⟨z, us, 0, r, Heap.get?_push_size _ rfl⟩, rfl, ?_⟩
  exact q _ (I1.hok.fresh (Nat.le_refl _)) (Nat.ne_of_lt I1.big)
/-- repr(x), x a list or a tuple or a dict -/
def rShow (xs : List V) (H : Hp) (Q : VK) : Prop := ∃ (a : Addr) (d : PyData), xs = [.ref a] ∧ Dq H (.ref a) d ∧ d.showable = true ∧ d.depth ≤ 20 ∧ d.shown.length ≤ sizeLine ∧ Q (.str d.shown) H
theorem call_repD (hr : Room 1 X.A) (hg : X.A.guards = some []) : CallR X (.builtin "repr") rShow := by
  intro pins s σ H xs us Q I r h
  obtain ⟨a, d, rfl, hd, hs, hdp, hz, q⟩ := h
  obtain ⟨u, rfl, ru⟩ := vals1 r
  obtain ⟨as, hr1, hn⟩ := Dq.reads I hd ru
  cases ru
  refine repr_of_reads' hr1 hs (fun _ => hn) hg ?_ (fun _ _ e => e) (fun h' u tk k => ?_) hz
  · have := hr.un
    omega
  · exact ⟨.str d.shown, H, I.kept (t' := tk) k, ⟨_, rfl⟩, q⟩
end
end L2


namespace L2
open PySem PySem.Spec PyProof.Rows PySem.KX
/-! raise C(x), C an own class whose __init__ keeps what it is given -/
section
variable {X : Cx} {pins : List (Addr × Obj)} {σ : St} {H : Hp} {c : Addr} {f : Str}
theorem flown {hp h' : Heap} {g0 : Array GenState} {dr : Drawn} {t0 t' : Nat} {os : OsState} {d0 t1 : Addr} {m : Str → Option Value} {fs : List (Str × V)} {Q : XK} (I : Inv X pins σ H ⟨hp, g0, dr, t0, os⟩) {w1 w2 : Obj} (T : Raises X (.ref c))
    (M : Filled ((hp.push w1).push w2) h' (hp.objs.size + 1) c d0 t1 m) (rel : ∀ f, RelO (fs.lookup f) (m f)) (h : ∀ d, H d = none → Q (.ref c) (some d) (upd H d (.xd fs))) :
    MkP X pins σ Q (.ref (hp.objs.size + 1)) ⟨h', g0, dr, t', os⟩ := by
  have was : ∀ b o, hp.get? b = some o → h'.get? b = some o := fun b o e => M.old b o (Nat.ne_of_lt (Nat.lt_succ_of_lt (Heap.lt_size e))) (Heap.get?_push_of_some _ (Heap.get?_push_of_some _ e))
  have big : hp.objs.size ≤ d0 := by
    have z := M.big
    simp only [Heap.size_push] at z
    omega
  have nE : H (hp.objs.size + 1) = none := I.hok.fresh (Nat.le_succ _)
  obtain ⟨G, g1, g2⟩ := restrict h' fun b => decide (b ≠ hp.objs.size + 1)
  have gE : G.get? (hp.objs.size + 1) = none := g2 _ (by simp)
  have gN : ∀ b, b ≠ hp.objs.size + 1 → G.get? b = h'.get? b := fun b hb => g1 b (decide_eq_true hb)
  have J : Inv X pins σ (upd H d0 (.xd fs)) ⟨G, g0, dr, t', os⟩ := I.laid (t' := t') (fun b o q => (gN b (Nat.ne_of_lt (Nat.lt_succ_of_lt (Heap.lt_size q)))).trans (was b o q)) big ⟨m, M.ns.at fun o q => (gN d0 M.ne).trans q, rel⟩
  refine ⟨_, _, _, ⟨G, g0, dr, t', os⟩, _, .ref c, some d0, rfl, J, fun b o q => ?_, gE, M.obj, ⟨rfl, rfl⟩, rfl, rfl, ?_, rfl, J.bare, T, h d0 (I.hok.fresh big)⟩
  · by_cases hb : b = hp.objs.size + 1
    · have q' : G.get? b = some o := q
      rw [hb, gE] at q'
      cases q'
    · exact (gN b hb).symm.trans q
  · rw [upd_ne M.ne.symm]
    exact nE
/-- what raise C(..) asks of C -/
structure ClR (K : PySem.W.Frag) (c : Addr) : Prop where
  sub : PySem.W.subIn K (.ref c) (.type "BaseException") = some true
  typ : PySem.W.typeIn K (.ref c) = some (.type "type")
variable {x : Str} {e : Expr} {ta : TA} {p pos : Pos}
theorem pmk_x1 (T : Cl1 X.K c f) (R : ClR X.K c) (hr : Room 1 X.A) (hm : X.mg x = some (.ref c)) (hg : Gl X x) (ha : PA X [e] ta) (hdb : (x == ("__debug__" : Str)) = false := by decide)
    (he : starEach (e :: []) X.env = (false, eval e X.env) :: starEach [] X.env := by rfl) (hpl : (backTo pos (starEach [] X.env)).any (·.1) = false := by rfl) :
    PMk X (.Call (.Name x p) [e] [] pos) (fun σ H Q => ta σ H fun vs H1 => ∃ y, vs = [y] ∧ ∀ d, H1 d = none → Q (.ref c) (some d) (upd H1 d (.xd [(f, y)]))) := by
  intro pins s σ H Q I h
  obtain ⟨fi, base, nid, iid, bt, qual, fd, a1, a2, q1, q2, q3, q4, O, F, b1, b2⟩ := T.ex
  refine wpAny_Call_Name_kw (ld_glob I hg hm ?_ hdb)
  refine PySem.W.callWith_K (h₀ := X.base) I.ok.mod.kin T.kp (thn (ha.run pos pins s σ H _ I h) fun us s1 hh => ?_) he hpl
  obtain ⟨vs, H1, I1, r1, y, rfl, q⟩ := hh
  obtain ⟨u, rfl, ru⟩ := vals1 r1
  refine ⟨I1.kIn, ?_⟩
  obtain ⟨nm, nsA, qn, bs, bm, hdct, sn, sub, ab, col, dd, k0, k1, k2, k3, k5, hC, same⟩ := PySem.W.excInit_of I1.kIn O.ini
  obtain ⟨hp, g0, dr, tk, os⟩ := s1
  have up : ∀ b o, hp.get? b = some o → ((hp.push (PySem.W.kdv_tup [u])).push (PySem.HandSPX.excO c hp.objs.size)).get? b = some o := fun b o e => Heap.get?_push_of_some _ (Heap.get?_push_of_some _ e)
  refine wpAny_call (class_called O.FB same hC (one_few u) (PySem.W.looks_findIn I1.kIn O.fI) (fun self => PySem.W.bind_fn I1.kIn self O.fT) ?_)
  refine init_one (s := ⟨(hp.push (PySem.W.kdv_tup [u])).push (PySem.HandSPX.excO c hp.objs.size), g0, dr, tk, os⟩) O T.fr F T.fs T.fdb (b1 _ _ _) (I1.kIn.keeps up) (I1.nolimit.keeps up) (by heap_get) (by show X.A.depth + 1 < recursionLimit; have := hr.dp; omega) fun h' tk' d0 M => ?_
  exact ⟨rfl, flown I1 (raises_own R.sub R.typ) M (fun q => relO_put (fs := []) (mA := fun _ => none) ru (fun _ => True.intro) q) q⟩
end
end L2


namespace L2
open PySem PySem.Spec PyProof.Rows PySem.KX
/-! repr of what may be shown: data without dicts; or dicts of flat items, within tuples -/
mutual
theorem dp_noDict {K : PySem.W.Frag} {H : Hp} : ∀ {d : PyData} {v : V}, Dp K H v d → d.hasDict = false
  | .none, _, _ => rfl
  | .bool _, _, _ => rfl
  | .int _, _, _ => rfl
  | .str _, _, _ => rfl
  | .list ds, _, h => by
    cases h with
    | lst _ ha => exact dpAll_noDict ha
  | .tuple ds, _, h => by
    cases h with
    | tup _ ha => exact dpAll_noDict ha
  | .dict _, _, h => by cases h
theorem dpAll_noDict {K : PySem.W.Frag} {H : Hp} : ∀ {ds : List PyData} {vs : List V}, DpAll K H vs ds → PyData.hasDictAll ds = false
  | [], _, _ => rfl
  | d :: ds, _, h => by
    cases h with
    | cons h1 h2 =>
      show (d.hasDict || PyData.hasDictAll ds) = false
      rw [dp_noDict h1, dpAll_noDict h2]
      rfl
end
mutual
inductive Sd (K : PySem.W.Frag) (H : Hp) : V → PyData → Prop
  | non : Sd K H .non .none
  | bl (b : Bool) : Sd K H (.bl b) (.bool b)
  | int (i : Int) : Sd K H (.int i) (.int i)
  | str (x : Str) : Sd K H (.str x) (.str x)
  | tup {a : Addr} {xs : List V} {ds : List PyData} : SqT K H a xs → SdAll K H xs ds → Sd K H (.ref a) (.tuple ds)
  | dct {a : Addr} {kvs : List (Key × V)} : H a = some (.dK kvs) → (∀ p ∈ kvs, leafV p.2) → Sd K H (.ref a) (.dict (kvs.map fun p => (keyD p.1, leafD p.2)))
inductive SdAll (K : PySem.W.Frag) (H : Hp) : List V → List PyData → Prop
  | nil : SdAll K H [] []
  | cons {v : V} {vs : List V} {d : PyData} {ds : List PyData} : Sd K H v d → SdAll K H vs ds → SdAll K H (v :: vs) (d :: ds)
end
section
variable {X : Cx} {pins : List (Addr × Obj)} {σ : St} {H : Hp} {s : Shared}
mutual
theorem Sd.reads (I : Inv X pins σ H s) : ∀ {v : V} {d : PyData} {u : Value}, Sd X.K H v d → RelV v u → ∃ as, Reads s.heap u d as ∧ sysModules ∉ as
  | _, _, _, .non, r => by cases r; exact ⟨_, .none, nofun⟩
  | _, _, _, .bl b, r => by cases r; exact ⟨_, .bool b, nofun⟩
  | _, _, _, .int i, r => by obtain ⟨t, rfl⟩ := r; exact ⟨_, .int i t, nofun⟩
  | _, _, _, .str x, r => by obtain ⟨t, rfl⟩ := r; exact ⟨_, .str x t, nofun⟩
  | _, _, _, .tup h a, r => by
    cases r
    obtain ⟨its, rv, ⟨o, ho, hc, m, hd⟩, _⟩ := I.tuple h
    obtain ⟨as, hr, hn⟩ := SdAll.reads I a rv
    exact ⟨_, Reads.tuple ho hc hd hr, hn⟩
  | _, _, _, .dct (a := a) (kvs := kvs) h l, r => by
    cases r
    obtain ⟨_, hs, vs, rv, o, es, ep, h1, h2, h3, _, h5, _⟩ := (show ObjOk X.prog X.w H s.heap a (.dK kvs) from I.hok a _ h)
    obtain ⟨k1, k2⟩ := reads_keys s.heap h5
    obtain ⟨v1, v2⟩ := reads_vals (h := s.heap) rv l
    refine ⟨_, Reads.dict (as := []) (bs := []) h1 h2.1 h3 ?_ ?_, ?_⟩
    · rw [List.map_map]
      rw [v2] at k1
      exact k1
    · rw [k2, List.map_map]
      exact v1
    · intro z
      simp at z
      rw [← z] at hs
      simp at hs
theorem SdAll.reads (I : Inv X pins σ H s) : ∀ {v : List V} {d : List PyData} {u : List Value}, SdAll X.K H v d → Vals v u → ∃ as, ReadsAll s.heap u d as ∧ sysModules ∉ as
  | _, _, _, .nil, r => by cases r; exact ⟨_, .nil, nofun⟩
  | _, _, _, .cons a b, r => by
    cases r with
    | cons r1 r2 =>
      obtain ⟨as, q1, n1⟩ := Sd.reads I a r1
      obtain ⟨bs, q2, n2⟩ := SdAll.reads I b r2
      exact ⟨_, .cons q1 q2, fun z => by rcases List.mem_append.mp z with e | e; exact n1 e; exact n2 e⟩
end
end
/-- v shows as d -/
def Shw (K : PySem.W.Frag) (H : Hp) (v : V) (d : PyData) : Prop := (Dp K H v d ∨ Sd K H v d) ∧ d.showable = true ∧ d.depth ≤ 150 ∧ d.shown.length ≤ sizeLine
mutual
theorem sdM {K : PySem.W.Frag} {H H' : Hp} (s : Same H H') : ∀ {v : V} {d : PyData}, Sd K H v d → Sd K H' v d
  | _, _, .non => .non
  | _, _, .bl b => .bl b
  | _, _, .int i => .int i
  | _, _, .str x => .str x
  | _, _, .tup h a => .tup (by
      rcases h with (h | ⟨o, h⟩) | h
      · exact .inl (.inl (s _ _ h))
      · exact .inl (.inr ⟨o, s _ _ h⟩)
      · exact .inr h) (sdAllM s a)
  | _, _, .dct h a => .dct (s _ _ h) a
theorem sdAllM {K : PySem.W.Frag} {H H' : Hp} (s : Same H H') : ∀ {v : List V} {d : List PyData}, SdAll K H v d → SdAll K H' v d
  | _, _, .nil => .nil
  | _, _, .cons a b => .cons (sdM s a) (sdAllM s b)
end
section
variable {X : Cx}
def rRepA (K : PySem.W.Frag) (xs : List V) (H : Hp) (Q : VK) : Prop := ∃ (v : V) (d : PyData), xs = [v] ∧ Shw K H v d ∧ Q (.str d.shown) H
theorem call_rep (hu : X.A.units + 200 < cLine) (hg : X.A.guards = some []) : CallR X (.builtin "repr") (rRepA X.K) := by
  intro pins s σ H xs us Q I r h
  obtain ⟨v, d, rfl, ⟨hd, hs, hdp, hz⟩, q⟩ := h
  obtain ⟨u, rfl, ru⟩ := vals1 r
  have key : ∃ as, Reads s.heap u d as ∧ (d.hasDict = true → sysModules ∉ as) := by
    rcases hd with hd | hd
    · obtain ⟨as, z⟩ := Dp.reads I d v u hd ru
      exact ⟨as, z, fun e => by rw [dp_noDict hd] at e; cases e⟩
    · obtain ⟨as, z, n⟩ := Sd.reads I hd ru
      exact ⟨as, z, fun _ => n⟩
  obtain ⟨as, hr, hn⟩ := key
  cases hr with
  | none => exact PySem.P.repr_of_none ⟨.str _, H, I.tok _, ⟨_, rfl⟩, q⟩
  | bool b => exact PySem.P.repr_of_bool ⟨.str _, H, I.tok _, ⟨_, rfl⟩, q⟩
  | int i t => exact PySem.P.repr_of_int (of_decide_eq_true hs) ⟨.str _, H, I.tok _, ⟨_, rfl⟩, q⟩
  | str x t => exact PySem.P.repr_of_str ⟨.str _, H, I.tok _, ⟨_, rfl⟩, q⟩ hz
  | list h1 h2 h3 h4 => exact repr_of_reads' (.list h1 h2 h3 h4) hs hn hg (by omega) (fun _ _ e => e) (fun h' u tk k => ⟨.str _, H, I.kept (t' := tk) k, ⟨_, rfl⟩, q⟩) hz
  | tuple h1 h2 h3 h4 => exact repr_of_reads' (.tuple h1 h2 h3 h4) hs hn hg (by omega) (fun _ _ e => e) (fun h' u tk k => ⟨.str _, H, I.kept (t' := tk) k, ⟨_, rfl⟩, q⟩) hz
  | dict h1 h2 h3 h4 h5 => exact repr_of_reads' (.dict h1 h2 h3 h4 h5) hs hn hg (by omega) (fun _ _ e => e) (fun h' u tk k => ⟨.str _, H, I.kept (t' := tk) k, ⟨_, rfl⟩, q⟩) hz
/-- isinstance(e, c), e what the suite holds, with its fields -/
def rIsS (K : PySem.W.Frag) (a : Addr) (cls : Value) (d : Option Addr) : List V → Hp → VK → Prop := fun xs H Q => ∃ (C dd : Addr) (fs : List (Str × V)) (c : V) (cv : Value) (b : Bool), xs = [.ref a, c] ∧ cls = .ref C ∧ d = some dd ∧ H dd = some (.xd fs) ∧ ClG K C ∧ ClsV c cv ∧ PySem.W.kitOne K (.ref C) cv = some b ∧ Q (.bl b) H
theorem call_isS {a : Addr} {oe : Obj} {cls : Value} {d : Option Addr} {pn : List (Addr × Obj)} (hz : Zc cls d oe) (hf : ∃ vs, oe.data = .fields vs) : CallR (X.suite a ((a, oe) :: pn)) (.builtin "isinstance") (rIsS X.K a cls d) := by
  intro pins s σ H xs us Q I r h
  obtain ⟨C, dd, fs, c, cv, b, rfl, rfl, rfl, ed, T, ku, e, q⟩ := h
  obtain ⟨u1, u2, rfl, r1, r2⟩ := vals2 r
  have e2 := ku.eq r2
  subst e2
  obtain rfl : u1 = Value.ref a := r1
  obtain ⟨ha, _⟩ := I.pin (a, oe) (List.mem_append_left _ List.mem_cons_self)
  obtain ⟨vs, hd⟩ := hf
  have hx : ObjOk X.prog X.w H s.heap dd (.xd fs) := I.hok dd _ ed
  obtain ⟨mA, hns, hr⟩ := hx
  obtain ⟨od, ho, hl⟩ := lookIn_ns hns
  have J : PySem.W.InstAt s.heap a oe C (some od) := ⟨ha, hz.1, by unfold PySem.W.notCls; rw [hd] <;> rfl, by rw [hz.2]; exact ho⟩
  exact PySem.W.kia_one (PySem.W.kitx_exc (by obtain ⟨cd, hc, _⟩ := PySem.W.any_some T.dct; rw [hc]; rfl) T.ga T.gg T.exc T.cA T.cN T.cT T.cM) I.kIn J e (fun z => nomatch z) fun tk => ⟨.bl b, H, I.tok tk, rfl, q⟩
end
end L2


namespace Toy
open PySem L2
def top (i : Nat) : Stmt := PySem.Challenge.pw_sieveways_k07_spots_of_filters.main.body.getD i (.Pass ⟨0, 0, 0, 0⟩)
abbrev sBegin : Stmt := top 43
abbrev sDraw : Stmt := top 44
/-! ### the tape -/
def kC : Key := Sum.inr ("cells" : Str)
def kA : Key := Sum.inr ("at" : Str)
def kL : Key := Sum.inr ("left" : Str)
def tp (l : Addr) (a f : Int) : List (Key × V) := [(kC, .ref l), (kA, .int a), (kL, .int f)]
theorem k_ca : ¬ (kC = kA) := by decide +kernel
theorem k_cl : ¬ (kC = kL) := by decide +kernel
theorem k_al : ¬ (kA = kL) := by decide +kernel
theorem k_la : ¬ (kL = kA) := by decide +kernel
theorem tp_cells (l : Addr) (a f : Int) : valV (tp l a f) kC = some (.ref l) := by
  unfold tp
  rw [valV_pos rfl]
theorem tp_at (l : Addr) (a f : Int) : valV (tp l a f) kA = some (.int a) := by
  unfold tp
  rw [valV_neg k_ca, valV_pos rfl]
theorem tp_left (l : Addr) (a f : Int) : valV (tp l a f) kL = some (.int f) := by
  unfold tp
  rw [valV_neg k_cl, valV_neg k_al, valV_pos rfl]
theorem put_at (l : Addr) (a f b : Int) : putK (tp l a f) kA (.int b) = tp l b f := by
  unfold tp putK
  rw [if_pos (by simp)]
  simp only [List.map_cons, List.map_nil]
  rw [if_neg k_ca, if_pos trivial, if_neg k_la]
theorem put_left (l : Addr) (a f b : Int) : putK (tp l a f) kL (.int b) = tp l a b := by
  unfold tp putK
  rw [if_pos (by simp)]
  simp only [List.map_cons, List.map_nil]
  rw [if_neg k_cl, if_neg k_al, if_pos trivial]
section
variable {H : Hp} {d l : Addr} {a f : Int} (h : H d = some (.dK (tp l a f)))
include h
theorem get_cells : DGet H d (.str ("cells" : Str)) (some (.ref l)) := by
  have z := DGet.k (k := kC) h
  rw [tp_cells] at z
  exact z
theorem get_at : DGet H d (.str ("at" : Str)) (some (.int a)) := by
  have z := DGet.k (k := kA) h
  rw [tp_at] at z
  exact z
theorem get_left : DGet H d (.str ("left" : Str)) (some (.int f)) := by
  have z := DGet.k (k := kL) h
  rw [tp_left] at z
  exact z
theorem set_at (b : Int) : DPut H d (.str ("at" : Str)) (.int b) (upd H d (.dK (tp l b f))) := by
  have z := DPut.k (k := kA) (v := .int b) h (by show 3 < sizeLine; decide)
  rw [put_at] at z
  exact z
theorem set_left (b : Int) : DPut H d (.str ("left" : Str)) (.int b) (upd H d (.dK (tp l a b))) := by
  have z := DPut.k (k := kL) (v := .int b) h (by show 3 < sizeLine; decide)
  rw [put_left] at z
  exact z
end
/-- at d a tape, of which at most n draws were made -/
def Tape (H : Hp) (d l : Addr) (n : Nat) : Prop := ∃ (ns : List Int) (a f : Int), H d = some (.dK (tp l a f)) ∧ H l = some (.lst (ns.map V.int)) ∧ ns ≠ [] ∧ ns.length ≤ 1000 ∧ 0 ≤ a ∧ a ≤ n
/-- all that stood stands, but at d -/
def But (d : Addr) (H H' : Hp) : Prop := ∀ b o, b ≠ d → H b = some o → H' b = some o
theorem But.refl {d : Addr} {H : Hp} : But d H H := fun _ _ _ e => e
theorem But.trans {d : Addr} {H H1 H2 : Hp} (a : But d H H1) (b : But d H1 H2) : But d H H2 := fun x o n e => b x o n (a x o n e)
theorem But.upd {d : Addr} {H H1 : Hp} {u : HO} (a : But d H H1) : But d H (upd H1 d u) := fun x o n e => by
  rw [upd_ne n]
  exact a x o n e
theorem But.new {d p : Addr} {H H1 : Hp} {u : HO} (a : But d H H1) (hp : H1 p = none) : But d H (L2.upd H1 p u) := fun x o n e => by
  rw [upd_ne (ne_of_none (a x o n e) hp)]
  exact a x o n e
def spDraw : Sp := fun vs H Q _ => ∃ (d l : Addr) (n : Nat) (m : Int), vs = [.ref d, .int m] ∧ Tape H d l n ∧ n ≤ 1000000 ∧ 0 < m ∧ m < 1000000 ∧
  ∀ H' r, But d H H' → Tape H' d l (n + 1) → 0 ≤ r → r < m → Q (.int r) H'
section
variable {P : Program} {w : World} {K : PySem.W.Frag} {mg : Str → Option Value} {base : Heap}
theorem scD : FnScope ["_law_tape", "_law_many", "_law_turn", "_law_size", "_law_cell", "_law_got"] ["_law_tape", "_law_many"] (defScope sDraw) := ⟨rfl, rfl, rfl, by decide +kernel, rfl, by decide +kernel, by decide +kernel⟩
theorem ok_draw {f : Addr} {fd : FuncData} (F : Fun K "_law_draw" "_law_draw" sDraw f fd) (mLen : mg "len" = none) (mInt : mg "int" = none) : FnOk P w K mg base CX0 1 f fd ["_law_tape", "_law_many"] spDraw := by
  refine F.ok scD (fun vs H Q E h => ?_) (fun cdv A outer s H vs Q E hr h => ?_)
  · obtain ⟨d, l, n, m, rfl, _⟩ := h
    rfl
  · obtain ⟨d, l, n, m, rfl, ⟨ns, a, f, hd, hl, hne, hlen, a0, an⟩, hn, m0, m1, q⟩ := h
    have hu := hu_of hr
    refine ⟨_, pss_cons (ps_if (pt_cmpR op_lt (pe_dget hu (pv 0) pe_str (fun _ _ => rfl)) (pv 1) (nomark _))
      (pss_cons (ps_par (i := 2) (j := 3) rfl scD.nd rfl rfl (by decide) rfl rfl (pa_cons (pe_dget hu (pv 0) pe_str (fun _ _ => rfl)) (pa_cons (pe_callB call_len_seq (by rfl) mLen PySem.boot_len (pa_cons (pe_dget hu (pv 0) pe_str (fun _ _ => rfl)) pa_nil)) pa_nil)) (by rfl))
      (pss_cons (ps_asg (pe_tup (pa_cons (pe_ix ix_list (pe_dget hu (pv 0) pe_str (fun _ _ => rfl)) (pe_op op_mod (pe_callTy call_int1 (by rfl) mInt (by decide +kernel) (pa_cons (pv 2) pa_nil)) (pv 3)) (fun _ _ => rfl)) (pa_cons (pe_op op_add (pv 2) pe_int) pa_nil)))
          (pg_tup rfl (pgs_cons (pg_name (i := 4) scD.nd rfl (.inl rfl)) (pgs_cons (pg_sub (pv 0) pe_str (set_dict hu)) pgs_nil))))
      (pss_cons (ps_dput hu (pv 0) pe_str (pe_op op_mod (pe_callTy call_int1 (by rfl) mInt (by decide +kernel) (pa_cons (pe_op op_pow (pe_op op_add (pe_op op_add (pe_op op_mod (pe_callTy call_int1 (by rfl) mInt (by decide +kernel) (pa_cons (pv 4) pa_nil)) pe_int) (pe_op op_mul pe_int (pv 2))) pe_int) pe_int) pa_nil)) (pe_op op_add (pe_op op_pow pe_int pe_int) pe_int)) rfl)
      (pss_one (ps_if (PW.pt (pw_and (pt_cmpR op_ge (pv 4) (pe_op op_pow pe_int pe_int) (nomark _)) (pw_and1 (pt_cmpR op_lt (pv 2) (pv 3) (nomark _)))))
        (pss_one (ps_dput hu (pv 0) pe_str (pe_op op_sub (pv 4) (pe_op op_pow pe_int pe_int)) rfl)) pss_nil)))))
      pss_nil)
      (pss_cons (ps_asg (pe_tup (pa_cons (pe_op op_mod (pe_callTy call_int1 (by rfl) mInt (by decide +kernel) (pa_cons (pe_dget hu (pv 0) pe_str (fun _ _ => rfl)) pa_nil)) (pv 1)) (pa_cons (pe_op op_fdivW (pe_dget hu (pv 0) pe_str (fun _ _ => rfl)) (pv 1)) pa_nil)))
          (pg_tup rfl (pgs_cons (pg_name (i := 5) scD.nd rfl (.inl rfl)) (pgs_cons (pg_sub (pv 0) pe_str (set_dict hu)) pgs_nil))))
      (pss_one (ps_ret (pv 5)))), ?_⟩
    refine ⟨_, rfl, d, _, rfl, get_left hd, _, rfl, _, _, rfl, rfl, _, rfl, ?_⟩
    refine ite2 (fun c => ?_) (fun c => ?_)
    · have e0 : ((ns.map V.int).length : Int) = (ns.length : Int) := by rw [List.length_map]
      have lp : 0 < ns.length := List.length_pos_iff.mpr hne
      obtain ⟨j, hj, ej⟩ : ∃ j : Nat, j < ns.length ∧ a % ((ns.map V.int).length : Int) = (j : Int) := by
        rw [e0]
        have h1 : 0 ≤ a % (ns.length : Int) := Int.emod_nonneg a (by omega)
        have h2 : a % (ns.length : Int) < (ns.length : Int) := Int.emod_lt_of_pos a (by omega)
        exact ⟨(a % (ns.length : Int)).toNat, by omega, by omega⟩
      have hat : atI (ns.map V.int) (j : Int) = some (.int ns[j]) := atI_nat (by rw [List.getElem?_map, List.getElem?_eq_getElem hj]; rfl)
      refine ⟨_, rfl, d, _, rfl, get_at hd, _, rfl, d, _, rfl, get_cells hd, l, _, rfl, .inl (SqL.of hl), _, _, rfl, ?_⟩
      refine ⟨_, rfl, d, _, rfl, get_cells hd, _, rfl, .inl ⟨_, rfl, _, rfl, _, _, rfl, rfl, (by show 0 < ((ns.map V.int).length : Int); omega), ?_⟩⟩
      refine ⟨l, _, _, .int ns[j], rfl, rfl, SqL.of hl, (by rw [ej]; exact hat), _, rfl, _, _, rfl, rfl, (by show 2 ≤ sizeLine; decide), fun t nt => ?_⟩
      have ndt : d ≠ t := ne_of_none hd nt
      have nlt : l ≠ t := ne_of_none hl nt
      have nld : l ≠ d := ne_of hl hd (by intro z; cases z)
      refine ⟨t, _, rfl, SqT.of upd_same, rfl, _, _, rfl, _, _, rfl, _, rfl, d, _, rfl, set_at (by rw [upd_ne ndt]; exact hd) _, rfl, ?_⟩
      generalize hcell : ns[j] = cell
      have h63 : 0 ≤ cell % 2147483563 := Int.emod_nonneg _ (by decide)
      have h64 : cell % 2147483563 < 2147483563 := Int.emod_lt_of_pos _ (by decide)
      refine ⟨_, rfl, .inl ⟨_, rfl, _, _, rfl, rfl, (by show (0 : Int) < 2147483563; decide), _, rfl, _, _, rfl, rfl, (.inl ⟨by decide, by decide⟩), _, _, rfl, rfl, _, _, rfl, rfl, _, _, rfl, rfl, ⟨by decide, by decide, by omega⟩, .inl ⟨_, rfl, _, _, rfl, rfl, ⟨by decide, by decide, by decide⟩, _, _, rfl, rfl, _, _, rfl, rfl, (by show (0 : Int) < 10 ^ 50 + 151; decide), ?_⟩⟩⟩
      refine ⟨_, rfl, d, _, rfl, set_left upd_same _, ?_⟩
      refine ⟨_, rfl, _, _, rfl, rfl, ⟨by decide, by decide, by decide⟩, _, _, rfl, rfl, _, rfl, ?_⟩
      refine ite2 (fun c1 => ?_) (fun c1 => ?_)
      · refine ⟨_, rfl, _, rfl, _, _, rfl, rfl, _, rfl, ?_⟩
        refine ite2 (fun c2 => ?_) (fun c2 => ?_)
        · refine ⟨_, rfl, _, _, rfl, rfl, ⟨by decide, by decide, by decide⟩, _, _, rfl, rfl, _, rfl, d, _, rfl, set_left upd_same _, ?_⟩
          refine ⟨_, rfl, d, _, rfl, get_left upd_same, .inl ⟨_, rfl, _, rfl, _, _, rfl, rfl, m0, _, rfl, d, _, rfl, get_left upd_same, _, rfl, _, _, rfl, rfl, wide_div (b := 64) m0 (by omega) (by decide) (by decide), (by show 2 ≤ sizeLine; decide), fun t2 nt2 => ?_⟩⟩
          have ndt2 : d ≠ t2 := ne_of_none upd_same nt2
          refine ⟨t2, _, rfl, SqT.of upd_same, rfl, _, _, rfl, _, _, rfl, _, rfl, d, _, rfl, set_left (by rw [upd_ne ndt2]; exact upd_same) _, rfl, _, rfl, q _ _ ((((But.refl : But d H H).new nt).upd.upd.upd).new nt2).upd ?_ (Int.emod_nonneg _ (by omega)) (Int.emod_lt_of_pos _ m0)⟩
          have nlt2 : l ≠ t2 := ne_of_none (by rw [upd_ne nld, upd_ne nld, upd_ne nld, upd_ne nlt]; exact hl) nt2
          exact ⟨ns, a + 1, _, upd_same, by rw [upd_ne nld, upd_ne nlt2, upd_ne nld, upd_ne nld, upd_ne nld, upd_ne nlt]; exact hl, hne, hlen, by omega, by push_cast; omega⟩
        · refine ⟨_, rfl, d, _, rfl, get_left upd_same, .inl ⟨_, rfl, _, rfl, _, _, rfl, rfl, m0, _, rfl, d, _, rfl, get_left upd_same, _, rfl, _, _, rfl, rfl, wide_div (b := 64) m0 (by omega) (by decide) (by decide), (by show 2 ≤ sizeLine; decide), fun t2 nt2 => ?_⟩⟩
          have ndt2 : d ≠ t2 := ne_of_none upd_same nt2
          refine ⟨t2, _, rfl, SqT.of upd_same, rfl, _, _, rfl, _, _, rfl, _, rfl, d, _, rfl, set_left (by rw [upd_ne ndt2]; exact upd_same) _, rfl, _, rfl, q _ _ ((((But.refl : But d H H).new nt).upd.upd).new nt2).upd ?_ (Int.emod_nonneg _ (by omega)) (Int.emod_lt_of_pos _ m0)⟩
          have nlt2 : l ≠ t2 := ne_of_none (by rw [upd_ne nld, upd_ne nld, upd_ne nlt]; exact hl) nt2
          exact ⟨ns, a + 1, _, upd_same, by rw [upd_ne nld, upd_ne nlt2, upd_ne nld, upd_ne nld, upd_ne nlt]; exact hl, hne, hlen, by omega, by push_cast; omega⟩
      · refine iteF ?_
        refine ⟨_, rfl, d, _, rfl, get_left upd_same, .inl ⟨_, rfl, _, rfl, _, _, rfl, rfl, m0, _, rfl, d, _, rfl, get_left upd_same, _, rfl, _, _, rfl, rfl, wide_div (b := 64) m0 (by omega) (by decide) (by decide), (by show 2 ≤ sizeLine; decide), fun t2 nt2 => ?_⟩⟩
        have ndt2 : d ≠ t2 := ne_of_none upd_same nt2
        refine ⟨t2, _, rfl, SqT.of upd_same, rfl, _, _, rfl, _, _, rfl, _, rfl, d, _, rfl, set_left (by rw [upd_ne ndt2]; exact upd_same) _, rfl, _, rfl, q _ _ ((((But.refl : But d H H).new nt).upd.upd).new nt2).upd ?_ (Int.emod_nonneg _ (by omega)) (Int.emod_lt_of_pos _ m0)⟩
        have nlt2 : l ≠ t2 := ne_of_none (by rw [upd_ne nld, upd_ne nld, upd_ne nlt]; exact hl) nt2
        exact ⟨ns, a + 1, _, upd_same, by rw [upd_ne nld, upd_ne nlt2, upd_ne nld, upd_ne nld, upd_ne nlt]; exact hl, hne, hlen, by omega, by push_cast; omega⟩
    · refine ⟨_, rfl, d, _, rfl, get_left hd, .inl ⟨_, rfl, _, rfl, _, _, rfl, rfl, m0, _, rfl, d, _, rfl, get_left hd, _, rfl, _, _, rfl, rfl, wide_div (b := 64) m0 (by omega) (by decide) (by decide), (by show 2 ≤ sizeLine; decide), fun t nt => ?_⟩⟩
      have ndt : d ≠ t := ne_of_none hd nt
      refine ⟨t, _, rfl, SqT.of upd_same, rfl, _, _, rfl, _, _, rfl, _, rfl, d, _, rfl, set_left (by rw [upd_ne ndt]; exact hd) _, rfl, _, rfl, q _ _ (((But.refl : But d H H)).new nt).upd ?_ (Int.emod_nonneg _ (by omega)) (Int.emod_lt_of_pos _ m0)⟩
      exact ⟨ns, a, _, upd_same, by rw [upd_ne (ne_of hl hd (by intro z; cases z)), upd_ne (ne_of_none hl nt)]; exact hl, hne, hlen, by omega, by push_cast; omega⟩
end
end Toy


namespace Toy
open PySem L2
section
variable {P : Program} {w : World} {K : PySem.W.Frag} {mg : Str → Option Value} {base : Heap}
theorem cut63 (ns : List Int) (h : ns.length ≤ 63) : cutV (ns.map V.int) none (some 63) = ns.map V.int := by
  unfold cutV
  rw [show HT.sIx (ns.map V.int).length (ns.map V.int).length (some 63) = min 63 (ns.map V.int).length from HT.sIx_nat _ _ 63, HT.sIx_none, List.length_map, show min 63 ns.length = ns.length by omega, List.drop_zero, Nat.sub_zero]
  exact List.take_of_length_le (by rw [List.length_map]; exact Nat.le_refl _)
theorem merge_tp (l : Addr) : mergeK [] [(kC, V.ref l), (kA, V.int 0), (kL, V.int 0)] = tp l 0 0 := by
  unfold mergeK
  simp only [List.foldl_cons, List.foldl_nil]
  unfold putK
  simp [k_ca, k_cl, k_al]
  rfl
def spBegin (K : PySem.W.Frag) : Sp := fun vs H Q _ => ∃ (a : Addr) (ns : List Int), vs = [.ref a] ∧ SqL K H a (ns.map V.int) ∧ ns.length ≤ 63 ∧ ∀ H' d l, Same H H' → H d = none → H l = none → l ≠ d → Tape H' d l 0 → Q (.ref d) H'
theorem scB : FnScope ["_law_script"] ["_law_script"] (defScope sBegin) := ⟨rfl, rfl, rfl, by decide +kernel, rfl, by decide +kernel, by decide +kernel⟩
theorem same_new {H H1 : Hp} {p : Addr} {u : HO} (a : Same H H1) (hp : H1 p = none) : Same H (upd H1 p u) := fun x o e => by
  rw [upd_ne (ne_of_none (a x o e) hp)]
  exact a x o e
theorem ok_begin {f : Addr} {fd : FuncData} (F : Fun K "_law_begin" "_law_begin" sBegin f fd) : FnOk P w K mg base CX0 1 f fd ["_law_script"] (spBegin K) := by
  refine F.ok scB (fun vs H Q E h => ?_) (fun cdv A outer s H vs Q E hr h => ?_)
  · obtain ⟨a, ns, rfl, _⟩ := h
    rfl
  · obtain ⟨a, ns, rfl, hS, hlen, q⟩ := h
    refine ⟨_, pss_one (ps_ret (pe_disp (pps_cons pe_str (pe_orT (pe_slice sl_list (pv 0) po_none (po_some pe_int)) (pe_one (pe_lst (pa_cons pe_int pa_nil)))) (pps_cons pe_str pe_int (pps_cons pe_str pe_int pps_nil))) (by rfl) (by rfl) (fun z => by cases z) (by decide))), ?_⟩
    intro p np
    have s1 : Same H (upd H p (.dK [])) := same_new (fun _ _ e => e) np
    refine ⟨_, rfl, 63, rfl, a, _, rfl, s1.seq hS, fun c nc => ?_⟩
    have npc : p ≠ c := ne_of_none upd_same nc
    refine ⟨_, .inl ⟨_, SqL.of upd_same, rfl⟩, ?_⟩
    have fin : ∀ (H2 : Hp) (l : Addr) (ms : List Int), H l = none → Same (upd H p (.dK [])) H2 → H2 l = some (.lst (ms.map V.int)) → ms ≠ [] → ms.length ≤ 1000 → Q (.ref p) (upd H2 p (.dK (mergeK [] [(kC, V.ref l), (kA, V.int 0), (kL, V.int 0)]))) := by
      intro H2 l ms nl s2 hl h1 h2
      have npl : l ≠ p := ne_of hl (s2 _ _ upd_same) (by intro z; cases z)
      rw [merge_tp]
      refine q _ p l (fun b o e => ?_) np nl npl ⟨ms, 0, 0, upd_same, by rw [upd_ne npl]; exact hl, h1, h2, Int.le_refl _, Int.le_refl _⟩
      rw [upd_ne (ne_of_none e np)]
      exact s2 _ _ (s1 _ _ e)
    refine ite2 (fun c1 => ?_) (fun c1 => ?_)
    · refine ⟨Eq.trans (upd_ne npc) upd_same, [(kC, V.ref c), (kA, V.int 0), (kL, V.int 0)], rfl, (by show 3 ≤ 15; decide), fin _ c ns (by rw [upd_ne npc.symm] at nc; exact nc) (same_new (fun _ _ e => e) nc) (by rw [upd_same, cut63 ns hlen]) ?_ (by omega)⟩
      intro z
      rw [z] at c1
      exact Bool.false_ne_true c1
    · refine ⟨(by show 1 ≤ sizeLine; decide), fun e ne => ?_⟩
      have npe : p ≠ e := ne_of_none (Eq.trans (upd_ne npc) upd_same) ne
      refine ⟨Eq.trans (upd_ne npe) (Eq.trans (upd_ne npc) upd_same), [(kC, V.ref e), (kA, V.int 0), (kL, V.int 0)], rfl, (by show 3 ≤ 15; decide), fin _ e [0] (by rw [upd_ne (ne_of_none upd_same ne).symm, upd_ne npe.symm] at ne; exact ne) (same_new (same_new (fun _ _ e => e) nc) ne) upd_same (by decide) (by decide)⟩
end
end Toy


namespace L2
open PySem PySem.Spec PyProof.Rows
/-! The law's own def, run by its caller alone (so that what runs around it is known: repr asks that). -/
/-- the body of the law, in the caller's surroundings -/
def BodyOk (P : Program) (w : World) (K : PySem.W.Frag) (mg : Str → Option Value) (base : Heap) (k : Nat) (N : List Str) (qual : Str) (sc : Scope) (body : List Stmt) (f : Addr) (sp : Sp) : Prop :=
  ∀ (cdv : Value) (s : Shared) (H : Hp) (vs : List V) (Q : VK) (E : XK), Room k (callerA.deeper (envOfC qual sc s.heap.objs.size f cdv)) → sp vs H Q E →
    ∃ t, PSs (cxOf CX0 P w K mg base N qual sc f cdv callerA [] s H E) body t ∧ t { nx := fun _ H' => Q .non H', rt := Q } (start N vs) H
section
variable {P : Program} {w : World} {K : PySem.W.Frag} {mg : Str → Option Value} {base : Heap} {k : Nat} {f : Addr} {x qual : Str} {params : Arguments} {body : List Stmt} {sc : Scope} {N ps : List Str} {sp : Sp} {fd : FuncData}
theorem body_run (F : FunD K x qual params body sc [] [] f fd) (S : FnScope N ps sc) (B : BodyOk P w K mg base k N qual sc body f sp) {s : Shared} {H : Hp} {args : Args} {us : List Value} {vs : List V} {Q : VK} {E : XK} (hr : Room (k + 1) callerA)
    (e0 : Env0 P w K mg base callerA [] s H) (hb : BindsTo s fd args (ps.zip us)) (r : Vals vs us) (hl : vs.length = ps.length) (h : sp vs H Q E) : codeAny (model P w) callerA (.call (.ref f) args) (CR CX0 [] P w H s Q E) s := by
  obtain ⟨oc, od, dV, kV, doc, pm, an, cdv, ct, osl, rfl, lk, hcd, _, _⟩ := F.ex
  have up : ∀ b o, base.get? b = some o → s.heap.get? b = some o := fun b o e => (e0.bs b o e).1
  have KX : K.In s.heap := e0.mod.kin.keeps up
  have kinds : ∀ y ∈ ps.zip us, sc.names.lookup y.1 = some .local ∨ (sc.names.lookup y.1 = some .cell ∧ ((cellsFrom (s.heap.objs.size + 1) sc.names []).lookup y.1).isSome = true) := by
    rintro ⟨n, v⟩ hy
    exact (S.par n (List.of_mem_zip hy).1).imp id fun q => ⟨q, PySem.W.cellsFrom_some _ _ _ (.inl q)⟩
  refine codeAny_call_function hr.depth (KX _ _ lk) rfl S.co S.gen rfl (PySem.W.codeRec_of KX hcd) (hb _ _ _ _ (wpAny_newFunctionEnv_cells S.kind kinds fun env he s1 x => ?_))
  subst he
  obtain ⟨t, ht, hq⟩ := B cdv s H vs Q E (hr.deeper _) h
  refine ⟨(e0.mod.nolimit.keeps up).keeps x.toInCall.keep, codeAny_func (wpAny_mono (ht.run [] s1 (start N vs) H _ (inv_start S hr.hd e0 hl r x) hq) (fun fl s' hs => ?_) fun e s' hs => hs)⟩
  cases fl with
  | ret u =>
    obtain ⟨v, σ', H', J, rv, q⟩ := hs
    exact ⟨v, H', J.os, J.bare, J.base, J.hok, rv, q⟩
  | next =>
    obtain ⟨σ', H', J, q⟩ := hs
    exact ⟨V.non, H', J.os, J.bare, J.base, J.hok, rfl, q⟩
  | brk =>
    obtain ⟨_, _, _, q⟩ := hs
    exact False.elim q
  | cont =>
    obtain ⟨_, _, _, q⟩ := hs
    exact False.elim q
end
end L2
namespace L2
open PySem PySem.Spec PyProof.Rows
section
variable {P : Program} {w : World} {K : PySem.W.Frag} {mg mb : Str → Option Value} {k : Nat} {a fa : Addr} {x qual nm : Str} {params : Arguments} {body : List Stmt} {sc : Scope} {N : List Str} {sp : Sp} {fd : FuncData} {s : Shared} {vs : List Value} {ns : List Int}
/-- where the abstract heap tracks the script alone (or nothing) -/
theorem ground_of {H : Hp} (KX : K.In s.heap) (g : s.heap.Ns mainGlobals mg) (b : s.heap.Ns builtinsNs mb) (bb : ∀ x : Str, x ≠ "__name__" → mb x = bootBuiltins x) (lim : s.heap.NoLimit) (gen : s.gens = #[])
    (ha : s.heap.get? a = some { cls := .type "list", data := .seq vs.toArray }) (hok : HOk P w H s.heap) (only : ∀ c, H c ≠ none → c = a) (out : H a ≠ none → K.lookup a = none) :
    ∃ base : Heap, K.In base ∧ base.Ns mainGlobals mg ∧ Env0 P w K mg base callerA [] s H := by
  have get : ∀ {c : Addr} {o : Obj}, s.heap.get? c = some o → H c = none → (hidT s.heap H).get? c = some o := fun e n => hidT_get e n
  have tab : ∀ {c : Addr} {m : Str → Option Value}, s.heap.Ns c m → (hidT s.heap H).Ns c m := by
    rintro c m ⟨o, es, ep, e, d, r⟩
    refine ⟨o, es, ep, get e (Classical.byContradiction fun q => ?_), d, r⟩
    have ca := only c q
    subst ca
    rw [ha] at e
    cases e
    cases (show Data.seq vs.toArray _ = Data.dict es ep from d)
  have kin : K.In (hidT s.heap H) := fun c o e => get (KX c o e) (Classical.byContradiction fun q => by
    have ca := only c q
    subst ca
    rw [out q] at e
    cases e)
  obtain ⟨mc, l1, l2⟩ := lim
  exact ⟨hidT s.heap H, kin, tab g, rfl, ⟨kin, tab g, ⟨mb, tab b, bb⟩, mc, tab l1, l2⟩, fun c o e => of_hidT e, Nat.le_of_eq (hidT_size _ _), trivial, (fun c hc => nomatch hc), hok, .of_eq gen⟩
theorem law_run (F : FunD K nm qual params body sc [] [] fa fd) (S : FnScope N [x] sc) (B : ∀ base : Heap, K.In base → base.Ns mainGlobals mg → BodyOk P w K mg base k N qual sc body fa sp) (hb : ∀ (s : Shared) (u : Value), BindsTo s fd ⟨[u], []⟩ [(x, u)]) (hr : Room (k + 1) callerA)
    (hsp : ∀ H : Hp, SqL K H a (ns.map V.int) → sp [.ref a] H (fun v _ => v = .bl true) fun _ _ _ => False)
    (KX : K.In s.heap) (g : s.heap.Ns mainGlobals mg) (b : s.heap.Ns builtinsNs mb) (bb : ∀ x : Str, x ≠ "__name__" → mb x = bootBuiltins x) (lim : s.heap.NoLimit) (gen : s.gens = #[])
    (ha : s.heap.get? a = some { cls := .type "list", data := .seq vs.toArray }) (hi : IntsAre vs ns) (hl : ns.length ≤ sizeLine) :
    codeAny (model P w) callerA (.call (.ref fa) ⟨[.ref a], []⟩) (fun r s' => r = .ok (.ret (.bool true)) ∧ OldK s.heap s'.heap ∧ s'.os = s.os ∧ AllBare s'.gens) s := by
  have run : ∀ H : Hp, SqL K H a (ns.map V.int) → HOk P w H s.heap → (∀ c, H c ≠ none → c = a) → (H a ≠ none → K.lookup a = none) → (∀ c u, H c = some u → ∃ o xs, u = .frz o (.lst xs)) →
      codeAny (model P w) callerA (.call (.ref fa) ⟨[.ref a], []⟩) (fun r s' => r = .ok (.ret (.bool true)) ∧ OldK s.heap s'.heap ∧ s'.os = s.os ∧ AllBare s'.gens) s := by
    intro H hS hok only out frz
    obtain ⟨base, k1, k2, e0⟩ := ground_of KX g b bb lim gen ha hok only out
    refine codeAny_mono (body_run (us := [.ref a]) (vs := [.ref a]) F S (B base k1 k2) hr e0 (hb s (.ref a)) (.cons rfl .nil) rfl (hsp H hS)) fun r s' q => ?_
    cases r with
    | error e => exact False.elim q
    | ok fl =>
      cases fl with
      | next => exact False.elim q
      | brk => exact False.elim q
      | cont => exact False.elim q
      | ret u =>
        obtain ⟨v, H', os, bare, un, hok', rv, ev⟩ := q
        have ev' : v = .bl true := ev
        subst ev'
        obtain rfl : u = Value.bool true := rv
        refine ⟨rfl, OldK.of_keep fun c o e => ?_, os, bare⟩
        cases q : H c with
        | none => exact un.keep c o e q (fun z => nomatch z) (fun z => nomatch z)
        | some u =>
          obtain ⟨ob, xs, rfl⟩ := frz c u q
          obtain ⟨e1, _⟩ := hok c _ q
          obtain ⟨e2, _⟩ := hok' c _ (un.frzs c ob _ q)
          rw [e] at e1
          cases e1
          exact e2
  have rv := vals_ints hi
  cases hk : K.lookup a with
  | some o =>
    have e := KX a o hk
    rw [ha] at e
    cases e
    exact run (fun _ => none) (.inr ⟨_, vs.toArray, _, hk, rfl, rfl, rfl, by rw [List.size_toArray, hi.length]; exact hl, by simpa using rv⟩) (fun c u z => nomatch z) (fun c z => absurd rfl z) (fun z => absurd rfl z) fun c u z => nomatch z
  | none =>
    refine run (fun c => if c = a then some (.frz { cls := .type "list", data := .seq vs.toArray } (.lst (ns.map V.int))) else none) (.inl (.inr ⟨{ cls := .type "list", data := .seq vs.toArray }, if_pos rfl⟩)) (fun c u z => ?_)
      (fun c z => Classical.byContradiction fun q => z (if_neg q)) (fun _ => hk) fun c u z => ?_
    · by_cases hc : c = a
      · have z' := (if_pos hc).symm.trans z
        cases z'
        subst hc
        exact ⟨ha, by rw [List.length_map]; exact hl, vs, _, rv, ha⟩
      · cases (if_neg hc).symm.trans z
    · by_cases hc : c = a
      · cases (if_pos hc).symm.trans z
        exact ⟨_, _, rfl⟩
      · cases (if_neg hc).symm.trans z
end
/-- the end -/
theorem walkG {l : PySem.W.OpenLaw} {n k : Nat} {q : Program} {loose : List Str} {XP : (Str → Option Value) → Heap → Prop} {YP : World → Heap → Prop} {d : DefRec} {x : Str} (hn : l.most = some n) (hn2 : n ≤ sizeLine) (hdf : d.params.defaults = []) (hr : Room (k + 1) callerA)
    (F : ∀ (w : World) (mg : Str → Option Value) (fa : Addr) (h : Heap), YP w h → h.Ns mainGlobals mg → mg d.name = some (.ref fa) →
      ∃ (K : PySem.W.Frag) (fd : FuncData) (nm qual : Str) (params : Arguments) (body : List Stmt) (sc : Scope) (N : List Str) (sp : Sp), K.In h ∧ FunD K nm qual params body sc [] [] fa fd ∧ FnScope N [x] sc ∧ (∀ (s : Shared) (u : Value), BindsTo s fd ⟨[u], []⟩ [(x, u)]) ∧
        (∀ (H : Hp) (a : Addr) (ns : List Int), ns.length ≤ n → SqL K H a (ns.map V.int) → sp [.ref a] H (fun v _ => v = .bl true) fun _ _ _ => False) ∧
        ∀ base : Heap, K.In base → base.Ns mainGlobals mg → BodyOk l.prog w K mg base k N qual sc body fa sp) :
    PySem.W.WalkO q loose XP YP l.row.toRowW d [] (fun f vs => PySem.call f vs) := by
  refine Att.attach_call hn hdf fun w s₀ s₁ mg mb fa o pm cd doc a vs ns G Y ho hd hcd hmg hobj hints hlen hg => ?_
  obtain ⟨K, fd, nm, qual, params, body, sc, N, sp, KX, FD, S, hb, hsp, B⟩ := F w mg fa _ Y G.T.g hmg
  exact law_run FD S B hb hr (fun H hS => hsp H a ns hlen hS) KX G.T.g G.T.b G.T.builtins G.T.nolimit hg hobj hints (Nat.le_trans hlen hn2)
end L2


namespace Toy
open PySem L2
theorem Same.delH {H H' : Hp} (s : Same H H') (z : Addr) : Same (L2.delH H z) (L2.delH H' z) := fun b o e => by
  by_cases h : b = z
  · rw [h, delH_same] at e
    cases e
  · rw [delH_ne h] at e ⊢
    exact s b o e
theorem Same.off {H : Hp} (z : Addr) : Same (L2.delH H z) H := fun b o e => by
  by_cases h : b = z
  · rw [h, delH_same] at e
    cases e
  · rw [delH_ne h] at e
    exact e
theorem But.off {H H' : Hp} {z : Addr} (s : But z H H') : Same (L2.delH H z) (L2.delH H' z) := fun b o e => by
  by_cases h : b = z
  · rw [h, delH_same] at e
    cases e
  · rw [delH_ne h] at e ⊢
    exact s b o h e
theorem Same.but {H H' : Hp} (s : Same H H') (z : Addr) : But z H H' := fun b o _ e => s b o e
theorem few {n : Nat} (h : n ≤ 1000) : n ≤ sizeLine := Nat.le_of_lt (small1000 h)
theorem Tape.same {H H' : Hp} {d l : Addr} {n : Nat} (t : Tape H d l n) (s : Same H H') : Tape H' d l n := by
  obtain ⟨ns, a, f, h1, h2, h3⟩ := t
  exact ⟨ns, a, f, s _ _ h1, s _ _ h2, h3⟩
abbrev partOf (st : Stmt) (i : Nat) : Stmt := (defBody st).getD i (.Pass ⟨0, 0, 0, 0⟩)
end Toy


namespace Toy
open PySem L2 PyProof.Rows
theorem dpStrs {K : PySem.W.Frag} {H : Hp} : ∀ ks : List Str, DpAll K H (ks.map V.str) (ks.map PyData.str)
  | [] => .nil
  | k :: ks => .cons (.str k) (dpStrs ks)
theorem layStrs : ∀ {ks : List Str}, (∀ k ∈ ks, PyData.strOk k = true) → PyData.canLayAll0 (ks.map PyData.str) = true
  | [], _ => by simp [PyData.canLayAll0]
  | k :: ks, h => by
    simp only [List.map_cons, PyData.canLayAll0, PyData.canLay0]
    rw [h k List.mem_cons_self, layStrs fun x hx => h x (List.mem_cons_of_mem _ hx)]
    rfl
theorem depthStrs : ∀ ks : List Str, PyData.depthAll (ks.map PyData.str) ≤ 1
  | [] => by simp [PyData.depthAll]
  | k :: ks => by
    have := depthStrs ks
    simp only [List.map_cons, PyData.depthAll, PyData.depth]
    omega
theorem shapedStrs {ks : List Str} (h : ∀ k ∈ ks, PyData.strOk k = true) : SeqAt.shaped (.list (ks.map PyData.str)) = true := by
  unfold SeqAt.shaped
  have z := depthStrs ks
  rw [show (PyData.list (ks.map PyData.str)).canLay0 = true by simp only [PyData.canLay0]; exact layStrs h, Bool.true_and]
  exact decide_eq_true (by simp only [PyData.depth]; omega)
theorem Tape.at {H : Hp} {d l : Addr} {n : Nat} (t : Tape H d l n) : (∃ o, H d = some o) ∧ ∃ o, H l = some o := by
  obtain ⟨ns, a, f, h1, h2, _⟩ := t
  exact ⟨⟨_, h1⟩, _, h2⟩
theorem Tape.upd {H : Hp} {d l p : Addr} {n : Nat} {u : HO} (t : Tape H d l n) (h1 : d ≠ p) (h2 : l ≠ p) : Tape (L2.upd H p u) d l n := by
  obtain ⟨ns, a, f, e1, e2, e3⟩ := t
  exact ⟨ns, a, f, by rw [upd_ne h1]; exact e1, by rw [upd_ne h2]; exact e2, e3⟩
theorem nodup_fst_put {kvs : List (Key × V)} {k : Key} {v : V} (h : k ∉ kvs.map (·.1)) : putK kvs k v = kvs ++ [(k, v)] := by
  unfold putK
  rw [if_neg]
  simpa using h
theorem merge_new : ∀ (more kvs : List (Key × V)), ((kvs ++ more).map (·.1)).Nodup → mergeK kvs more = kvs ++ more
  | [], kvs, _ => by simp [mergeK]
  | p :: more, kvs, h => by
    have e : mergeK kvs (p :: more) = mergeK (putK kvs p.1 p.2) more := by simp [mergeK]
    have hp : p.1 ∉ kvs.map (·.1) := by
      rw [List.map_append, List.nodup_append] at h
      intro z
      exact h.2.2 _ z _ (by simp) rfl
    rw [e, nodup_fst_put hp, merge_new more (kvs ++ [(p.1, p.2)]) (by simpa using h)]
    simp
theorem same_put {H H1 : Hp} {D : Addr} {u : HO} (s : Same H H1) (n : H D = none) : Same H (upd H1 D u) := fun b o e => by
  rw [upd_ne (ne_of_none e n)]
  exact s _ _ e
theorem same_id {H : Hp} : Same H H := fun _ _ z => z
theorem Tape.more {H : Hp} {d l : Addr} {n m : Nat} (t : Tape H d l n) (h : n ≤ m) : Tape H d l m := by
  obtain ⟨ns, a, f, h1, h2, h3, h4, h5, h6⟩ := t
  exact ⟨ns, a, f, h1, h2, h3, h4, h5, by omega⟩
abbrev sPick : Stmt := top 45
def spPick : Sp := fun vs H Q _ => ∃ (d l p : Addr) (n : Nat) (xs : List V), vs = [.ref d, .ref p] ∧ Tape H d l n ∧ n ≤ 1000000 ∧ H p = some (.lst xs) ∧ xs ≠ [] ∧ xs.length < 1000000 ∧
  ∀ H' v, But d H H' → Tape H' d l (n + 1) → v ∈ xs → Q v H'
section
variable {P : Program} {w : World} {K : PySem.W.Frag} {mg : Str → Option Value} {base : Heap}
theorem scP : FnScope ["_law_tape", "_law_items"] ["_law_tape", "_law_items"] (defScope sPick) := ⟨rfl, rfl, rfl, by decide +kernel, rfl, by decide +kernel, by decide +kernel⟩
theorem ok_pick {f fD : Addr} {fd fdD : FuncData} (F : Fun K "_law_pick" "_law_pick" sPick f fd) (GD : FnOk P w K mg base CX0 1 fD fdD ["_law_tape", "_law_many"] spDraw) (mD : mg "_law_draw" = some (.ref fD)) (kD : PySem.W.keepIn K (.ref fD) = true) (bD : Binds K fdD ["_law_tape", "_law_many"] []) (mLen : mg "len" = none) : FnOk P w K mg base CX0 2 f fd ["_law_tape", "_law_items"] spPick := by
  refine F.ok scP (fun vs H Q E h => ?_) (fun cdv A outer s H vs Q E hr h => ?_)
  · obtain ⟨d, l, p, n, xs, rfl, _⟩ := h
    rfl
  · obtain ⟨d, l, p, n, xs, rfl, hT, hn, hp, hne, hlen, q⟩ := h
    refine ⟨_, pss_one (ps_ret (pe_ix ix_list (pv 1) (pe_call GD hr rfl mD kD bD .nil pass0 (pa_cons (pv 0) (pa_cons (pe_callB call_len_seq (by rfl) mLen PySem.boot_len (pa_cons (pv 1) pa_nil)) pa_nil))) (fun _ _ => rfl))), ?_⟩
    have lp : 0 < xs.length := List.length_pos_iff.mpr hne
    refine ⟨_, rfl, _, rfl, _, rfl, p, _, rfl, .inl (SqL.of hp), d, l, n, _, rfl, hT, hn, (by omega), (by omega), fun H1 r hb hT1 r0 r1 => ?_⟩
    have npd : p ≠ d := by
      obtain ⟨ns, a, f, hd, _⟩ := hT
      exact ne_of hp hd (by intro z; cases z)
    obtain ⟨j, ej⟩ : ∃ j : Nat, r = (j : Int) := ⟨r.toNat, by omega⟩
    have hj : j < xs.length := by omega
    refine ⟨p, xs, _, xs[j], rfl, rfl, SqL.of (hb _ _ npd hp), (by rw [ej]; exact atI_nat (List.getElem?_eq_getElem hj)), q _ _ hb hT1 (List.getElem_mem hj)⟩
end
end Toy


namespace Toy
open PySem PySem.Spec L2 PyProof.Rows PySem.W
abbrev sLost : Stmt := top 64
abbrev NLo : List Str := ["_law_call", "e"]
theorem scLo : FnScope NLo ["_law_call"] (defScope sLost) := ⟨rfl, rfl, rfl, by decide +kernel, rfl, by decide +kernel, by decide +kernel⟩
/-- an expression at slots as many as there are names -/
def tLen (n : Nat) (t : TE) : TE := fun σ H Q => σ.length = n → t σ H Q
theorem pe_len {X : Cx} {e : Expr} {t : TE} (n : Nat) (h : PE X e t) (hn : X.N.length = n := by rfl) : PE X e (tLen n t) := ⟨fun pins s σ H Q I z => h.run pins s σ H Q I (z (hn ▸ I.len))⟩
/-- what is known of the class NoSpot -/
structure ClsN (K : PySem.W.Frag) (c : Addr) : Prop where
  g : ClG K c
  x : XfC K c
  no : PySem.W.findIn K (.ref c) "spot" = some none
  mt : PySem.W.exmOne K (.ref c) (.ref c) = some true
  kit : PySem.W.kitOne K (.ref c) (.type "LookupError") = some true
/-- lost(f): f, tried -/
def TTLost (K : PySem.W.Frag) (c : Addr) : (XK → Hp → VK → Prop) → Hp → VK → Prop := fun tl H Q =>
  tl (fun cls d H' => ∃ (dd : Addr) (v : V) (t : PyData), cls = .ref c ∧ d = some dd ∧ H' dd = some (.xd [("spot", v)]) ∧ Shw K H' v t ∧ Q (.str t.shown) H') H (fun _ H' => Q .non H')
section
variable {X : Cx}
theorem lost_gives {q : Str} {g c : Addr} {cdg : Value} (C : ClsN X.K c) (hu : X.A.units + 230 < cLine) (hgd : X.A.guards = some []) (hme : X.mg "NoSpot" = some (.ref c)) (mI : X.mg "isinstance" = none) (mR : X.mg "repr" = none) (mL : X.mg "LookupError" = none) :
    LamX.GivesTo X NLo "_law_lost" (defScope sLost) g cdg (defBody sLost) "_law_call" q (TTLost X.K c) := by
  intro f c' s H Q tl act hc h
  refine ⟨_, pss_cons (ps_try_as (X := (cxOf C8.CX0 X.prog X.w X.K X.mg X.base NLo "_law_lost" (defScope sLost) g cdg X.A X.stack s H C8.E0).nox) (c := .ref c) (i := 1)
      (tb := fun W D σ H => ∃ Ech : XK, (∀ cls d σ' H', Ech cls d H' → W cls d σ' H') ∧ σ[0]? = some (some (.ref f)) ∧ H c' = some (LamX.CodeO c' q) ∧ tl Ech H (fun _ H' => D.nx σ H'))
      rfl rfl scLo.nd rfl rfl ⟨rfl, by decide, .inl hme⟩ LamX.takes0 (fun W pn xe tk _ => ?_)
      (fun a oe cls d pn hz hf => pss_one (ps_ret (pe_ifExp (pt_val (pe_callB (show CallR _ (.builtin "isinstance") (rIsS X.K a cls d) from call_isS hz hf) (by rfl) mI PyProof.Rows.boot_isinstance (pa_cons (pe_len 2 (pv 1)) (pa_cons (pe_bltn (v := .ty "LookupError") (by rfl) mL (by decide +kernel) rfl) pa_nil))))
        (pe_callB (show CallR _ (.builtin "repr") (rRepA X.K) from call_rep (X := ((cxOf C8.CX0 X.prog X.w X.K X.mg X.base NLo "_law_lost" (defScope sLost) g cdg X.A X.stack s H C8.E0).nox).suite a ((a, oe) :: pn)) (by show X.A.units + 3 + 200 < cLine; omega) hgd) (by rfl) mR (by decide +kernel) (pa_cons (pe_xf C.x C.no hz hf (pe_len 2 (pv 1))) pa_nil)) pe_str))))
    (pss_one (ps_ret pe_non)), ?_⟩
  · refine ⟨fun pins s' σ H' D I h' => ?_⟩
    obtain ⟨Ech, hW, h1, h2, h3⟩ := h'
    exact (pss_one (ps_expr (act W pn xe Ech _ _ tk hW))).run pins s' σ H' D I ⟨h1, h2, h3⟩
  · refine ⟨fun cls d H' => ∃ (dd : Addr) (v : V) (t : PyData), cls = .ref c ∧ d = some dd ∧ H' dd = some (.xd [("spot", v)]) ∧ Shw X.K H' v t ∧ Q (.str t.shown) H', fun cls d σ' H' hh => ?_, rfl, hc, h⟩
    obtain ⟨dd, v, t, rfl, rfl, e3, e4, e5⟩ := hh
    have sl : ∀ {a : Addr}, (σ'.set 1 (some (.ref a))).length = 2 → (σ'.set 1 (some (.ref a)))[1]? = some (some (.ref a)) := fun lz => List.getElem?_set_self (by rw [List.length_set] at lz; rw [lz]; decide)
    exact ⟨true, C.mt, fun _ a _ => fun lz => ⟨_, sl lz, c, dd, _, .ty "LookupError", .type "LookupError", true, rfl, rfl, rfl, e3, C.g, .ty _, C.kit, _, rfl, fun lz => ⟨_, sl lz, rfl, rfl, dd, _, v, rfl, e3, rfl, v, t, rfl, e4, e5⟩⟩, fun z => by cases z⟩
end
end Toy


namespace Toy
open PySem PySem.Spec L2 PyProof.Rows PySem.W
/-! ### the forms of filters and tests -/
def formsL0 : List (Str × List Str) := [("same", []), ("field", ["key"]), ("item", ["index"]), ("every", []), ("none", []), ("fail", []), ("pipe", ["filter", "filter"]), ("both", ["filter", "filter"])]
def formsL1 : List (Str × List Str) := [("if", ["test", "filter", "filter"]), ("try", ["walk"]), ("other", ["walk", "filter"]), ("leaf", ["leaf"]), ("list", ["filter"]), ("dict", ["entries"]), ("sum", ["filter", "filter"]), ("less", ["filter", "filter"])]
def formsL2 : List (Str × List Str) := [("product", ["filter", "filter"]), ("alike", ["filter", "filter"]), ("before", ["filter", "filter"]), ("as", ["filter", "free", "filter"]), ("name", ["free"]), ("when", ["filter", "filter", "filter"]), ("catch", ["filter", "filter"]), ("reduce", ["filter", "free", "filter", "filter"])]
def formsL3 : List (Str × List Str) := [("first", ["filter"]), ("take", ["index", "filter"]), ("fails", ["filter"]), ("def", ["free", "parameters", "filter", "filter"]), ("call", ["free", "filters"]), ("places", ["chooser"]), ("change", ["chooser", "filter"]), ("drop", ["chooser"])]
def formsL4 : List (Str × List Str) := [("add", ["chooser", "key", "filter"]), ("append", ["chooser", "filter"]), ("is", ["sort"]), ("equal", ["leaf"]), ("at", ["walk", "test"]), ("and", ["test", "test"]), ("or", ["test", "test"]), ("not", ["test"])]
def formsL : List (Str × List Str) := formsL0 ++ (formsL1 ++ (formsL2 ++ (formsL3 ++ formsL4)))
def formOf (w : Str) : Option (List Str) := formsL.lookup w
def kinds4 : List Str := ["filter", "test", "walk", "chooser"]
def PK (k : Str) : Bool := decide (k ∈ kinds4)
def okK (k : Str) : Bool := (PyData.strOk k && decide (k.length ≤ 1000)) && decide ((PyData.shown (.str k)).length ≤ 40)
theorem okK_1 {k : Str} (h : okK k = true) : PyData.strOk k = true := by
  unfold okK at h
  rw [Bool.and_eq_true, Bool.and_eq_true] at h
  exact h.1.1
theorem okK_2 {k : Str} (h : okK k = true) : k.length ≤ 1000 := by
  unfold okK at h
  rw [Bool.and_eq_true, Bool.and_eq_true] at h
  exact of_decide_eq_true h.1.2
theorem okK_3 {k : Str} (h : okK k = true) : (PyData.shown (.str k)).length ≤ 40 := by
  unfold okK at h
  rw [Bool.and_eq_true, Bool.and_eq_true] at h
  exact of_decide_eq_true h.2
def intS (i : Int) : Bool := decide (i.natAbs.log2 < 1920) && decide ((PyData.shown (.int i)).length ≤ 40)
theorem intS_nat : ∀ n : Fin 10, intS ((n.1 : Nat) : Int) = true := by decide +kernel
theorem intS_small {i : Int} (h : 0 ≤ i) (k : i < 10) : intS i = true := by
  have := intS_nat ⟨i.toNat, by omega⟩
  rw [show ((i.toNat : Nat) : Int) = i by omega] at this
  exact this
def isStrD : PyData → Bool
  | .str x => okK x
  | _ => false
def isIntD : PyData → Bool
  | .int i => intS i
  | _ => false
def isLeafD : PyData → Bool
  | .none => true
  | .bool _ => true
  | .int i => intS i
  | .str x => okK x && decide (37 ∉ x.cps.toList)
  | _ => false
def isEnt (p : PyData → Bool) : PyData → Bool
  | .tuple [.str x, g] => okK x && p g
  | _ => false
def tupAll (p : PyData → Bool) : PyData → Bool
  | .tuple gs => decide (gs.length ≤ 2) && gs.all p
  | _ => false
def fldOk (p : PyData → Bool) (k : Str) (f : PyData) : Bool :=
  if PK k = true then p f else if k = "filters" then tupAll p f else if k = "entries" then tupAll (isEnt p) f else if k = "parameters" then tupAll isStrD f
  else if k = "index" then isIntD f else if k = "leaf" then isLeafD f else isStrD f
def flds (p : PyData → Bool) : List Str → List PyData → Bool
  | [], [] => true
  | k :: ks, f :: fs => fldOk p k f && flds p ks fs
  | _, _ => false
def wf : Nat → PyData → Bool
  | 0, _ => false
  | n + 1, t => match t with
    | .tuple (.str w :: fs) => (match formOf w with
      | some ks => flds (wf n) ks fs
      | none => false)
    | _ => false
theorem all_mono {p q : PyData → Bool} (h : ∀ t, p t = true → q t = true) : ∀ l : List PyData, l.all p = true → l.all q = true := fun l k => List.all_eq_true.mpr fun x hx => h x (List.all_eq_true.mp k x hx)
theorem tupAll_mono {p q : PyData → Bool} (h : ∀ t, p t = true → q t = true) {f : PyData} (k : tupAll p f = true) : tupAll q f = true := by
  unfold tupAll at k ⊢
  split at k
  · rw [Bool.and_eq_true] at k ⊢
    exact ⟨k.1, all_mono h _ k.2⟩
  · cases k
theorem isEnt_mono {p q : PyData → Bool} (h : ∀ t, p t = true → q t = true) {f : PyData} (k : isEnt p f = true) : isEnt q f = true := by
  unfold isEnt at k ⊢
  split at k
  · rw [Bool.and_eq_true] at k ⊢
    exact ⟨k.1, h _ k.2⟩
  · cases k
theorem fld_mono {p q : PyData → Bool} (h : ∀ t, p t = true → q t = true) {k : Str} {f : PyData} (z : fldOk p k f = true) : fldOk q k f = true := by
  unfold fldOk at z ⊢
  split at z
  · rename_i c; rw [if_pos c]; exact h _ z
  · rename_i c; rw [if_neg c]
    split at z
    · rename_i c; rw [if_pos c]; exact tupAll_mono h z
    · rename_i c; rw [if_neg c]
      split at z
      · rename_i c; rw [if_pos c]; exact tupAll_mono (fun t => isEnt_mono h) z
      · rename_i c; rw [if_neg c]; exact z
theorem flds_mono {p q : PyData → Bool} (h : ∀ t, p t = true → q t = true) : ∀ {ks : List Str} {fs : List PyData}, flds p ks fs = true → flds q ks fs = true
  | [], [], _ => rfl
  | k :: ks, f :: fs, z => by
    simp only [flds, Bool.and_eq_true] at z ⊢
    exact ⟨fld_mono h z.1, flds_mono h z.2⟩
  | [], _ :: _, z => by cases z
  | _ :: _, [], z => by cases z
theorem wf_node {n : Nat} {w : Str} {fs : List PyData} {ks : List Str} (hk : formOf w = some ks) (h : flds (wf n) ks fs = true) : wf (n + 1) (.tuple (.str w :: fs)) = true := by
  rw [wf]
  simp only [hk]
  exact h
theorem wf_cases {n : Nat} {t : PyData} (h : wf (n + 1) t = true) : ∃ w fs ks, t = .tuple (.str w :: fs) ∧ formOf w = some ks ∧ flds (wf n) ks fs = true := by
  cases t with
  | tuple l =>
    cases l with
    | nil => simp [wf] at h
    | cons a fs =>
      cases a with
      | str w =>
        rw [wf] at h
        cases hk : formOf w with
        | none => simp only [hk] at h; exact absurd h Bool.false_ne_true
        | some ks =>
          simp only [hk] at h
          exact ⟨w, fs, ks, rfl, hk, h⟩
      | _ => simp [wf] at h
  | _ => simp [wf] at h
theorem wf_succ : ∀ {n : Nat} {t : PyData}, wf n t = true → wf (n + 1) t = true
  | 0, _, h => by cases h
  | n + 1, t, h => by
    obtain ⟨w, fs, ks, rfl, hk, hf⟩ := wf_cases h
    exact wf_node hk (flds_mono (fun t => wf_succ) hf)
theorem wf_mono {n m : Nat} {t : PyData} (h : wf n t = true) (k : n ≤ m) : wf m t = true := by
  induction k with
  | refl => exact h
  | step _ ih => exact wf_succ ih
theorem flds_len {p : PyData → Bool} : ∀ {ks : List Str} {fs : List PyData}, flds p ks fs = true → ks.length = fs.length
  | [], [], _ => rfl
  | k :: ks, f :: fs, z => by
    simp only [flds, Bool.and_eq_true] at z
    rw [List.length_cons, List.length_cons, flds_len z.2]
  | [], _ :: _, z => by cases z
  | _ :: _, [], z => by cases z
/-! ### terms on the heap -/
theorem same_seqT {K : PySem.W.Frag} {H H' : Hp} {a : Addr} {xs : List V} (e : Same H H') (h : SqT K H a xs) : SqT K H' a xs := by
  rcases h with (h | ⟨o, h⟩) | h
  · exact .inl (.inl (e _ _ h))
  · exact .inl (.inr ⟨o, e _ _ h⟩)
  · exact .inr h
mutual
theorem dpM {K : PySem.W.Frag} {H H' : Hp} (s : Same H H') : ∀ {v : V} {d : PyData}, Dp K H v d → Dp K H' v d
  | _, _, .non => .non
  | _, _, .bl b => .bl b
  | _, _, .int i => .int i
  | _, _, .str x => .str x
  | _, _, .lst h a => .lst (s.seq h) (dpAllM s a)
  | _, _, .tup h a => .tup (same_seqT s h) (dpAllM s a)
theorem dpAllM {K : PySem.W.Frag} {H H' : Hp} (s : Same H H') : ∀ {vs : List V} {ds : List PyData}, DpAll K H vs ds → DpAll K H' vs ds
  | _, _, .nil => .nil
  | _, _, .cons a b => .cons (dpM s a) (dpAllM s b)
end
/-- a filter or test, of at most n levels, off the tape -/
def Fv (K : PySem.W.Frag) (d : Addr) (H : Hp) (n : Nat) (v : V) : Prop := ∃ t, Dp K (delH H d) v t ∧ wf n t = true
theorem Fv.but {K : PySem.W.Frag} {d : Addr} {H H' : Hp} {n : Nat} {v : V} (h : Fv K d H n v) (b : But d H H') : Fv K d H' n v := by
  obtain ⟨t, h1, h2⟩ := h
  exact ⟨t, dpM (But.off b) h1, h2⟩
theorem Fv.mono {K : PySem.W.Frag} {d : Addr} {H : Hp} {n m : Nat} {v : V} (h : Fv K d H n v) (k : n ≤ m) : Fv K d H m v := by
  obtain ⟨t, h1, h2⟩ := h
  exact ⟨t, h1, wf_mono h2 k⟩
/-- fields of a form -/
def Fa (K : PySem.W.Frag) (d : Addr) (H : Hp) (n : Nat) (vs : List V) (ks : List Str) : Prop := ∃ fs, DpAll K (delH H d) vs fs ∧ flds (wf n) ks fs = true
section
variable {K : PySem.W.Frag} {d : Addr} {H : Hp} {n : Nat} {v : V} {vs : List V} {k : Str} {ks : List Str}
theorem fa_nil : Fa K d H n [] [] := ⟨[], .nil, rfl⟩
theorem fa_part (h : Fv K d H n v) (r : Fa K d H n vs ks) (hk : PK k = true) : Fa K d H n (v :: vs) (k :: ks) := by
  obtain ⟨t, h1, h2⟩ := h
  obtain ⟨fs, r1, r2⟩ := r
  refine ⟨t :: fs, .cons h1 r1, ?_⟩
  simp only [flds, Bool.and_eq_true]
  refine ⟨?_, r2⟩
  unfold fldOk
  rw [if_pos hk]
  exact h2
theorem fa_any {f : PyData} (h : Dp K (delH H d) v f) (ho : fldOk (wf n) k f = true) (r : Fa K d H n vs ks) : Fa K d H n (v :: vs) (k :: ks) := by
  obtain ⟨fs, r1, r2⟩ := r
  refine ⟨f :: fs, .cons h r1, ?_⟩
  simp only [flds, Bool.and_eq_true]
  exact ⟨ho, r2⟩
theorem mkF {w : Str} {T : Addr} (hd : ∃ o, H d = some o) (nT : H T = none) (hk : formOf w = some ks) (hf : Fa K d H n vs ks) : Fv K d (upd H T (.tup (.str w :: vs))) (n + 1) (.ref T) := by
  obtain ⟨fs, h1, h2⟩ := hf
  obtain ⟨o, ho⟩ := hd
  have nTd : T ≠ d := (ne_of_none ho nT).symm
  have s : Same (delH H d) (delH (upd H T (.tup (.str w :: vs))) d) := Same.delH (same_new same_id nT) d
  refine ⟨.tuple (.str w :: fs), .tup (SqT.of ((delH_ne nTd).trans upd_same)) (.cons (.str w) (dpAllM s h1)), ?_⟩
  exact wf_node hk h2
end
theorem pk_f : PK "filter" = true := by decide +kernel
theorem pk_t : PK "test" = true := by decide +kernel
theorem pk_w : PK "walk" = true := by decide +kernel
theorem pk_c : PK "chooser" = true := by decide +kernel
theorem fld_str {p : PyData → Bool} {x : Str} (h : okK x = true) (k : Str) (hk : k = "key" ∨ k = "free" ∨ k = "sort") : fldOk p k (.str x) = true := by
  rcases hk with rfl | rfl | rfl
  · rw [fldOk, if_neg (by decide +kernel), if_neg (by decide +kernel), if_neg (by decide +kernel), if_neg (by decide +kernel), if_neg (by decide +kernel), if_neg (by decide +kernel)]
    exact h
  · rw [fldOk, if_neg (by decide +kernel), if_neg (by decide +kernel), if_neg (by decide +kernel), if_neg (by decide +kernel), if_neg (by decide +kernel), if_neg (by decide +kernel)]
    exact h
  · rw [fldOk, if_neg (by decide +kernel), if_neg (by decide +kernel), if_neg (by decide +kernel), if_neg (by decide +kernel), if_neg (by decide +kernel), if_neg (by decide +kernel)]
    exact h
theorem fld_int {p : PyData → Bool} {i : Int} (h : intS i = true) : fldOk p "index" (.int i) = true := by
  rw [fldOk, if_neg (by decide +kernel), if_neg (by decide +kernel), if_neg (by decide +kernel), if_neg (by decide +kernel), if_pos rfl]
  exact h
theorem fld_leaf {p : PyData → Bool} {f : PyData} (h : isLeafD f = true) : fldOk p "leaf" f = true := by
  rw [fldOk, if_neg (by decide +kernel), if_neg (by decide +kernel), if_neg (by decide +kernel), if_neg (by decide +kernel), if_neg (by decide +kernel), if_pos rfl]
  exact h
theorem fld_filters {p : PyData → Bool} {f : PyData} (h : tupAll p f = true) : fldOk p "filters" f = true := by
  rw [fldOk, if_neg (by decide +kernel), if_pos rfl]
  exact h
theorem fld_entries {p : PyData → Bool} {f : PyData} (h : tupAll (isEnt p) f = true) : fldOk p "entries" f = true := by
  rw [fldOk, if_neg (by decide +kernel), if_neg (by decide +kernel), if_pos rfl]
  exact h
theorem fld_params {p : PyData → Bool} {f : PyData} (h : tupAll isStrD f = true) : fldOk p "parameters" f = true := by
  rw [fldOk, if_neg (by decide +kernel), if_neg (by decide +kernel), if_neg (by decide +kernel), if_pos rfl]
  exact h
end Toy


namespace Toy
open PySem PySem.Spec L2 PyProof.Rows PySem.W
theorem dpAll_len {K : PySem.W.Frag} {H : Hp} : ∀ {vs : List V} {ds : List PyData}, DpAll K H vs ds → vs.length = ds.length
  | _, _, .nil => rfl
  | _, _, .cons _ t => congrArg Nat.succ (dpAll_len t)
theorem asg_run {te : TE} {g : TG} {rest : TS} {D : Ends} {σ : L2.St} {H : Hp} (h : te σ H fun x H1 => g x σ H1 fun σ2 H2 => rest D σ2 H2) : tSeq (tAsg te g) rest D σ H := h
theorem ret_run {te : TE} {D : Ends} {σ : L2.St} {H : Hp} (h : te σ H D.rt) : tRet te D σ H := h
/-! ### drawn things: what an expression draws, and what it gives -/
def Stb (d : Addr) (J : Hp → Prop) : Prop := ∀ H H', But d H H' → J H → J H'
def Dr (d l : Addr) (J : Hp → Prop) (te : TE) (σ : L2.St) (m : Nat) (R : Hp → V → Prop) : Prop := ∀ (H : Hp) (n : Nat) (Q : VK), J H → Tape H d l n → n + m ≤ 900000 → (∀ H' v, But d H H' → Tape H' d l (n + m) → R H' v → Q v H') → te σ H Q
def DrA (d l : Addr) (J : Hp → Prop) (ta : TA) (σ : L2.St) (m : Nat) (R : Hp → List V → Prop) : Prop := ∀ (H : Hp) (n : Nat) (Q : List V → Hp → Prop), J H → Tape H d l n → n + m ≤ 900000 → (∀ H' vs, But d H H' → Tape H' d l (n + m) → R H' vs → Q vs H') → ta σ H Q
def IsW (H : Hp) (v : V) : Prop := ∃ x, v = .str x ∧ okK x = true
def IsWk (k : List Str) (H : Hp) (v : V) : Prop := ∃ x, v = .str x ∧ formOf x = some k
section
variable {K : PySem.W.Frag} {d l : Addr} {J : Hp → Prop} {σ : L2.St} {te : TE} {ta : TA} {m m' n : Nat} {R R' : Hp → V → Prop} {RA : Hp → List V → Prop} {k : Str} {ks : List Str}
theorem Dr.mono (h : Dr d l J te σ m R) (k : ∀ H v, R H v → R' H v) (hm : m ≤ m') : Dr d l J te σ m' R' := fun H n Q j t b q => h H n Q j t (by omega) fun H' v b t r => q H' v b (t.more (by omega)) (k _ _ r)
theorem DrA.mono {RB : Hp → List V → Prop} (h : DrA d l J ta σ m RA) (k : ∀ H v, RA H v → RB H v) (hm : m ≤ m') : DrA d l J ta σ m' RB := fun H n Q j t b q => h H n Q j t (by omega) fun H' v b t r => q H' v b (t.more (by omega)) (k _ _ r)
theorem dr_const {c : V} (h : ∀ H, R H c) : Dr d l J (tC c) σ 0 R := fun H n Q _ t _ q => q H c (fun _ _ _ z => z) t (h H)
theorem dr_var {i : Nat} {v : V} (hi : σ[i]? = some (some v)) (h : ∀ H, J H → R H v) : Dr d l J (tVar i) σ 0 R := fun H n Q j t _ q => ⟨v, hi, q H v (fun _ _ _ z => z) t (h H j)⟩
theorem dra_nil (h : ∀ H, RA H []) : DrA d l J tNil σ 0 RA := fun H n Q _ t _ q => q H [] (fun _ _ _ z => z) t (h H)
theorem dra_cons {RB : Hp → List V → Prop} (sj : Stb d J) (h : Dr d l J te σ m R) (r : DrA d l J ta σ m' RA) (st : ∀ H H' v, But d H H' → R H v → R H' v) (hc : ∀ H v vs, R H v → RA H vs → RB H (v :: vs)) : DrA d l J (tCons te ta) σ (m + m') RB :=
  fun H n Q j t b q => h H n _ j t (by omega) fun H1 v b1 t1 r1 => r H1 (n + m) _ (sj _ _ b1 j) t1 (by omega) fun H2 vs b2 t2 r2 => q H2 (v :: vs) (b1.trans b2) (t2.more (by omega)) (hc _ _ _ (st _ _ _ b2 r1) r2)
/-! fields of a form -/
theorem daf_nil : DrA d l J tNil σ 0 (fun H vs => Fa K d H n vs []) := dra_nil fun _ => fa_nil
theorem daf_part (sj : Stb d J) (h : Dr d l J te σ m (fun H v => Fv K d H n v)) (r : DrA d l J ta σ m' (fun H vs => Fa K d H n vs ks)) (hk : PK k = true) : DrA d l J (tCons te ta) σ (m + m') (fun H vs => Fa K d H n vs (k :: ks)) :=
  dra_cons sj h r (fun _ _ _ b z => z.but b) fun _ _ _ a b => fa_part a b hk
theorem daf_str (sj : Stb d J) (h : Dr d l J te σ m IsW) (r : DrA d l J ta σ m' (fun H vs => Fa K d H n vs ks)) (hk : k = "key" ∨ k = "free" ∨ k = "sort") : DrA d l J (tCons te ta) σ (m + m') (fun H vs => Fa K d H n vs (k :: ks)) :=
  dra_cons sj h r (fun _ _ _ _ z => z) fun _ _ _ a b => by
    obtain ⟨x, rfl, hx⟩ := a
    exact fa_any (.str x) (fld_str hx k hk) b
theorem daf_int (sj : Stb d J) (h : Dr d l J te σ m (fun _ v => ∃ i, v = .int i ∧ intS i = true)) (r : DrA d l J ta σ m' (fun H vs => Fa K d H n vs ks)) : DrA d l J (tCons te ta) σ (m + m') (fun H vs => Fa K d H n vs ("index" :: ks)) :=
  dra_cons sj h r (fun _ _ _ _ z => z) fun _ _ _ a b => by
    obtain ⟨i, rfl, hi⟩ := a
    exact fa_any (.int i) (fld_int hi) b
theorem daf_any (sj : Stb d J) {F : PyData → Bool} (h : Dr d l J te σ m (fun H v => ∃ f, Dp K (delH H d) v f ∧ F f = true)) (r : DrA d l J ta σ m' (fun H vs => Fa K d H n vs ks)) (hk : ∀ f, F f = true → fldOk (wf n) k f = true) : DrA d l J (tCons te ta) σ (m + m') (fun H vs => Fa K d H n vs (k :: ks)) :=
  dra_cons sj h r (fun _ _ _ b ⟨f, z1, z2⟩ => ⟨f, dpM (But.off b) z1, z2⟩) fun _ _ _ ⟨f, a1, a2⟩ b => fa_any a1 (hk _ a2) b
/-- a tuple whose word is drawn -/
theorem dr_nodeW (sj : Stb d J) (h : Dr d l J te σ m (IsWk ks)) (r : DrA d l J ta σ m' (fun H vs => Fa K d H n vs ks)) (hl : ks.length ≤ 20) : Dr d l J (tTup (tCons te ta)) σ (m + m') (fun H v => Fv K d H (n + 1) v) :=
  fun H N Q j t b q => h H N _ j t (by omega) fun H1 v b1 t1 r1 => r H1 (N + m) _ (sj _ _ b1 j) t1 (by omega) fun H2 vs b2 t2 r2 => by
    obtain ⟨x, rfl, hx⟩ := r1
    have hl2 : vs.length ≤ 20 := by
      obtain ⟨fs, z1, z2⟩ := r2
      have e1 := flds_len z2
      have e2 : vs.length = fs.length := by
        exact dpAll_len z1
      omega
    refine ⟨few (by simp only [List.length_cons]; omega), fun T nT => ?_⟩
    have hd := t2.at.1
    obtain ⟨o, ho⟩ := hd
    refine q _ (.ref T) ((b1.trans b2).new nT) ?_ (mkF ⟨o, ho⟩ nT hx r2)
    have t3 : Tape H2 d l (N + (m + m')) := t2.more (by omega)
    exact t3.same (same_new same_id nT)
theorem dr_node {w : Str} (sj : Stb d J) (r : DrA d l J ta σ m (fun H vs => Fa K d H n vs ks)) (hk : formOf w = some ks) (hl : ks.length ≤ 20) : Dr d l J (tTup (tCons (tC (.str w)) ta)) σ m (fun H v => Fv K d H (n + 1) v) :=
  (dr_nodeW (m := 0) sj (dr_const fun _ => ⟨w, rfl, hk⟩) r hl).mono (fun _ _ z => z) (by omega)
/-! lists -/
def AllR (c : Nat) (R : Hp → V → Prop) (H : Hp) (vs : List V) : Prop := vs.length = c ∧ ∀ v ∈ vs, R H v
theorem dal_nil : DrA d l J tNil σ 0 (AllR 0 R) := dra_nil fun _ => ⟨rfl, fun v h => by simp at h⟩
theorem dal_cons {c : Nat} (sj : Stb d J) (sr : ∀ H H' v, But d H H' → R H v → R H' v) (h : Dr d l J te σ m R) (r : DrA d l J ta σ m' (AllR c R)) : DrA d l J (tCons te ta) σ (m + m') (AllR (c + 1) R) :=
  dra_cons sj h r sr fun _ _ _ a b => ⟨by rw [List.length_cons, b.1], fun v hv => by
    rcases List.mem_cons.mp hv with rfl | hv
    · exact a
    · exact b.2 v hv⟩
end
section
variable {P : Program} {w : World} {K : PySem.W.Frag} {mg : Str → Option Value} {base : Heap} {d l : Addr} {J : Hp → Prop} {σ : L2.St} {te : TE} {ta : TA} {m c : Nat} {R : Hp → V → Prop}
/-- a pick of a display -/
theorem dr_pick (sj : Stb d J) (h0 : σ[0]? = some (some (.ref d))) (sr : ∀ H H' v, But d H H' → R H v → R H' v) (r : DrA d l J ta σ m (AllR c R)) (hc : 0 < c ∧ c ≤ 100) : Dr d l J (tCall spPick [] E0 (tCons (tVar 0) (tCons (tLst ta) tNil))) σ (m + 1) R :=
  fun H n Q j t b q => ⟨_, h0, r H n _ j t (by omega) fun H1 vs b1 t1 ⟨hl, r1⟩ => ⟨few (by omega), fun T nT => by
    have s : Same H1 (upd H1 T (.lst vs)) := same_new same_id nT
    refine ⟨d, l, T, n + m, vs, rfl, t1.same s, by omega, upd_same, fun e => by rw [e] at hl; simp at hl; omega, by omega, fun H2 v b2 t2 hv => ?_⟩
    exact q H2 v ((b1.trans (Same.but s d)).trans b2) t2 (sr _ _ _ b2 (sr _ _ _ (Same.but s d) (r1 v hv)))⟩⟩
/-- a pick of a list that stands at a slot, and of a display put behind it -/
theorem dr_pick2 {i : Nat} {p : Addr} {xs : List V} (sj : Stb d J) (h0 : σ[0]? = some (some (.ref d))) (hi : σ[i]? = some (some (.ref p))) (hp : ∀ H, J H → H p = some (.lst xs) ∧ ∀ v ∈ xs, R H v) (sr : ∀ H H' v, But d H H' → R H v → R H' v) (r : DrA d l J ta σ m (AllR c R)) (hc : 0 < c ∧ c + xs.length ≤ 100) : Dr d l J (tCall spPick [] E0 (tCons (tVar 0) (tCons (tOp rCat (tVar i) (tLst ta)) tNil))) σ (m + 1) R :=
  fun H n Q j t b q => ⟨_, h0, ⟨_, hi, r H n _ j t (by omega) fun H1 vs b1 t1 ⟨hl, r1⟩ => ⟨few (by omega), fun T nT => by
    have s : Same H1 (upd H1 T (.lst vs)) := same_new same_id nT
    have j1 := sj _ _ b1 j
    obtain ⟨hp1, hr1⟩ := hp _ j1
    refine ⟨p, T, xs, vs, rfl, rfl, s _ _ hp1, upd_same, few (by omega), fun L nL => ?_⟩
    have s2 : Same H1 (upd (upd H1 T (.lst vs)) L (.lst (xs ++ vs))) := same_new s nL
    refine ⟨d, l, L, n + m, xs ++ vs, rfl, t1.same s2, by omega, upd_same, fun e => ?_, by rw [List.length_append]; omega, fun H2 v b2 t2 hv => ?_⟩
    · have := congrArg List.length e
      simp only [List.length_append, List.length_nil] at this
      omega
    · refine q H2 v ((b1.trans (Same.but s2 d)).trans b2) t2 (sr _ _ _ b2 (sr _ _ _ (Same.but s2 d) ?_))
      rcases List.mem_append.mp hv with z | z
      · exact hr1 v z
      · exact r1 v z⟩⟩⟩
/-- a new list -/
theorem lst_run (sr : ∀ H H' v, But d H H' → R H v → R H' v) (r : DrA d l J ta σ m (AllR c R)) (hc : c ≤ 100) {H : Hp} {n : Nat} {Q : VK} (j : J H) (t : Tape H d l n) (b : n + m ≤ 900000)
    (q : ∀ H' L vs, But d H H' → Tape H' d l (n + m) → L ≠ d → H' L = some (.lst vs) → AllR c R H' vs → Q (.ref L) H') : tLst ta σ H Q :=
  r H n _ j t b fun H1 vs b1 t1 r1 => ⟨few (by have := r1.1; omega), fun L nL => by
    have sL : Same H1 (upd H1 L (.lst vs)) := same_new same_id nL
    have nLd : L ≠ d := by
      obtain ⟨o, ho⟩ := t1.at.1
      exact (ne_of_none ho nL).symm
    exact q _ L vs (b1.trans (Same.but sL d)) (t1.same sL) nLd upd_same ⟨r1.1, fun v hv => sr _ _ _ (Same.but sL d) (r1.2 v hv)⟩⟩
/-- a draw of a number -/
theorem dr_draw {c : Int} (h0 : σ[0]? = some (some (.ref d))) (hc : 0 < c ∧ c < 1000) : Dr d l J (tCall spDraw [] E0 (tCons (tVar 0) (tCons (tC (.int c)) tNil))) σ 1 (fun _ v => ∃ i, v = .int i ∧ 0 ≤ i ∧ i < c) :=
  fun H n Q j t b q => ⟨_, h0, d, l, n, c, rfl, t, by omega, hc.1, by omega, fun H1 r b1 t1 r0 r1 => q H1 _ b1 t1 ⟨r, rfl, r0, r1⟩⟩
/-- a key of the list at a slot -/
theorem dr_key {i : Nat} {p : Addr} {ks : List Str} (h0 : σ[0]? = some (some (.ref d))) (hi : σ[i]? = some (some (.ref p))) (hp : ∀ H, J H → H p = some (.lst (ks.map V.str))) (hk : ks ≠ [] ∧ ks.length ≤ 100 ∧ ∀ k ∈ ks, okK k = true) : Dr d l J (tCall spPick [] E0 (tCons (tVar 0) (tCons (tVar i) tNil))) σ 1 IsW :=
  fun H n Q j t b q => ⟨_, h0, _, hi, d, l, p, n, _, rfl, t, by omega, hp _ j, fun e => hk.1 (List.map_eq_nil_iff.mp e), by rw [List.length_map]; omega, fun H1 v b1 t1 hv => by
    obtain ⟨x, hx, rfl⟩ := List.mem_map.mp hv
    exact q H1 _ b1 t1 ⟨x, rfl, hk.2.2 x hx⟩⟩
end
end Toy


namespace Toy
open PySem PySem.Spec L2 PyProof.Rows PySem.W
abbrev sLeaf : Stmt := top 47
abbrev sStep : Stmt := top 49
abbrev sTest : Stmt := top 48
abbrev sWalk : Stmt := top 50
theorem fo_same : formOf "same" = some ([] : List Str) := by decide +kernel
theorem fo_field : formOf "field" = some (["key"] : List Str) := by decide +kernel
theorem fo_item : formOf "item" = some (["index"] : List Str) := by decide +kernel
theorem fo_every : formOf "every" = some ([] : List Str) := by decide +kernel
theorem fo_none : formOf "none" = some ([] : List Str) := by decide +kernel
theorem fo_fail : formOf "fail" = some ([] : List Str) := by decide +kernel
theorem fo_pipe : formOf "pipe" = some (["filter", "filter"] : List Str) := by decide +kernel
theorem fo_both : formOf "both" = some (["filter", "filter"] : List Str) := by decide +kernel
theorem fo_if : formOf "if" = some (["test", "filter", "filter"] : List Str) := by decide +kernel
theorem fo_try : formOf "try" = some (["walk"] : List Str) := by decide +kernel
theorem fo_other : formOf "other" = some (["walk", "filter"] : List Str) := by decide +kernel
theorem fo_leaf : formOf "leaf" = some (["leaf"] : List Str) := by decide +kernel
theorem fo_list : formOf "list" = some (["filter"] : List Str) := by decide +kernel
theorem fo_dict : formOf "dict" = some (["entries"] : List Str) := by decide +kernel
theorem fo_sum : formOf "sum" = some (["filter", "filter"] : List Str) := by decide +kernel
theorem fo_less : formOf "less" = some (["filter", "filter"] : List Str) := by decide +kernel
theorem fo_product : formOf "product" = some (["filter", "filter"] : List Str) := by decide +kernel
theorem fo_alike : formOf "alike" = some (["filter", "filter"] : List Str) := by decide +kernel
theorem fo_before : formOf "before" = some (["filter", "filter"] : List Str) := by decide +kernel
theorem fo_as : formOf "as" = some (["filter", "free", "filter"] : List Str) := by decide +kernel
theorem fo_name : formOf "name" = some (["free"] : List Str) := by decide +kernel
theorem fo_when : formOf "when" = some (["filter", "filter", "filter"] : List Str) := by decide +kernel
theorem fo_catch : formOf "catch" = some (["filter", "filter"] : List Str) := by decide +kernel
theorem fo_reduce : formOf "reduce" = some (["filter", "free", "filter", "filter"] : List Str) := by decide +kernel
theorem fo_first : formOf "first" = some (["filter"] : List Str) := by decide +kernel
theorem fo_take : formOf "take" = some (["index", "filter"] : List Str) := by decide +kernel
theorem fo_fails : formOf "fails" = some (["filter"] : List Str) := by decide +kernel
theorem fo_def : formOf "def" = some (["free", "parameters", "filter", "filter"] : List Str) := by decide +kernel
theorem fo_call : formOf "call" = some (["free", "filters"] : List Str) := by decide +kernel
theorem fo_places : formOf "places" = some (["chooser"] : List Str) := by decide +kernel
theorem fo_change : formOf "change" = some (["chooser", "filter"] : List Str) := by decide +kernel
theorem fo_drop : formOf "drop" = some (["chooser"] : List Str) := by decide +kernel
theorem fo_add : formOf "add" = some (["chooser", "key", "filter"] : List Str) := by decide +kernel
theorem fo_append : formOf "append" = some (["chooser", "filter"] : List Str) := by decide +kernel
theorem fo_is : formOf "is" = some (["sort"] : List Str) := by decide +kernel
theorem fo_equal : formOf "equal" = some (["leaf"] : List Str) := by decide +kernel
theorem fo_at : formOf "at" = some (["walk", "test"] : List Str) := by decide +kernel
theorem fo_and : formOf "and" = some (["test", "test"] : List Str) := by decide +kernel
theorem fo_or : formOf "or" = some (["test", "test"] : List Str) := by decide +kernel
theorem fo_not : formOf "not" = some (["test"] : List Str) := by decide +kernel
def leafVs : List V := [.non, .bl false, .bl true, .int 0, .int 1, .int 0, .int 1, .int (-1), .int 2, .int (-2), .int (10 ^ 30), .str "", .str "a", .str "b", .str "ab", .str "it's", .non, .int 1]
def spLeaf : Sp := fun vs H Q _ => ∃ (d l : Addr) (n : Nat), vs = [.ref d] ∧ Tape H d l n ∧ n ≤ 1000000 ∧ ∀ H' v, But d H H' → Tape H' d l (n + 1) → v ∈ leafVs → Q v H'
section
variable {P : Program} {w : World} {K : PySem.W.Frag} {mg : Str → Option Value} {base : Heap}
theorem scLf : FnScope ["_law_tape"] ["_law_tape"] (defScope sLeaf) := ⟨rfl, rfl, rfl, by decide +kernel, rfl, by decide +kernel, by decide +kernel⟩
theorem ok_leaf {f fP : Addr} {fd fdP : FuncData} (F : Fun K "_law_leaf" "_law_leaf" sLeaf f fd) (GP : FnOk P w K mg base CX0 2 fP fdP ["_law_tape", "_law_items"] spPick) (mP : mg "_law_pick" = some (.ref fP)) (kP : PySem.W.keepIn K (.ref fP) = true) (bP : Binds K fdP ["_law_tape", "_law_items"] []) :
    FnOk P w K mg base CX0 3 f fd ["_law_tape"] spLeaf := by
  refine F.ok scLf (fun vs H Q E h => ?_) (fun cdv A outer s H vs Q E hr h => ?_)
  · obtain ⟨d, l, n, rfl, _⟩ := h
    rfl
  · obtain ⟨d, l, n, rfl, hT, hn, q⟩ := h
    refine ⟨_, pss_one (ps_ret (pe_call GP hr (by rfl) mP kP bP .nil pass0 (pa_cons (pv 0) (pa_cons (pe_lst (pa_cons pe_non (pa_cons pe_bl (pa_cons pe_bl (pa_cons pe_int (pa_cons pe_int (pa_cons pe_int (pa_cons pe_int
      (pa_cons (pe_un un_neg pe_int) (pa_cons pe_int (pa_cons (pe_un un_neg pe_int) (pa_cons (pe_op op_pow pe_int pe_int) (pa_cons pe_str (pa_cons pe_str (pa_cons pe_str (pa_cons pe_str (pa_cons pe_str (pa_cons pe_non (pa_cons pe_int pa_nil))))))))))))))))))) pa_nil)))), ?_⟩
    refine ⟨_, rfl, _, rfl, _, rfl, _, _, rfl, rfl, ⟨by decide, by decide, by decide⟩, few (by show 18 ≤ 1000; decide), fun p np => ?_⟩
    obtain ⟨hd, hl⟩ : (∃ o, H d = some o) ∧ ∃ o, H l = some o := by
      obtain ⟨ns, a, f, h1, h2, _⟩ := hT
      exact ⟨⟨_, h1⟩, _, h2⟩
    refine ⟨d, l, p, n, leafVs, rfl, hT.same (same_new (fun _ _ z => z) np), hn, upd_same, (by intro z; cases z), (by show 18 < 1000000; decide), fun H' v b t m => q H' v (fun x o n e => b x o n ((same_new (fun _ _ z => z) np) x o e)) t m⟩
end

def leafP : V → PyData
  | .bl b => .bool b
  | .int i => .int i
  | .str x => .str x
  | _ => .none
theorem leaf_ok {K : PySem.W.Frag} {v : V} (h : v ∈ leafVs) (H : Hp) : ∃ f, Dp K H v f ∧ isLeafD f = true := by
  unfold leafVs at h
  simp only [List.mem_cons, List.not_mem_nil, or_false] at h
  rcases h with rfl | rfl | rfl | rfl | rfl | rfl | rfl | rfl | rfl | rfl | rfl | rfl | rfl | rfl | rfl | rfl | rfl | rfl
  all_goals first | exact ⟨_, .non, by decide +kernel⟩ | exact ⟨_, .bl _, by decide +kernel⟩ | exact ⟨_, .int _, by decide +kernel⟩ | exact ⟨_, .str _, by decide +kernel⟩
/-- keys that are handed on -/
def KeysOk (ks : List Str) : Prop := ks ≠ [] ∧ ks.length ≤ 100 ∧ ∀ k ∈ ks, okK k = true
section
variable {d l : Addr} {J : Hp → Prop} {σ : L2.St}
theorem dr_leaf {K : PySem.W.Frag} (h0 : σ[0]? = some (some (.ref d))) : Dr d l J (tCall spLeaf [] E0 (tCons (tVar 0) tNil)) σ 1 (fun H v => ∃ f, Dp K (delH H d) v f ∧ isLeafD f = true) :=
  fun H n Q j t b q => ⟨_, h0, d, l, n, rfl, t, by omega, fun H1 v b1 t1 hv => q H1 v b1 t1 (leaf_ok hv _)⟩
theorem fv_st {K : PySem.W.Frag} {n : Nat} : ∀ H H' v, But d H H' → Fv K d H n v → Fv K d H' n v := fun _ _ _ b z => z.but b
end
theorem stb_list {d p : Addr} {xs : List V} (h : p ≠ d) : Stb d (fun H => H p = some (.lst xs)) := fun H H' b z => b _ _ h z
def spStep (K : PySem.W.Frag) : Sp := fun vs H Q _ => ∃ (d l p : Addr) (n : Nat) (ks : List Str), vs = [.ref d, .ref p] ∧ Tape H d l n ∧ n + 5 ≤ 900000 ∧ H p = some (.lst (ks.map V.str)) ∧ KeysOk ks ∧ ∀ H' v, But d H H' → Tape H' d l (n + 5) → Fv K d H' 1 v → Q v H'
section
variable {P : Program} {w : World} {K : PySem.W.Frag} {mg : Str → Option Value} {base : Heap}
theorem scSp : FnScope ["_law_tape", "_law_keys", "_law_some"] ["_law_tape", "_law_keys"] (defScope sStep) := ⟨rfl, rfl, rfl, by decide +kernel, rfl, by decide +kernel, by decide +kernel⟩
theorem ok_step {f fP fD : Addr} {fd fdP fdD : FuncData} (F : Fun K "_law_step" "_law_step" sStep f fd) (GP : FnOk P w K mg base CX0 2 fP fdP ["_law_tape", "_law_items"] spPick) (mP : mg "_law_pick" = some (.ref fP)) (kP : PySem.W.keepIn K (.ref fP) = true) (bP : Binds K fdP ["_law_tape", "_law_items"] [])
    (GD : FnOk P w K mg base CX0 1 fD fdD ["_law_tape", "_law_many"] spDraw) (mD : mg "_law_draw" = some (.ref fD)) (kD : PySem.W.keepIn K (.ref fD) = true) (bD : Binds K fdD ["_law_tape", "_law_many"] []) : FnOk P w K mg base CX0 3 f fd ["_law_tape", "_law_keys"] (spStep K) := by
  refine F.ok scSp (fun vs H Q E h => ?_) (fun cdv A outer s H vs Q E hr h => ?_)
  · obtain ⟨d, l, p, n, ks, rfl, _⟩ := h
    rfl
  · obtain ⟨d, l, p, n, ks, rfl, hT, hn, hp, hk, q⟩ := h
    have hr1 : Room 1 _ := hr.mono (show 1 ≤ 2 by omega)
    refine ⟨_, pss_cons (ps_set (i := 2) scSp.nd rfl (Or.inl rfl) (pe_lst (pa_cons (pe_tup (pa_cons pe_str pa_nil)) (pa_cons (pe_tup (pa_cons pe_str (pa_cons (pe_call GP hr (by rfl) mP kP bP .nil pass0 (pa_cons (pv 0) (pa_cons (pv 1) pa_nil))) pa_nil))) (pa_cons (pe_tup (pa_cons pe_str (pa_cons (pe_call GP hr (by rfl) mP kP bP .nil pass0 (pa_cons (pv 0) (pa_cons (pv 1) pa_nil))) pa_nil)))
        (pa_cons (pe_tup (pa_cons pe_str (pa_cons (pe_call GD hr1 (by rfl) mD kD bD .nil pass0 (pa_cons (pv 0) (pa_cons pe_int pa_nil))) pa_nil))) (pa_cons (pe_tup (pa_cons pe_str pa_nil)) pa_nil)))))))
      (pss_one (ps_ret (pe_call GP hr (by rfl) mP kP bP .nil pass0 (pa_cons (pv 0) (pa_cons (pe_op op_cat (pv 2) (pe_lst (pa_cons (pe_tup (pa_cons pe_str (pa_cons pe_int pa_nil))) (pa_cons (pe_tup (pa_cons pe_str pa_nil)) pa_nil)))) pa_nil))))), ?_⟩
    have npd : p ≠ d := by
      obtain ⟨ns, a, f, hd, _⟩ := hT
      exact ne_of hp hd (by intro z; cases z)
    have sj : Stb d (fun H => H p = some (.lst (ks.map V.str))) := stb_list npd
    have key : Dr d l (fun H => H p = some (.lst (ks.map V.str))) (tCall spPick [] E0 (tCons (tVar 0) (tCons (tVar 1) tNil))) [some (.ref d), some (.ref p), none] 1 IsW := dr_key rfl rfl (fun _ z => z) hk
    have a1 := dal_cons (R := fun H v => Fv K d H 1 v) sj fv_st (dr_node sj daf_nil fo_same (by decide)) (dal_cons sj fv_st (dr_node sj (daf_str sj key daf_nil (.inl rfl)) fo_field (by decide)) (dal_cons sj fv_st (dr_node sj (daf_str sj key daf_nil (.inl rfl)) fo_field (by decide))
      (dal_cons sj fv_st (dr_node sj (daf_int sj ((dr_draw (c := 3) rfl (by decide)).mono (fun _ _ ⟨i, e, a, b⟩ => ⟨i, e, intS_small a (by omega)⟩) (Nat.le_refl _)) daf_nil) fo_item (by decide)) (dal_cons sj fv_st (dr_node sj daf_nil fo_none (by decide)) dal_nil))))
    refine asg_run (lst_run fv_st a1 (by decide) hp hT (by omega) fun H2 L vs b2 t2 nLd hL r2 => ?_)
    have t2 : Tape H2 d l (n + 3) := t2.more (by omega)
    have hl := r2.1
    let J2 : Hp → Prop := fun H => H L = some (.lst vs) ∧ ∀ v ∈ vs, Fv K d H 1 v
    have sj2 : Stb d J2 := fun Ha Hb b z => ⟨b _ _ nLd z.1, fun v hv => (z.2 v hv).but b⟩
    have a2 := dal_cons (l := l) (σ := [some (.ref d), some (.ref p), some (.ref L)]) (J := J2) (R := fun H v => Fv K d H 1 v) sj2 fv_st (dr_node sj2 (daf_int sj2 (dr_const fun _ => ⟨0, rfl, by decide +kernel⟩) daf_nil) fo_item (by decide)) (dal_cons sj2 fv_st (dr_node sj2 daf_nil fo_fail (by decide)) dal_nil)
    refine ret_run (dr_pick2 sj2 rfl rfl (fun _ z => z) fv_st a2 ⟨by omega, by omega⟩ H2 (n + 3) _ ⟨hL, r2.2⟩ t2 (by omega) fun H3 v b3 t3 r3 => q H3 v (b2.trans b3) (t3.more (by omega)) r3)
end
end Toy


namespace Toy
open PySem PySem.Spec L2 PyProof.Rows PySem.W
def cT (m : Nat) : Nat := 10 * 4 ^ m
theorem cT_pos (m : Nat) : 10 ≤ cT m := by
  have : 1 ≤ 4 ^ m := Nat.pos_of_ne_zero (by simp)
  unfold cT
  omega
theorem cT_succ (m : Nat) : cT (m + 1) = 4 * cT m := by
  unfold cT
  rw [Nat.pow_succ]
  omega
def spTm (K : PySem.W.Frag) (j : Nat) : Sp := fun vs H Q _ => ∃ (d l p : Addr) (n m : Nat) (ks : List Str), m < j ∧ vs = [.ref d, .ref p, .int m] ∧ Tape H d l n ∧ n + cT m ≤ 900000 ∧ H p = some (.lst (ks.map V.str)) ∧ KeysOk ks ∧ ∀ H' v, But d H H' → Tape H' d l (n + cT m) → Fv K d H' (m + 1) v → Q v H'
abbrev JK (p : Addr) (ks : List Str) : Hp → Prop := fun H => H p = some (.lst (ks.map V.str))
abbrev tSub (i : Nat) : TE := tOp (rI0 fun i j => .int (i - j)) (tVar i) (tC (.int 1))
section
variable {K : PySem.W.Frag} {d l p : Addr} {σ : L2.St} {ks : List Str}
theorem dr_tm {j m : Nat} (h0 : σ[0]? = some (some (.ref d))) (h1 : σ[1]? = some (some (.ref p))) (h2 : σ[2]? = some (some (.int ((m + 1 : Nat) : Int)))) (hm : m < j) (hk : KeysOk ks) : Dr d l (JK p ks) (tCall (spTm K j) [] E0 (tCons (tVar 0) (tCons (tVar 1) (tCons (tSub 2) tNil)))) σ (cT m) (fun H v => Fv K d H (m + 1) v) :=
  fun H n Q j t b q => ⟨_, h0, _, h1, _, h2, _, _, rfl, rfl, d, l, p, n, m, ks, hm, by
    show [V.ref d, V.ref p, V.int (((m + 1 : Nat) : Int) - 1)] = _
    rw [show ((m + 1 : Nat) : Int) - 1 = (m : Int) by omega], t, b, j, hk, q⟩
theorem dr_step (h0 : σ[0]? = some (some (.ref d))) (h1 : σ[1]? = some (some (.ref p))) (hk : KeysOk ks) : Dr d l (JK p ks) (tCall (spStep K) [] E0 (tCons (tVar 0) (tCons (tVar 1) tNil))) σ 5 (fun H v => Fv K d H 1 v) :=
  fun H n Q j t b q => ⟨_, h0, _, h1, d, l, p, n, ks, rfl, t, b, j, hk, q⟩
theorem dr_txt {J : Hp → Prop} {x : Str} (h : okK x = true) : Dr d l J (tC (.str x)) σ 0 IsW := dr_const fun _ => ⟨x, rfl, h⟩
theorem dr_word {J : Hp → Prop} {x : Str} {k : List Str} (h : formOf x = some k) : Dr d l J (tC (.str x)) σ 0 (IsWk k) := dr_const fun _ => ⟨x, rfl, h⟩
theorem st_w : ∀ (H H' : Hp) v, But d H H' → IsW H v → IsW H' v := fun _ _ _ _ z => z
theorem st_k {k : List Str} : ∀ (H H' : Hp) v, But d H H' → IsWk k H v → IsWk k H' v := fun _ _ _ _ z => z
end
abbrev NTt : List Str := ["_law_tape", "_law_keys", "_law_deep", "_law_way"]
section
variable {P : Program} {w : World} {K : PySem.W.Frag} {mg : Str → Option Value} {base : Heap}
theorem scTt : FnScope NTt ["_law_tape", "_law_keys", "_law_deep"] (defScope sTest) := ⟨rfl, rfl, rfl, by decide +kernel, rfl, by decide +kernel, by decide +kernel⟩
theorem scWk : FnScope NTt ["_law_tape", "_law_keys", "_law_deep"] (defScope sWalk) := ⟨rfl, rfl, rfl, by decide +kernel, rfl, by decide +kernel, by decide +kernel⟩
theorem np_of {H : Hp} {d l p : Addr} {n : Nat} {xs : List V} (t : Tape H d l n) (h : H p = some (.lst xs)) : p ≠ d := by
  obtain ⟨ns, a, f, hd, _⟩ := t
  exact ne_of h hd (by intro z; cases z)
theorem ok_test1 {j : Nat} {f fP fD fL fW : Addr} {fd fdP fdD fdL fdW : FuncData} (F : Fun K "_law_test" "_law_test" sTest f fd) (GP : FnOk P w K mg base CX0 2 fP fdP ["_law_tape", "_law_items"] spPick) (mP : mg "_law_pick" = some (.ref fP)) (kP : PySem.W.keepIn K (.ref fP) = true) (bP : Binds K fdP ["_law_tape", "_law_items"] [])
    (GD : FnOk P w K mg base CX0 1 fD fdD ["_law_tape", "_law_many"] spDraw) (mD : mg "_law_draw" = some (.ref fD)) (kD : PySem.W.keepIn K (.ref fD) = true) (bD : Binds K fdD ["_law_tape", "_law_many"] [])
    (GL : FnOk P w K mg base CX0 3 fL fdL ["_law_tape"] spLeaf) (mL : mg "_law_leaf" = some (.ref fL)) (kL : PySem.W.keepIn K (.ref fL) = true) (bL : Binds K fdL ["_law_tape"] [])
    (mF : mg "_law_test" = some (.ref f)) (kF : PySem.W.keepIn K (.ref f) = true) (bF : Binds K fd ["_law_tape", "_law_keys", "_law_deep"] []) (mW : mg "_law_walk" = some (.ref fW)) (kW : PySem.W.keepIn K (.ref fW) = true) (bW : Binds K fdW ["_law_tape", "_law_keys", "_law_deep"] [])
    (ihT : FnOk P w K mg base CX0 (j + 4) f fd ["_law_tape", "_law_keys", "_law_deep"] (spTm K j)) (ihW : FnOk P w K mg base CX0 (j + 4) fW fdW ["_law_tape", "_law_keys", "_law_deep"] (spTm K j)) : FnOk P w K mg base CX0 (j + 5) f fd ["_law_tape", "_law_keys", "_law_deep"] (spTm K (j + 1)) := by
  refine F.ok (k := j + 4) scTt (fun vs H Q E h => ?_) (fun cdv A outer s H vs Q E hr h => ?_)
  · obtain ⟨d, l, p, n, m, ks, _, rfl, _⟩ := h
    rfl
  · obtain ⟨d, l, p, n, m, ks, hmj, rfl, hT, hn, hp, hk, q⟩ := h
    have hr1 : Room 1 _ := hr.mono (show 1 ≤ j + 4 by omega)
    have hr2 : Room 2 _ := hr.mono (show 2 ≤ j + 4 by omega)
    have hr3 : Room 3 _ := hr.mono (show 3 ≤ j + 4 by omega)
    refine ⟨_, pss_cons (ps_set (i := 3) scTt.nd rfl (Or.inl rfl) (pe_ifExp (pt_cmpR op_gt (pv 2) pe_int (nomark _)) (pe_call GD hr1 (by rfl) mD kD bD .nil pass0 (pa_cons (pv 0) (pa_cons pe_int pa_nil))) (pe_call GD hr1 (by rfl) mD kD bD .nil pass0 (pa_cons (pv 0) (pa_cons pe_int pa_nil)))))
      (pss_cons (ps_if (pt_cmpR op_lt (pv 3) pe_int (nomark _)) (pss_one (ps_ret (pe_tup (pa_cons pe_str (pa_cons (pe_call GP hr2 (by rfl) mP kP bP .nil pass0 (pa_cons (pv 0) (pa_cons (pe_lst (pa_cons pe_str (pa_cons pe_str (pa_cons pe_str (pa_cons pe_str (pa_cons pe_str (pa_cons pe_str (pa_cons pe_str (pa_cons pe_str (pa_cons pe_str pa_nil)))))))))) pa_nil))) pa_nil))))) pss_nil)
      (pss_cons (ps_if (pt_cmpR op_eq (pv 3) pe_int (nomark _)) (pss_one (ps_ret (pe_tup (pa_cons pe_str (pa_cons (pe_call GL hr3 (by rfl) mL kL bL .nil pass0 (pa_cons (pv 0) pa_nil)) pa_nil))))) pss_nil)
      (pss_cons (ps_if (pt_cmpR op_eq (pv 3) pe_int (nomark _)) (pss_one (ps_ret (pe_tup (pa_cons pe_str (pa_cons (pe_call ihW hr (by rfl) mW kW bW .nil pass0 (pa_cons (pv 0) (pa_cons (pv 1) (pa_cons (pe_op op_sub (pv 2) pe_int) pa_nil)))) (pa_cons (pe_call ihT hr (by rfl) mF kF bF .nil pass0 (pa_cons (pv 0) (pa_cons (pv 1) (pa_cons (pe_op op_sub (pv 2) pe_int) pa_nil)))) pa_nil)))))) pss_nil)
      (pss_cons (ps_if (pt_cmpR op_eq (pv 3) pe_int (nomark _)) (pss_one (ps_ret (pe_tup (pa_cons pe_str (pa_cons (pe_call ihT hr (by rfl) mF kF bF .nil pass0 (pa_cons (pv 0) (pa_cons (pv 1) (pa_cons (pe_op op_sub (pv 2) pe_int) pa_nil)))) pa_nil))))) pss_nil)
      (pss_one (ps_ret (pe_tup (pa_cons (pe_call GP hr2 (by rfl) mP kP bP .nil pass0 (pa_cons (pv 0) (pa_cons (pe_lst (pa_cons pe_str (pa_cons pe_str pa_nil))) pa_nil))) (pa_cons (pe_call ihT hr (by rfl) mF kF bF .nil pass0 (pa_cons (pv 0) (pa_cons (pv 1) (pa_cons (pe_op op_sub (pv 2) pe_int) pa_nil)))) (pa_cons (pe_call ihT hr (by rfl) mF kF bF .nil pass0 (pa_cons (pv 0) (pa_cons (pv 1) (pa_cons (pe_op op_sub (pv 2) pe_int) pa_nil)))) pa_nil)))))))))), ?_⟩
    have cp := cT_pos m
    have sj : Stb d (JK p ks) := stb_list (np_of hT hp)
    have a_is : ∀ r : Int, Dr d l (JK p ks) _ [some (.ref d), some (.ref p), some (.int m), some (.int r)] _ (fun H v => Fv K d H 1 v) := fun r => dr_node sj (daf_str sj (dr_pick sj rfl st_w (dal_cons sj st_w (dr_txt (x := "null") (by decide +kernel)) (dal_cons sj st_w (dr_txt (x := "no") (by decide +kernel)) (dal_cons sj st_w (dr_txt (x := "yes") (by decide +kernel)) (dal_cons sj st_w (dr_txt (x := "number") (by decide +kernel)) (dal_cons sj st_w (dr_txt (x := "text") (by decide +kernel)) (dal_cons sj st_w (dr_txt (x := "list") (by decide +kernel)) (dal_cons sj st_w (dr_txt (x := "dict") (by decide +kernel)) (dal_cons sj st_w (dr_txt (x := "list") (by decide +kernel)) (dal_cons sj st_w (dr_txt (x := "dict") (by decide +kernel)) dal_nil))))))))) (by decide)) daf_nil (.inr (.inr rfl))) fo_is (by decide)
    have a_eq : ∀ r : Int, Dr d l (JK p ks) _ [some (.ref d), some (.ref p), some (.int m), some (.int r)] _ (fun H v => Fv K d H 1 v) := fun r => dr_node sj (daf_any sj (F := isLeafD) (dr_leaf (K := K) rfl) daf_nil (fun f h => fld_leaf h)) fo_equal (by decide)
    refine ⟨_, rfl, _, _, rfl, rfl, _, rfl, ite2 (fun c => ?_) (fun c => ?_)⟩
    · have c0 : 0 < (m : Int) := of_decide_eq_true c
      obtain ⟨k, rfl⟩ : ∃ k, m = k + 1 := ⟨m - 1, by omega⟩
      have ck := cT_pos k
      have cs := cT_succ k
      have tm : ∀ r : Int, Dr d l (JK p ks) _ [some (.ref d), some (.ref p), some (.int ((k + 1 : Nat) : Int)), some (.int r)] _ (fun H v => Fv K d H (k + 1) v) := fun r => dr_tm (j := j) rfl rfl rfl (by omega) hk
      refine ⟨_, rfl, d, l, n, 7, rfl, hT, by omega, by decide, by decide, fun H1 r b1 t1 r0 r1 => ?_⟩
      have hp1 := sj _ _ b1 hp
      refine ⟨_, rfl, _, _, rfl, rfl, _, rfl, ite2 (fun c1 => ?_) (fun c1 => ?_)⟩
      · exact ret_run (a_is r H1 (n + 1) _ hp1 t1 (by omega) fun H2 v b2 t2 r2 => q H2 v (b1.trans b2) (t2.more (by omega)) (r2.mono (by omega)))
      refine ⟨_, rfl, rfl, _, rfl, ite2 (fun c2 => ?_) (fun c2 => ?_)⟩
      · exact ret_run (a_eq r H1 (n + 1) _ hp1 t1 (by omega) fun H2 v b2 t2 r2 => q H2 v (b1.trans b2) (t2.more (by omega)) (r2.mono (by omega)))
      refine ⟨_, rfl, rfl, _, rfl, ite2 (fun c3 => ?_) (fun c3 => ?_)⟩
      · exact ret_run (dr_node sj (daf_part sj (tm r) (daf_part sj (tm r) daf_nil pk_t) pk_w) fo_at (by decide) H1 (n + 1) _ hp1 t1 (by omega) fun H2 v b2 t2 r2 => q H2 v (b1.trans b2) (t2.more (by omega)) (r2.mono (by omega)))
      refine ⟨_, rfl, rfl, _, rfl, ite2 (fun c4 => ?_) (fun c4 => ?_)⟩
      · exact ret_run (dr_node sj (daf_part sj (tm r) daf_nil pk_t) fo_not (by decide) H1 (n + 1) _ hp1 t1 (by omega) fun H2 v b2 t2 r2 => q H2 v (b1.trans b2) (t2.more (by omega)) (r2.mono (by omega)))
      · exact ret_run (dr_nodeW sj (dr_pick sj rfl st_k (dal_cons sj st_k (dr_word fo_and) (dal_cons sj st_k (dr_word fo_or) dal_nil)) (by decide)) (daf_part sj (tm r) (daf_part sj (tm r) daf_nil pk_t) pk_t) (by decide) H1 (n + 1) _ hp1 t1 (by omega) fun H2 v b2 t2 r2 => q H2 v (b1.trans b2) (t2.more (by omega)) (r2.mono (by omega)))
    · refine ⟨_, rfl, d, l, n, 3, rfl, hT, by omega, by decide, by decide, fun H1 r b1 t1 r0 r1 => ?_⟩
      have hp1 := sj _ _ b1 hp
      refine ⟨_, rfl, _, _, rfl, rfl, _, rfl, ite2 (fun c1 => ?_) (fun c1 => ?_)⟩
      · exact ret_run (a_is r H1 (n + 1) _ hp1 t1 (by omega) fun H2 v b2 t2 r2 => q H2 v (b1.trans b2) (t2.more (by omega)) (r2.mono (by omega)))
      refine ⟨_, rfl, rfl, _, rfl, ite2 (fun c2 => ?_) (fun c2 => ?_)⟩
      · exact ret_run (a_eq r H1 (n + 1) _ hp1 t1 (by omega) fun H2 v b2 t2 r2 => q H2 v (b1.trans b2) (t2.more (by omega)) (r2.mono (by omega)))
      · exfalso
        have x1 : ¬ r < 2 := fun z => c1 (decide_eq_true z)
        have x2 : ¬ r = 2 := fun z => c2 (decide_eq_true (by rw [z]))
        omega
end
end Toy


namespace Toy
open PySem PySem.Spec L2 PyProof.Rows PySem.W
abbrev sChs : Stmt := top 51
section
variable {P : Program} {w : World} {K : PySem.W.Frag} {mg : Str → Option Value} {base : Heap}
theorem scCh : FnScope NTt ["_law_tape", "_law_keys", "_law_deep"] (defScope sChs) := ⟨rfl, rfl, rfl, by decide +kernel, rfl, by decide +kernel, by decide +kernel⟩
theorem ok_walk1 {j : Nat} {f fS fD fT : Addr} {fd fdS fdD fdT : FuncData} (F : Fun K "_law_walk" "_law_walk" sWalk f fd) (GS : FnOk P w K mg base CX0 3 fS fdS ["_law_tape", "_law_keys"] (spStep K)) (mS : mg "_law_step" = some (.ref fS)) (kS : PySem.W.keepIn K (.ref fS) = true) (bS : Binds K fdS ["_law_tape", "_law_keys"] [])
    (GD : FnOk P w K mg base CX0 1 fD fdD ["_law_tape", "_law_many"] spDraw) (mD : mg "_law_draw" = some (.ref fD)) (kD : PySem.W.keepIn K (.ref fD) = true) (bD : Binds K fdD ["_law_tape", "_law_many"] [])
    (mF : mg "_law_walk" = some (.ref f)) (kF : PySem.W.keepIn K (.ref f) = true) (bF : Binds K fd ["_law_tape", "_law_keys", "_law_deep"] []) (mT : mg "_law_test" = some (.ref fT)) (kT : PySem.W.keepIn K (.ref fT) = true) (bT : Binds K fdT ["_law_tape", "_law_keys", "_law_deep"] [])
    (ihT : FnOk P w K mg base CX0 (j + 4) fT fdT ["_law_tape", "_law_keys", "_law_deep"] (spTm K j)) (ihW : FnOk P w K mg base CX0 (j + 4) f fd ["_law_tape", "_law_keys", "_law_deep"] (spTm K j)) : FnOk P w K mg base CX0 (j + 5) f fd ["_law_tape", "_law_keys", "_law_deep"] (spTm K (j + 1)) := by
  refine F.ok (k := j + 4) scWk (fun vs H Q E h => ?_) (fun cdv A outer s H vs Q E hr h => ?_)
  · obtain ⟨d, l, p, n, m, ks, _, rfl, _⟩ := h
    rfl
  · obtain ⟨d, l, p, n, m, ks, hmj, rfl, hT, hn, hp, hk, q⟩ := h
    have hr1 : Room 1 _ := hr.mono (show 1 ≤ j + 4 by omega)
    have hr3 : Room 3 _ := hr.mono (show 3 ≤ j + 4 by omega)
    refine ⟨_, pss_cons (ps_set (i := 3) scWk.nd rfl (Or.inl rfl) (pe_ifExp (pt_cmpR op_gt (pv 2) pe_int (nomark _)) (pe_call GD hr1 (by rfl) mD kD bD .nil pass0 (pa_cons (pv 0) (pa_cons pe_int pa_nil))) pe_int))
      (pss_cons (ps_if (pt_cmpR op_lt (pv 3) pe_int (nomark _)) (pss_one (ps_ret (pe_call GS hr3 (by rfl) mS kS bS .nil pass0 (pa_cons (pv 0) (pa_cons (pv 1) pa_nil))))) pss_nil)
      (pss_cons (ps_if (pt_cmpR op_eq (pv 3) pe_int (nomark _)) (pss_one (ps_ret (pe_tup (pa_cons pe_str (pa_cons (pe_call ihW hr (by rfl) mF kF bF .nil pass0 (pa_cons (pv 0) (pa_cons (pv 1) (pa_cons (pe_op op_sub (pv 2) pe_int) pa_nil)))) (pa_cons (pe_call ihW hr (by rfl) mF kF bF .nil pass0 (pa_cons (pv 0) (pa_cons (pv 1) (pa_cons (pe_op op_sub (pv 2) pe_int) pa_nil)))) pa_nil)))))) pss_nil)
      (pss_one (ps_ret (pe_tup (pa_cons pe_str (pa_cons (pe_call ihT hr (by rfl) mT kT bT .nil pass0 (pa_cons (pv 0) (pa_cons (pv 1) (pa_cons (pe_op op_sub (pv 2) pe_int) pa_nil)))) (pa_cons (pe_call ihW hr (by rfl) mF kF bF .nil pass0 (pa_cons (pv 0) (pa_cons (pv 1) (pa_cons (pe_op op_sub (pv 2) pe_int) pa_nil)))) (pa_cons (pe_call ihW hr (by rfl) mF kF bF .nil pass0 (pa_cons (pv 0) (pa_cons (pv 1) (pa_cons (pe_op op_sub (pv 2) pe_int) pa_nil)))) pa_nil))))))))), ?_⟩
    have cp := cT_pos m
    have sj : Stb d (JK p ks) := stb_list (np_of hT hp)
    have a_st : ∀ r : Int, Dr d l (JK p ks) _ [some (.ref d), some (.ref p), some (.int m), some (.int r)] _ (fun H v => Fv K d H 1 v) := fun r => dr_step rfl rfl hk
    refine ⟨_, rfl, _, _, rfl, rfl, _, rfl, ite2 (fun c => ?_) (fun c => ?_)⟩
    · have c0 : 0 < (m : Int) := of_decide_eq_true c
      obtain ⟨k, rfl⟩ : ∃ k, m = k + 1 := ⟨m - 1, by omega⟩
      have ck := cT_pos k
      have cs := cT_succ k
      have tm : ∀ r : Int, Dr d l (JK p ks) _ [some (.ref d), some (.ref p), some (.int ((k + 1 : Nat) : Int)), some (.int r)] _ (fun H v => Fv K d H (k + 1) v) := fun r => dr_tm (j := j) rfl rfl rfl (by omega) hk
      refine ⟨_, rfl, d, l, n, 4, rfl, hT, by omega, by decide, by decide, fun H1 r b1 t1 r0 r1 => ?_⟩
      have hp1 := sj _ _ b1 hp
      refine ⟨_, rfl, _, _, rfl, rfl, _, rfl, ite2 (fun c1 => ?_) (fun c1 => ?_)⟩
      · exact ret_run (a_st r H1 (n + 1) _ hp1 t1 (by omega) fun H2 v b2 t2 r2 => q H2 v (b1.trans b2) (t2.more (by omega)) (r2.mono (by omega)))
      refine ⟨_, rfl, rfl, _, rfl, ite2 (fun c2 => ?_) (fun c2 => ?_)⟩
      · exact ret_run (dr_node sj (daf_part sj (tm r) (daf_part sj (tm r) daf_nil pk_f) pk_f) fo_pipe (by decide) H1 (n + 1) _ hp1 t1 (by omega) fun H2 v b2 t2 r2 => q H2 v (b1.trans b2) (t2.more (by omega)) (r2.mono (by omega)))
      · exact ret_run (dr_node sj (daf_part sj (tm r) (daf_part sj (tm r) (daf_part sj (tm r) daf_nil pk_f) pk_f) pk_t) fo_if (by decide) H1 (n + 1) _ hp1 t1 (by omega) fun H2 v b2 t2 r2 => q H2 v (b1.trans b2) (t2.more (by omega)) (r2.mono (by omega)))
    · refine ⟨_, rfl, _, _, rfl, rfl, _, rfl, ite2 (fun c1 => ?_) (fun c1 => absurd rfl c1)⟩
      exact ret_run (a_st 0 H n _ hp hT (by omega) fun H2 v b2 t2 r2 => q H2 v b2 (t2.more (by omega)) (r2.mono (by omega)))
theorem ok_chs1 {j : Nat} {f fS fD fT fW : Addr} {fd fdS fdD fdT fdW : FuncData} (F : Fun K "_law_chooser" "_law_chooser" sChs f fd) (GS : FnOk P w K mg base CX0 3 fS fdS ["_law_tape", "_law_keys"] (spStep K)) (mS : mg "_law_step" = some (.ref fS)) (kS : PySem.W.keepIn K (.ref fS) = true) (bS : Binds K fdS ["_law_tape", "_law_keys"] [])
    (GD : FnOk P w K mg base CX0 1 fD fdD ["_law_tape", "_law_many"] spDraw) (mD : mg "_law_draw" = some (.ref fD)) (kD : PySem.W.keepIn K (.ref fD) = true) (bD : Binds K fdD ["_law_tape", "_law_many"] [])
    (mF : mg "_law_chooser" = some (.ref f)) (kF : PySem.W.keepIn K (.ref f) = true) (bF : Binds K fd ["_law_tape", "_law_keys", "_law_deep"] []) (mT : mg "_law_test" = some (.ref fT)) (kT : PySem.W.keepIn K (.ref fT) = true) (bT : Binds K fdT ["_law_tape", "_law_keys", "_law_deep"] []) (mW : mg "_law_walk" = some (.ref fW)) (kW : PySem.W.keepIn K (.ref fW) = true) (bW : Binds K fdW ["_law_tape", "_law_keys", "_law_deep"] [])
    (ihT : FnOk P w K mg base CX0 (j + 4) fT fdT ["_law_tape", "_law_keys", "_law_deep"] (spTm K j)) (ihW : FnOk P w K mg base CX0 (j + 4) fW fdW ["_law_tape", "_law_keys", "_law_deep"] (spTm K j)) (ihC : FnOk P w K mg base CX0 (j + 4) f fd ["_law_tape", "_law_keys", "_law_deep"] (spTm K j)) : FnOk P w K mg base CX0 (j + 5) f fd ["_law_tape", "_law_keys", "_law_deep"] (spTm K (j + 1)) := by
  refine F.ok (k := j + 4) scCh (fun vs H Q E h => ?_) (fun cdv A outer s H vs Q E hr h => ?_)
  · obtain ⟨d, l, p, n, m, ks, _, rfl, _⟩ := h
    rfl
  · obtain ⟨d, l, p, n, m, ks, hmj, rfl, hT, hn, hp, hk, q⟩ := h
    have hr1 : Room 1 _ := hr.mono (show 1 ≤ j + 4 by omega)
    have hr3 : Room 3 _ := hr.mono (show 3 ≤ j + 4 by omega)
    refine ⟨_, pss_cons (ps_set (i := 3) scCh.nd rfl (Or.inl rfl) (pe_ifExp (pt_cmpR op_gt (pv 2) pe_int (nomark _)) (pe_call GD hr1 (by rfl) mD kD bD .nil pass0 (pa_cons (pv 0) (pa_cons pe_int pa_nil))) (pe_call GD hr1 (by rfl) mD kD bD .nil pass0 (pa_cons (pv 0) (pa_cons pe_int pa_nil)))))
      (pss_cons (ps_if (pt_cmpR op_eq (pv 3) pe_int (nomark _)) (pss_one (ps_ret (pe_call GS hr3 (by rfl) mS kS bS .nil pass0 (pa_cons (pv 0) (pa_cons (pv 1) pa_nil))))) pss_nil)
      (pss_cons (ps_if (pt_cmpR op_eq (pv 3) pe_int (nomark _)) (pss_one (ps_ret (pe_tup (pa_cons pe_str pa_nil)))) pss_nil)
      (pss_cons (ps_if (pt_cmpR op_lt (pv 3) pe_int (nomark _)) (pss_one (ps_ret (pe_tup (pa_cons pe_str (pa_cons (pe_call ihC hr (by rfl) mF kF bF .nil pass0 (pa_cons (pv 0) (pa_cons (pv 1) (pa_cons (pe_op op_sub (pv 2) pe_int) pa_nil)))) (pa_cons (pe_call ihC hr (by rfl) mF kF bF .nil pass0 (pa_cons (pv 0) (pa_cons (pv 1) (pa_cons (pe_op op_sub (pv 2) pe_int) pa_nil)))) pa_nil)))))) pss_nil)
      (pss_cons (ps_if (pt_cmpR op_lt (pv 3) pe_int (nomark _)) (pss_one (ps_ret (pe_tup (pa_cons pe_str (pa_cons (pe_call ihC hr (by rfl) mF kF bF .nil pass0 (pa_cons (pv 0) (pa_cons (pv 1) (pa_cons (pe_op op_sub (pv 2) pe_int) pa_nil)))) (pa_cons (pe_call ihC hr (by rfl) mF kF bF .nil pass0 (pa_cons (pv 0) (pa_cons (pv 1) (pa_cons (pe_op op_sub (pv 2) pe_int) pa_nil)))) pa_nil)))))) pss_nil)
      (pss_cons (ps_if (pt_cmpR op_eq (pv 3) pe_int (nomark _)) (pss_one (ps_ret (pe_tup (pa_cons pe_str (pa_cons (pe_call ihT hr (by rfl) mT kT bT .nil pass0 (pa_cons (pv 0) (pa_cons (pv 1) (pa_cons (pe_op op_sub (pv 2) pe_int) pa_nil)))) (pa_cons (pe_call ihC hr (by rfl) mF kF bF .nil pass0 (pa_cons (pv 0) (pa_cons (pv 1) (pa_cons (pe_op op_sub (pv 2) pe_int) pa_nil)))) (pa_cons (pe_call ihC hr (by rfl) mF kF bF .nil pass0 (pa_cons (pv 0) (pa_cons (pv 1) (pa_cons (pe_op op_sub (pv 2) pe_int) pa_nil)))) pa_nil))))))) pss_nil)
      (pss_cons (ps_if (pt_cmpR op_eq (pv 3) pe_int (nomark _)) (pss_one (ps_ret (pe_tup (pa_cons pe_str (pa_cons (pe_call ihW hr (by rfl) mW kW bW .nil pass0 (pa_cons (pv 0) (pa_cons (pv 1) (pa_cons (pe_op op_sub (pv 2) pe_int) pa_nil)))) pa_nil))))) pss_nil)
      (pss_one (ps_ret (pe_tup (pa_cons pe_str (pa_cons (pe_call ihW hr (by rfl) mW kW bW .nil pass0 (pa_cons (pv 0) (pa_cons (pv 1) (pa_cons (pe_op op_sub (pv 2) pe_int) pa_nil)))) (pa_cons (pe_call ihC hr (by rfl) mF kF bF .nil pass0 (pa_cons (pv 0) (pa_cons (pv 1) (pa_cons (pe_op op_sub (pv 2) pe_int) pa_nil)))) pa_nil)))))))))))), ?_⟩
    have cp := cT_pos m
    have sj : Stb d (JK p ks) := stb_list (np_of hT hp)
    have a_st : ∀ r : Int, Dr d l (JK p ks) _ [some (.ref d), some (.ref p), some (.int m), some (.int r)] _ (fun H v => Fv K d H 1 v) := fun r => dr_step rfl rfl hk
    have a_ev : ∀ r : Int, Dr d l (JK p ks) _ [some (.ref d), some (.ref p), some (.int m), some (.int r)] _ (fun H v => Fv K d H 1 v) := fun r => dr_node sj daf_nil fo_every (by decide)
    refine ⟨_, rfl, _, _, rfl, rfl, _, rfl, ite2 (fun c => ?_) (fun c => ?_)⟩
    · have c0 : 0 < (m : Int) := of_decide_eq_true c
      obtain ⟨k, rfl⟩ : ∃ k, m = k + 1 := ⟨m - 1, by omega⟩
      have ck := cT_pos k
      have cs := cT_succ k
      have tm : ∀ r : Int, Dr d l (JK p ks) _ [some (.ref d), some (.ref p), some (.int ((k + 1 : Nat) : Int)), some (.int r)] _ (fun H v => Fv K d H (k + 1) v) := fun r => dr_tm (j := j) rfl rfl rfl (by omega) hk
      refine ⟨_, rfl, d, l, n, 9, rfl, hT, by omega, by decide, by decide, fun H1 r b1 t1 r0 r1 => ?_⟩
      have hp1 := sj _ _ b1 hp
      refine ⟨_, rfl, rfl, _, rfl, ite2 (fun c1 => ?_) (fun c1 => ?_)⟩
      · exact ret_run (a_st r H1 (n + 1) _ hp1 t1 (by omega) fun H2 v b2 t2 r2 => q H2 v (b1.trans b2) (t2.more (by omega)) (r2.mono (by omega)))
      refine ⟨_, rfl, rfl, _, rfl, ite2 (fun c2 => ?_) (fun c2 => ?_)⟩
      · exact ret_run (a_ev r H1 (n + 1) _ hp1 t1 (by omega) fun H2 v b2 t2 r2 => q H2 v (b1.trans b2) (t2.more (by omega)) (r2.mono (by omega)))
      refine ⟨_, rfl, _, _, rfl, rfl, _, rfl, ite2 (fun c3 => ?_) (fun c3 => ?_)⟩
      · exact ret_run (dr_node sj (daf_part sj (tm r) (daf_part sj (tm r) daf_nil pk_f) pk_f) fo_pipe (by decide) H1 (n + 1) _ hp1 t1 (by omega) fun H2 v b2 t2 r2 => q H2 v (b1.trans b2) (t2.more (by omega)) (r2.mono (by omega)))
      refine ⟨_, rfl, _, _, rfl, rfl, _, rfl, ite2 (fun c4 => ?_) (fun c4 => ?_)⟩
      · exact ret_run (dr_node sj (daf_part sj (tm r) (daf_part sj (tm r) daf_nil pk_f) pk_f) fo_both (by decide) H1 (n + 1) _ hp1 t1 (by omega) fun H2 v b2 t2 r2 => q H2 v (b1.trans b2) (t2.more (by omega)) (r2.mono (by omega)))
      refine ⟨_, rfl, rfl, _, rfl, ite2 (fun c5 => ?_) (fun c5 => ?_)⟩
      · exact ret_run (dr_node sj (daf_part sj (tm r) (daf_part sj (tm r) (daf_part sj (tm r) daf_nil pk_f) pk_f) pk_t) fo_if (by decide) H1 (n + 1) _ hp1 t1 (by omega) fun H2 v b2 t2 r2 => q H2 v (b1.trans b2) (t2.more (by omega)) (r2.mono (by omega)))
      refine ⟨_, rfl, rfl, _, rfl, ite2 (fun c6 => ?_) (fun c6 => ?_)⟩
      · exact ret_run (dr_node sj (daf_part sj (tm r) daf_nil pk_w) fo_try (by decide) H1 (n + 1) _ hp1 t1 (by omega) fun H2 v b2 t2 r2 => q H2 v (b1.trans b2) (t2.more (by omega)) (r2.mono (by omega)))
      · exact ret_run (dr_node sj (daf_part sj (tm r) (daf_part sj (tm r) daf_nil pk_f) pk_w) fo_other (by decide) H1 (n + 1) _ hp1 t1 (by omega) fun H2 v b2 t2 r2 => q H2 v (b1.trans b2) (t2.more (by omega)) (r2.mono (by omega)))
    · refine ⟨_, rfl, d, l, n, 2, rfl, hT, by omega, by decide, by decide, fun H1 r b1 t1 r0 r1 => ?_⟩
      have hp1 := sj _ _ b1 hp
      refine ⟨_, rfl, rfl, _, rfl, ite2 (fun c1 => ?_) (fun c1 => ?_)⟩
      · exact ret_run (a_st r H1 (n + 1) _ hp1 t1 (by omega) fun H2 v b2 t2 r2 => q H2 v (b1.trans b2) (t2.more (by omega)) (r2.mono (by omega)))
      refine ⟨_, rfl, rfl, _, rfl, ite2 (fun c2 => ?_) (fun c2 => ?_)⟩
      · exact ret_run (a_ev r H1 (n + 1) _ hp1 t1 (by omega) fun H2 v b2 t2 r2 => q H2 v (b1.trans b2) (t2.more (by omega)) (r2.mono (by omega)))
      · exfalso
        have x1 : ¬ r = 0 := fun z => c1 (decide_eq_true (by rw [z]))
        have x2 : ¬ r = 1 := fun z => c2 (decide_eq_true (by rw [z]))
        omega
theorem tm_zero {f : Addr} {fd : FuncData} {x : Str} {st : Stmt} {N : List Str} (F : Fun K x x st f fd) (S : FnScope N ["_law_tape", "_law_keys", "_law_deep"] (defScope st)) : FnOk P w K mg base CX0 4 f fd ["_law_tape", "_law_keys", "_law_deep"] (spTm K 0) :=
  F.ok (k := 3) S (fun vs H Q E h => by obtain ⟨d, l, p, n, m, ks, h0, _⟩ := h; exact absurd h0 (Nat.not_lt_zero _)) (fun cdv A outer s H vs Q E hr h => by obtain ⟨d, l, p, n, m, ks, h0, _⟩ := h; exact absurd h0 (Nat.not_lt_zero _))
end
end Toy


namespace Toy
open PySem PySem.Spec L2 PyProof.Rows PySem.W
abbrev sFl : Stmt := top 52
section
variable {K : PySem.W.Frag} {d l : Addr} {J : Hp → Prop} {σ : L2.St} {te : TE} {ta : TA} {m m' n c : Nat} {R : Hp → V → Prop}
def DpF (K : PySem.W.Frag) (d : Addr) (F : PyData → Bool) (H : Hp) (v : V) : Prop := ∃ f, Dp K (delH H d) v f ∧ F f = true
theorem st_f {F : PyData → Bool} : ∀ (H H' : Hp) v, But d H H' → DpF K d F H v → DpF K d F H' v := fun _ _ _ b ⟨f, z1, z2⟩ => ⟨f, dpM (But.off b) z1, z2⟩
theorem dps_of {F : PyData → Bool} {H : Hp} : ∀ {vs : List V}, (∀ v ∈ vs, DpF K d F H v) → ∃ fs, DpAll K (delH H d) vs fs ∧ fs.all F = true
  | [], _ => ⟨[], .nil, rfl⟩
  | v :: vs, h => by
    obtain ⟨fs, h1, h2⟩ := dps_of fun x hx => h x (List.mem_cons_of_mem _ hx)
    obtain ⟨f, g1, g2⟩ := h v List.mem_cons_self
    exact ⟨f :: fs, .cons g1 h1, by rw [List.all_cons, g2, h2]; rfl⟩
theorem dr_tup {F : PyData → Bool} (r : DrA d l J ta σ m (AllR c (DpF K d F))) (hc : c ≤ 2) : Dr d l J (tTup ta) σ m (DpF K d (tupAll F)) :=
  fun H n Q j t b q => r H n _ j t b fun H1 vs b1 t1 ⟨hl, r1⟩ => ⟨few (by omega), fun T nT => by
    obtain ⟨o, ho⟩ := t1.at.1
    have nTd : T ≠ d := (ne_of_none ho nT).symm
    have s : Same H1 (upd H1 T (.tup vs)) := same_new same_id nT
    obtain ⟨fs, h1, h2⟩ := dps_of r1
    have lf := dpAll_len h1
    refine q _ (.ref T) (b1.trans (Same.but s d)) (t1.same s) ⟨.tuple fs, .tup (SqT.of ((delH_ne nTd).trans upd_same)) (dpAllM (Same.delH s d) h1), ?_⟩
    unfold tupAll
    rw [Bool.and_eq_true]
    exact ⟨decide_eq_true (by omega), h2⟩⟩
theorem dr_ent {x : Str} (hx : okK x = true) (h : Dr d l J te σ m (fun H v => Fv K d H n v)) : Dr d l J (tTup (tCons (tC (.str x)) (tCons te tNil))) σ m (DpF K d (isEnt (wf n))) :=
  fun H N Q j t b q => h H N _ j t b fun H1 v b1 t1 ⟨f, r1, r2⟩ => ⟨few (by show 2 ≤ 1000; decide), fun T nT => by
    obtain ⟨o, ho⟩ := t1.at.1
    have nTd : T ≠ d := (ne_of_none ho nT).symm
    have s : Same H1 (upd H1 T (.tup [.str x, v])) := same_new same_id nT
    refine q _ (.ref T) (b1.trans (Same.but s d)) (t1.same s) ⟨.tuple [.str x, f], .tup (SqT.of ((delH_ne nTd).trans upd_same)) (.cons (.str x) (.cons (dpM (Same.delH s d) r1) .nil)), ?_⟩
    show (okK x && wf n f) = true
    rw [hx, r2]
    rfl⟩
theorem dr_strF {x : Str} (h : okK x = true) : Dr d l J (tC (.str x)) σ 0 (DpF K d isStrD) := dr_const fun _ => ⟨.str x, .str x, h⟩
theorem daf_F {F : PyData → Bool} {k : Str} {ks : List Str} (sj : Stb d J) (h : Dr d l J te σ m (DpF K d F)) (r : DrA d l J ta σ m' (fun H vs => Fa K d H n vs ks)) (hk : ∀ f, F f = true → fldOk (wf n) k f = true) : DrA d l J (tCons te ta) σ (m + m') (fun H vs => Fa K d H n vs (k :: ks)) := daf_any sj h r hk
/-- a list at a slot, and a display put behind it -/
theorem cat_run {i : Nat} {p : Addr} {xs : List V} (sj : Stb d J) (hi : σ[i]? = some (some (.ref p))) (hp : ∀ H, J H → H p = some (.lst xs) ∧ ∀ v ∈ xs, R H v) (sr : ∀ H H' v, But d H H' → R H v → R H' v) (r : DrA d l J ta σ m (AllR c R)) (hc : c + xs.length ≤ 100) {H : Hp} {n : Nat} {Q : VK} (j : J H) (t : Tape H d l n) (b : n + m ≤ 900000)
    (q : ∀ H' L ys, But d H H' → Tape H' d l (n + m) → L ≠ d → H' L = some (.lst ys) → AllR (xs.length + c) R H' ys → Q (.ref L) H') : tOp rCat (tVar i) (tLst ta) σ H Q :=
  ⟨_, hi, r H n _ j t b fun H1 vs b1 t1 ⟨hl, r1⟩ => ⟨few (by omega), fun T nT => by
    have s : Same H1 (upd H1 T (.lst vs)) := same_new same_id nT
    obtain ⟨hp1, hr1⟩ := hp _ (sj _ _ b1 j)
    refine ⟨p, T, xs, vs, rfl, rfl, s _ _ hp1, upd_same, few (by omega), fun L nL => ?_⟩
    have s2 : Same H1 (upd (upd H1 T (.lst vs)) L (.lst (xs ++ vs))) := same_new s nL
    have nLd : L ≠ d := by
      obtain ⟨o, ho⟩ := t1.at.1
      exact (ne_of_none (s _ _ ho) nL).symm
    refine q _ L (xs ++ vs) (b1.trans (Same.but s2 d)) (t1.same s2) nLd upd_same ⟨by rw [List.length_append, hl], fun v hv => sr _ _ _ (Same.but s2 d) ?_⟩
    rcases List.mem_append.mp hv with z | z
    · exact hr1 v z
    · exact r1 v z⟩⟩
end
def cF : Nat → Nat
  | 0 => 10
  | m + 1 => 3 * cF m + 100
theorem cF_pos : ∀ m, 10 ≤ cF m
  | 0 => Nat.le_refl _
  | m + 1 => by
    have := cF_pos m
    rw [cF]
    omega
theorem cF_le {a b : Nat} (h : a ≤ b) : cF a ≤ cF b := by
  induction h with
  | refl => exact Nat.le_refl _
  | step _ ih =>
    rw [cF]
    omega
def spFl (K : PySem.W.Frag) (j : Nat) : Sp := fun vs H Q _ => ∃ (d l p : Addr) (n : Nat) (z : Int) (ks : List Str), (z < (j : Int) ∧ 0 < j) ∧ vs = [.ref d, .ref p, .int z] ∧ Tape H d l n ∧ n + cF z.toNat ≤ 900000 ∧ H p = some (.lst (ks.map V.str)) ∧ KeysOk ks ∧ ∀ H' v, But d H H' → Tape H' d l (n + cF z.toNat) → Fv K d H' (z.toNat + 3) v → Q v H'
theorem dr_tm1 {K : PySem.W.Frag} {d l p : Addr} {σ : L2.St} {ks : List Str} {J : Hp → Prop} (hJ : ∀ H, J H → JK p ks H) (h0 : σ[0]? = some (some (.ref d))) (h1 : σ[1]? = some (some (.ref p))) (hk : KeysOk ks) : Dr d l J (tCall (spTm K 2) [] E0 (tCons (tVar 0) (tCons (tVar 1) (tCons (tC (.int 1)) tNil)))) σ 40 (fun H v => Fv K d H 2 v) :=
  fun H n Q j t b q => ⟨_, h0, _, h1, d, l, p, n, 1, ks, by decide, rfl, t, b, hJ _ j, hk, q⟩
theorem dr_fl0 {K : PySem.W.Frag} {d l p : Addr} {σ : L2.St} {ks : List Str} {J : Hp → Prop} {i : Nat} (hi : 0 < i) (hJ : ∀ H, J H → JK p ks H) (h0 : σ[0]? = some (some (.ref d))) (h1 : σ[1]? = some (some (.ref p))) (hk : KeysOk ks) : Dr d l J (tCall (spFl K i) [] E0 (tCons (tVar 0) (tCons (tVar 1) (tCons (tC (.int 0)) tNil)))) σ 10 (fun H v => Fv K d H 3 v) :=
  fun H n Q j t b q => ⟨_, h0, _, h1, d, l, p, n, 0, ks, ⟨by omega, hi⟩, rfl, t, b, hJ _ j, hk, q⟩
theorem dr_fv {K : PySem.W.Frag} {d l : Addr} {σ : L2.St} {J : Hp → Prop} {te : TE} {m n n' : Nat} (h : Dr d l J te σ m (fun H v => Fv K d H n v)) (k : n ≤ n') : Dr d l J te σ m (fun H v => Fv K d H n' v) := h.mono (fun _ _ z => z.mono k) (Nat.le_refl _)
end Toy


namespace Toy
open PySem PySem.Spec L2 PyProof.Rows PySem.W
abbrev NFl : List Str := ["_law_tape", "_law_keys", "_law_deep", "_law_some", "_law_way", "_law_one", "_law_two", "_law_seat"]
abbrev tKey : TE := tCall spPick [] E0 (tCons (tVar 0) (tCons (tVar 1) tNil))
def JX (K : PySem.W.Frag) (d : Addr) (J : Hp → Prop) (L : Addr) (vs : List V) (m : Nat) : Hp → Prop := fun H => J H ∧ (H L = some (.lst vs) ∧ ∀ v ∈ vs, Fv K d H m v)
theorem stb_x {K : PySem.W.Frag} {d : Addr} {J : Hp → Prop} {L : Addr} {vs : List V} {m : Nat} (sj : Stb d J) (n : L ≠ d) : Stb d (JX K d J L vs m) := fun H H' b z => ⟨sj _ _ b z.1, b _ _ n z.2.1, fun v hv => (z.2.2 v hv).but b⟩
def J12 (K : PySem.W.Frag) (d p : Addr) (ks : List Str) (one two : V) (m : Nat) : Hp → Prop := fun H => JK p ks H ∧ (Fv K d H m one ∧ Fv K d H m two)
theorem stb_12 {K : PySem.W.Frag} {d p : Addr} {ks : List Str} {one two : V} {m : Nat} (sj : Stb d (JK p ks)) : Stb d (J12 K d p ks one two m) := fun H H' b z => ⟨sj _ _ b z.1, z.2.1.but b, z.2.2.but b⟩
def JC (K : PySem.W.Frag) (d : Addr) (J : Hp → Prop) (seat : V) (m : Nat) : Hp → Prop := fun H => J H ∧ Fv K d H m seat
theorem stb_c {K : PySem.W.Frag} {d : Addr} {J : Hp → Prop} {seat : V} {m : Nat} (sj : Stb d J) : Stb d (JC K d J seat m) := fun H H' b z => ⟨sj _ _ b z.1, z.2.but b⟩
theorem dr_int {d l : Addr} {J : Hp → Prop} {σ : L2.St} {c : Int} (h0 : σ[0]? = some (some (.ref d))) (hc : 0 < c ∧ c ≤ 10) : Dr d l J (tCall spDraw [] E0 (tCons (tVar 0) (tCons (tC (.int c)) tNil))) σ 1 (fun _ v => ∃ i, v = .int i ∧ intS i = true) := (dr_draw h0 ⟨hc.1, by omega⟩).mono (fun _ _ ⟨i, e, a, b⟩ => ⟨i, e, intS_small a (by omega)⟩) (Nat.le_refl _)
theorem dr_xy {d l : Addr} {J : Hp → Prop} {σ : L2.St} {x y : Str} (sj : Stb d J) (h0 : σ[0]? = some (some (.ref d))) (hx : okK x = true) (hy : okK y = true) : Dr d l J (tCall spPick [] E0 (tCons (tVar 0) (tCons (tLst (tCons (tC (.str x)) (tCons (tC (.str y)) tNil))) tNil))) σ 1 IsW :=
  (dr_pick sj h0 st_w (dal_cons sj st_w (dr_txt hx) (dal_cons sj st_w (dr_txt hy) dal_nil)) (by decide)).mono (fun _ _ z => z) (by decide)
section
variable {P : Program} {w : World} {K : PySem.W.Frag} {mg : Str → Option Value} {base : Heap}
theorem scFl : FnScope NFl ["_law_tape", "_law_keys", "_law_deep"] (defScope sFl) := ⟨rfl, rfl, rfl, by decide +kernel, rfl, by decide +kernel, by decide +kernel⟩
theorem ok_fl1 {j : Nat} {f fP fD fL fT fW fC : Addr} {fd fdP fdD fdL fdT fdW fdC : FuncData} (F : Fun K "_law_filter" "_law_filter" sFl f fd) (GP : FnOk P w K mg base CX0 2 fP fdP ["_law_tape", "_law_items"] spPick) (mP : mg "_law_pick" = some (.ref fP)) (kP : PySem.W.keepIn K (.ref fP) = true) (bP : Binds K fdP ["_law_tape", "_law_items"] [])
    (GD : FnOk P w K mg base CX0 1 fD fdD ["_law_tape", "_law_many"] spDraw) (mD : mg "_law_draw" = some (.ref fD)) (kD : PySem.W.keepIn K (.ref fD) = true) (bD : Binds K fdD ["_law_tape", "_law_many"] [])
    (GL : FnOk P w K mg base CX0 3 fL fdL ["_law_tape"] spLeaf) (mL : mg "_law_leaf" = some (.ref fL)) (kL : PySem.W.keepIn K (.ref fL) = true) (bL : Binds K fdL ["_law_tape"] [])
    (GT : FnOk P w K mg base CX0 6 fT fdT ["_law_tape", "_law_keys", "_law_deep"] (spTm K 2)) (mT : mg "_law_test" = some (.ref fT)) (kT : PySem.W.keepIn K (.ref fT) = true) (bT : Binds K fdT ["_law_tape", "_law_keys", "_law_deep"] [])
    (GW : FnOk P w K mg base CX0 6 fW fdW ["_law_tape", "_law_keys", "_law_deep"] (spTm K 2)) (mW : mg "_law_walk" = some (.ref fW)) (kW : PySem.W.keepIn K (.ref fW) = true) (bW : Binds K fdW ["_law_tape", "_law_keys", "_law_deep"] [])
    (GC : FnOk P w K mg base CX0 6 fC fdC ["_law_tape", "_law_keys", "_law_deep"] (spTm K 2)) (mC : mg "_law_chooser" = some (.ref fC)) (kC : PySem.W.keepIn K (.ref fC) = true) (bC : Binds K fdC ["_law_tape", "_law_keys", "_law_deep"] [])
    (mF : mg "_law_filter" = some (.ref f)) (kF : PySem.W.keepIn K (.ref f) = true) (bF : Binds K fd ["_law_tape", "_law_keys", "_law_deep"] [])
    (ih : FnOk P w K mg base CX0 (j + 7) f fd ["_law_tape", "_law_keys", "_law_deep"] (spFl K j)) : FnOk P w K mg base CX0 (j + 8) f fd ["_law_tape", "_law_keys", "_law_deep"] (spFl K (j + 1)) := by
  refine F.ok (k := j + 7) scFl (fun vs H Q E h => ?_) (fun cdv A outer s H vs Q E hr h => ?_)
  · obtain ⟨d, l, p, n, z, ks, _, rfl, _⟩ := h
    rfl
  · obtain ⟨d, l, p, n, z, ks, hzj, rfl, hT, hn, hp, hk, q⟩ := h
    have hr1 : Room 1 _ := hr.mono (show 1 ≤ j + 7 by omega)
    have hr2 : Room 2 _ := hr.mono (show 2 ≤ j + 7 by omega)
    have hr3 : Room 3 _ := hr.mono (show 3 ≤ j + 7 by omega)
    have hr6 : Room 6 _ := hr.mono (show 6 ≤ j + 7 by omega)
    refine ⟨_, pss_cons (ps_if (pt_cmpR op_le (pv 2) pe_int (nomark _))
        (pss_cons (ps_set (i := 3) scFl.nd rfl (Or.inl rfl) (pe_lst (pa_cons (pe_tup (pa_cons pe_str pa_nil)) (pa_cons (pe_tup (pa_cons pe_str pa_nil)) (pa_cons (pe_tup (pa_cons pe_str (pa_cons (pe_call GP hr2 (by rfl) mP kP bP .nil pass0 (pa_cons (pv 0) (pa_cons (pv 1) pa_nil))) pa_nil)))
            (pa_cons (pe_tup (pa_cons pe_str (pa_cons (pe_call GD hr1 (by rfl) mD kD bD .nil pass0 (pa_cons (pv 0) (pa_cons pe_int pa_nil))) pa_nil))) (pa_cons (pe_tup (pa_cons pe_str pa_nil)) (pa_cons (pe_tup (pa_cons pe_str pa_nil)) pa_nil))))))))
        (pss_cons (ps_set (i := 3) scFl.nd rfl (Or.inl rfl) (pe_op op_cat (pv 3) (pe_lst (pa_cons (pe_tup (pa_cons pe_str (pa_cons (pe_call GL hr3 (by rfl) mL kL bL .nil pass0 (pa_cons (pv 0) pa_nil)) pa_nil)))
            (pa_cons (pe_tup (pa_cons pe_str (pa_cons (pe_call GP hr2 (by rfl) mP kP bP .nil pass0 (pa_cons (pv 0) (pa_cons (pe_lst (pa_cons pe_str (pa_cons pe_str pa_nil))) pa_nil))) pa_nil))) pa_nil)))))
        (pss_one (ps_ret (pe_call GP hr2 (by rfl) mP kP bP .nil pass0 (pa_cons (pv 0) (pa_cons (pe_op op_cat (pv 3) (pe_lst (pa_cons (pe_tup (pa_cons pe_str (pa_cons (pe_call GP hr2 (by rfl) mP kP bP .nil pass0 (pa_cons (pv 0) (pa_cons (pe_lst (pa_cons pe_str (pa_cons pe_str pa_nil))) pa_nil))) (pa_cons (pe_tup pa_nil) pa_nil)))) pa_nil))) pa_nil))))))) pss_nil)
      (pss_cons (ps_set (i := 4) scFl.nd rfl (Or.inl rfl) (pe_call GD hr1 (by rfl) mD kD bD .nil pass0 (pa_cons (pv 0) (pa_cons pe_int pa_nil))))
      (pss_cons (ps_par (i := 5) (j := 6) rfl scFl.nd rfl rfl (by decide) rfl rfl (pa_cons (pe_call ih hr (by rfl) mF kF bF .nil pass0 (pa_cons (pv 0) (pa_cons (pv 1) (pa_cons (pe_op op_sub (pv 2) pe_int) pa_nil)))) (pa_cons (pe_call ih hr (by rfl) mF kF bF .nil pass0 (pa_cons (pv 0) (pa_cons (pv 1) (pa_cons (pe_op op_sub (pe_op op_sub (pv 2) pe_int) (pe_call GD hr1 (by rfl) mD kD bD .nil pass0 (pa_cons (pv 0) (pa_cons pe_int pa_nil)))) pa_nil)))) pa_nil)) (by rfl))
      (pss_cons (ps_if (pt_cmpR op_lt (pv 4) pe_int (nomark _)) (pss_one (ps_ret (pe_tup (pa_cons (pe_call GP hr2 (by rfl) mP kP bP .nil pass0 (pa_cons (pv 0) (pa_cons (pe_lst (pa_cons pe_str (pa_cons pe_str (pa_cons pe_str (pa_cons pe_str (pa_cons pe_str (pa_cons pe_str (pa_cons pe_str (pa_cons pe_str (pa_cons pe_str pa_nil)))))))))) pa_nil))) (pa_cons (pv 5) (pa_cons (pv 6) pa_nil)))))) pss_nil)
      (pss_cons (ps_if (pt_cmpR op_eq (pv 4) pe_int (nomark _)) (pss_one (ps_ret (pe_tup (pa_cons pe_str (pa_cons (pe_call GT hr6 (by rfl) mT kT bT .nil pass0 (pa_cons (pv 0) (pa_cons (pv 1) (pa_cons pe_int pa_nil)))) (pa_cons (pv 5) (pa_cons (pv 6) pa_nil))))))) pss_nil)
      (pss_cons (ps_if (pt_cmpR op_eq (pv 4) pe_int (nomark _)) (pss_one (ps_ret (pe_call GP hr2 (by rfl) mP kP bP .nil pass0 (pa_cons (pv 0) (pa_cons (pe_lst (pa_cons (pe_tup (pa_cons pe_str (pa_cons (pe_call GW hr6 (by rfl) mW kW bW .nil pass0 (pa_cons (pv 0) (pa_cons (pv 1) (pa_cons pe_int pa_nil)))) pa_nil)))
          (pa_cons (pe_tup (pa_cons pe_str (pa_cons (pe_call GW hr6 (by rfl) mW kW bW .nil pass0 (pa_cons (pv 0) (pa_cons (pv 1) (pa_cons pe_int pa_nil)))) (pa_cons (pv 5) pa_nil)))) pa_nil))) pa_nil))))) pss_nil)
      (pss_cons (ps_if (pt_cmpR op_eq (pv 4) pe_int (nomark _))
        (pss_cons (ps_set (i := 3) scFl.nd rfl (Or.inl rfl) (pe_lst (pa_cons (pe_tup (pa_cons pe_str (pa_cons (pv 5) pa_nil))) (pa_cons (pe_tup (pa_cons pe_str (pa_cons (pe_tup (pa_cons (pe_tup (pa_cons pe_str (pa_cons (pv 5) pa_nil))) (pa_cons (pe_tup (pa_cons pe_str (pa_cons (pv 6) pa_nil))) pa_nil))) pa_nil))) (pa_cons (pe_tup (pa_cons pe_str (pa_cons (pe_tup pa_nil) pa_nil))) (pa_cons (pe_tup (pa_cons pe_str (pa_cons (pv 5) pa_nil))) pa_nil))))))
        (pss_one (ps_ret (pe_call GP hr2 (by rfl) mP kP bP .nil pass0 (pa_cons (pv 0) (pa_cons (pe_op op_cat (pv 3) (pe_lst (pa_cons (pe_tup (pa_cons pe_str (pa_cons (pv 5) pa_nil))) pa_nil))) pa_nil)))))) pss_nil)
      (pss_cons (ps_if (pt_cmpR op_eq (pv 4) pe_int (nomark _)) (pss_one (ps_ret (pe_tup (pa_cons pe_str (pa_cons (pv 5) (pa_cons (pe_call GP hr2 (by rfl) mP kP bP .nil pass0 (pa_cons (pv 0) (pa_cons (pe_lst (pa_cons pe_str (pa_cons pe_str pa_nil))) pa_nil))) (pa_cons (pv 6) pa_nil))))))) pss_nil)
      (pss_cons (ps_if (pt_cmpR op_eq (pv 4) pe_int (nomark _)) (pss_one (ps_ret (pe_tup (pa_cons pe_str (pa_cons (pv 5) (pa_cons (pv 6) (pa_cons (pe_call ih hr (by rfl) mF kF bF .nil pass0 (pa_cons (pv 0) (pa_cons (pv 1) (pa_cons pe_int pa_nil)))) pa_nil))))))) pss_nil)
      (pss_cons (ps_if (pt_cmpR op_eq (pv 4) pe_int (nomark _)) (pss_one (ps_ret (pe_tup (pa_cons pe_str (pa_cons (pv 5) (pa_cons (pe_call GP hr2 (by rfl) mP kP bP .nil pass0 (pa_cons (pv 0) (pa_cons (pe_lst (pa_cons pe_str (pa_cons pe_str pa_nil))) pa_nil))) (pa_cons (pe_call ih hr (by rfl) mF kF bF .nil pass0 (pa_cons (pv 0) (pa_cons (pv 1) (pa_cons pe_int pa_nil)))) (pa_cons (pv 6) pa_nil)))))))) pss_nil)
      (pss_cons (ps_if (pt_cmpR op_eq (pv 4) pe_int (nomark _)) (pss_one (ps_ret (pe_tup (pa_cons pe_str (pa_cons (pe_call GP hr2 (by rfl) mP kP bP .nil pass0 (pa_cons (pv 0) (pa_cons (pe_lst (pa_cons pe_str (pa_cons pe_str pa_nil))) pa_nil)))
          (pa_cons (pe_call GP hr2 (by rfl) mP kP bP .nil pass0 (pa_cons (pv 0) (pa_cons (pe_lst (pa_cons (pe_tup pa_nil) (pa_cons (pe_tup (pa_cons pe_str pa_nil)) (pa_cons (pe_tup (pa_cons pe_str (pa_cons pe_str pa_nil))) pa_nil)))) pa_nil))) (pa_cons (pv 5) (pa_cons (pv 6) pa_nil)))))))) pss_nil)
      (pss_cons (ps_if (pt_cmpR op_eq (pv 4) pe_int (nomark _))
        (pss_cons (ps_set (i := 3) scFl.nd rfl (Or.inl rfl) (pe_lst (pa_cons (pe_tup (pa_cons pe_str (pa_cons (pe_call GP hr2 (by rfl) mP kP bP .nil pass0 (pa_cons (pv 0) (pa_cons (pe_lst (pa_cons pe_str (pa_cons pe_str (pa_cons pe_str pa_nil)))) pa_nil))) (pa_cons (pe_tup (pa_cons (pv 5) pa_nil)) pa_nil)))) (pa_cons (pe_tup (pa_cons pe_str (pa_cons pe_str (pa_cons (pe_tup (pa_cons (pv 5) (pa_cons (pv 6) pa_nil))) pa_nil)))) pa_nil))))
        (pss_one (ps_ret (pe_call GP hr2 (by rfl) mP kP bP .nil pass0 (pa_cons (pv 0) (pa_cons (pe_op op_cat (pv 3) (pe_lst (pa_cons (pe_tup (pa_cons pe_str (pa_cons (pe_call GD hr1 (by rfl) mD kD bD .nil pass0 (pa_cons (pv 0) (pa_cons pe_int pa_nil))) (pa_cons (pv 5) pa_nil)))) pa_nil))) pa_nil)))))) pss_nil)
      (pss_cons (ps_set (i := 7) scFl.nd rfl (Or.inl rfl) (pe_call GC hr6 (by rfl) mC kC bC .nil pass0 (pa_cons (pv 0) (pa_cons (pv 1) (pa_cons pe_int pa_nil)))))
      (pss_cons (ps_set (i := 3) scFl.nd rfl (Or.inl rfl) (pe_lst (pa_cons (pe_tup (pa_cons pe_str (pa_cons (pv 7) pa_nil))) (pa_cons (pe_tup (pa_cons pe_str (pa_cons (pv 7) pa_nil))) (pa_cons (pe_tup (pa_cons pe_str (pa_cons (pv 7) (pa_cons (pv 5) pa_nil)))) (pa_cons (pe_tup (pa_cons pe_str (pa_cons (pv 7) (pa_cons pe_str (pa_cons (pv 5) pa_nil))))) pa_nil))))))
      (pss_one (ps_ret (pe_call GP hr2 (by rfl) mP kP bP .nil pass0 (pa_cons (pv 0) (pa_cons (pe_op op_cat (pv 3) (pe_lst (pa_cons (pe_tup (pa_cons pe_str (pa_cons (pv 7) (pa_cons (pv 5) pa_nil)))) pa_nil))) pa_nil)))))))))))))))))), ?_⟩
    have npd := np_of hT hp
    have sj : Stb d (JK p ks) := stb_list npd
    refine ⟨_, rfl, _, _, rfl, rfl, _, rfl, ite2 (fun c => ?_) (fun c => ?_)⟩
    · have c0 : z ≤ 0 := of_decide_eq_true c
      have ez : z.toNat = 0 := by omega
      rw [ez] at hn q
      have e10 : cF 0 = 10 := rfl
      rw [e10] at hn q
      have key : Dr d l (JK p ks) tKey [some (.ref d), some (.ref p), some (.int z), none, none, none, none, none] 1 IsW := dr_key rfl rfl (fun _ z => z) hk
      have a1 := dal_cons (l := l) (σ := [some (.ref d), some (.ref p), some (.int z), none, none, none, none, none]) (R := fun H v => Fv K d H 1 v) sj fv_st (dr_node sj daf_nil fo_same (by decide)) (dal_cons sj fv_st (dr_node sj daf_nil fo_every (by decide)) (dal_cons sj fv_st (dr_node sj (daf_str sj key daf_nil (.inl rfl)) fo_field (by decide))
        (dal_cons sj fv_st (dr_node sj (daf_int sj (dr_int (c := 3) rfl (by decide)) daf_nil) fo_item (by decide)) (dal_cons sj fv_st (dr_node sj daf_nil fo_none (by decide)) (dal_cons sj fv_st (dr_node sj daf_nil fo_fail (by decide)) dal_nil)))))
      refine asg_run (lst_run fv_st a1 (by decide) hp hT (by omega) fun H1 L vs b1 t1 nLd hL r1 => ?_)
      have t1 : Tape H1 d l (n + 2) := t1.more (by omega)
      have sj1 : Stb d (JX K d (JK p ks) L vs 1) := stb_x sj nLd
      have a2 := dal_cons (l := l) (σ := [some (.ref d), some (.ref p), some (.int z), some (.ref L), none, none, none, none]) (R := fun H v => Fv K d H 1 v) sj1 fv_st (dr_node sj1 (daf_any sj1 (F := isLeafD) (dr_leaf (K := K) rfl) daf_nil (fun f h => fld_leaf h)) fo_leaf (by decide))
        (dal_cons sj1 fv_st (dr_node sj1 (daf_str sj1 (dr_xy sj1 rfl (x := "x") (y := "y") (by decide +kernel) (by decide +kernel)) daf_nil (.inr (.inl rfl))) fo_name (by decide)) dal_nil)
      have hl1 := r1.1
      refine asg_run (cat_run sj1 rfl (fun _ z => z.2) fv_st a2 (by omega) ⟨sj _ _ b1 hp, hL, r1.2⟩ t1 (by omega) fun H2 L2 ys b2 t2 nL2 hL2 r2 => ?_)
      have t2 : Tape H2 d l (n + 4) := t2.more (by omega)
      have hl2 := r2.1
      have sj2 : Stb d (JX K d (JK p ks) L2 ys 1) := stb_x sj nL2
      have a3 := dal_cons (l := l) (σ := [some (.ref d), some (.ref p), some (.int z), some (.ref L2), none, none, none, none]) (R := fun H v => Fv K d H 1 v) sj2 fv_st (dr_node sj2 (daf_str sj2 (dr_xy sj2 rfl (x := "f") (y := "g") (by decide +kernel) (by decide +kernel)) (daf_F sj2 (F := tupAll (wf 0)) (dr_tup dal_nil (by decide)) daf_nil (fun f h => fld_filters h)) (.inr (.inl rfl))) fo_call (by decide)) dal_nil
      refine ret_run (dr_pick2 sj2 rfl rfl (fun _ z => z.2) fv_st a3 ⟨by omega, by omega⟩ H2 (n + 4) _ ⟨sj _ _ (b1.trans b2) hp, hL2, r2.2⟩ t2 (by omega) fun H3 v b3 t3 r3 => q H3 v ((b1.trans b2).trans b3) (t3.more (by omega)) (r3.mono (by omega)))
    · have c0 : ¬ z ≤ 0 := fun e => c (decide_eq_true e)
      obtain ⟨k, rfl⟩ : ∃ k : Nat, z = ((k + 1 : Nat) : Int) := ⟨z.toNat - 1, by omega⟩
      have ez : (((k + 1 : Nat) : Int)).toNat = k + 1 := by omega
      rw [ez, cF] at hn q
      have cp := cF_pos k
      refine ⟨_, rfl, d, l, n, 12, rfl, hT, by omega, by decide, by decide, fun H1 r b1 t1 r0 r1 => ?_⟩
      have ek : (((k : Nat) : Int)).toNat = k := by omega
      refine ⟨_, rfl, _, rfl, _, rfl, _, _, rfl, rfl, d, l, p, n + 1, ((k : Nat) : Int), ks, by omega, ?_, t1, by rw [ek]; omega, sj _ _ b1 hp, hk, fun H2 one b2 t2 f1 => ?_⟩
      · show [V.ref d, V.ref p, V.int (((k + 1 : Nat) : Int) - 1)] = _
        rw [show ((k + 1 : Nat) : Int) - 1 = (k : Int) by omega]
      rw [ek] at t2 f1
      refine ⟨_, rfl, _, rfl, _, rfl, _, _, rfl, rfl, _, rfl, d, l, n + 1 + cF k, 2, rfl, t2, by omega, by decide, by decide, fun H3 r' b3 t3 r0' r1' => ?_⟩
      have hz2 : (((k + 1 : Nat) : Int) - 1 - r').toNat ≤ k := by omega
      have cz := cF_le hz2
      refine ⟨_, _, rfl, rfl, d, l, p, n + 1 + cF k + 1, ((k + 1 : Nat) : Int) - 1 - r', ks, by omega, rfl, t3, by omega, sj _ _ ((b1.trans b2).trans b3) hp, hk, fun H4 two b4 t4 f2 => ⟨_, _, rfl, ?_⟩⟩
      have t4 : Tape H4 d l (n + 2 + 2 * cF k) := t4.more (by omega)
      have b14 : But d H1 H4 := (b2.trans b3).trans b4
      have hp4 : JK p ks H4 := sj _ _ (b1.trans b14) hp
      have g1 : Fv K d H4 (k + 3) one := f1.but (b3.trans b4)
      have g2 : Fv K d H4 (k + 3) two := f2.mono (by omega)
      have s12 : Stb d (J12 K d p ks one two (k + 3)) := stb_12 sj
      have j4 : J12 K d p ks one two (k + 3) H4 := ⟨hp4, g1, g2⟩
      have q4 : ∀ H' v, But d H4 H' → Tape H' d l (n + (3 * cF k + 100)) → Fv K d H' (k + 3 + 1) v → Q v H' := fun H' v b t z => q H' v ((b1.trans b14).trans b) t z
      have o1 : ∀ σ : L2.St, σ[5]? = some (some one) → Dr d l (J12 K d p ks one two (k + 3)) (tVar 5) σ 0 (fun H v => Fv K d H (k + 3) v) := fun σ h => dr_var h fun H j => j.2.1
      have o2 : ∀ σ : L2.St, σ[6]? = some (some two) → Dr d l (J12 K d p ks one two (k + 3)) (tVar 6) σ 0 (fun H v => Fv K d H (k + 3) v) := fun σ h => dr_var h fun H j => j.2.2
      -- pipes and the like
      refine ⟨_, rfl, _, _, rfl, rfl, _, rfl, ite2 (fun c1 => ?_) (fun c1 => ?_)⟩
      · exact ret_run (dr_nodeW s12 (dr_pick s12 rfl st_k (dal_cons s12 st_k (dr_word fo_pipe) (dal_cons s12 st_k (dr_word fo_both) (dal_cons s12 st_k (dr_word fo_pipe) (dal_cons s12 st_k (dr_word fo_sum) (dal_cons s12 st_k (dr_word fo_less) (dal_cons s12 st_k (dr_word fo_product) (dal_cons s12 st_k (dr_word fo_alike) (dal_cons s12 st_k (dr_word fo_before) (dal_cons s12 st_k (dr_word fo_catch) dal_nil))))))))) (by decide)) (daf_part s12 (o1 _ rfl) (daf_part s12 (o2 _ rfl) daf_nil pk_f) pk_f) (by decide) H4 _ _ j4 t4 (by omega) fun H5 v b5 t5 r5 => q4 H5 v b5 (t5.more (by omega)) r5)
      refine ⟨_, rfl, rfl, _, rfl, ite2 (fun c2 => ?_) (fun c2 => ?_)⟩
      · exact ret_run (dr_node s12 (daf_part s12 (dr_fv (dr_tm1 (K := K) (fun _ j => j.1) rfl rfl hk) (by omega)) (daf_part s12 (o1 _ rfl) (daf_part s12 (o2 _ rfl) daf_nil pk_f) pk_f) pk_t) fo_if (by decide) H4 _ _ j4 t4 (by omega) fun H5 v b5 t5 r5 => q4 H5 v b5 (t5.more (by omega)) r5)
      refine ⟨_, rfl, rfl, _, rfl, ite2 (fun c3 => ?_) (fun c3 => ?_)⟩
      · exact ret_run (dr_pick s12 rfl fv_st (dal_cons s12 fv_st (dr_node s12 (daf_part s12 (dr_fv (dr_tm1 (K := K) (fun _ j => j.1) rfl rfl hk) (by omega)) daf_nil pk_w) fo_try (by decide)) (dal_cons s12 fv_st (dr_node s12 (daf_part s12 (dr_fv (dr_tm1 (K := K) (fun _ j => j.1) rfl rfl hk) (by omega)) (daf_part s12 (o1 _ rfl) daf_nil pk_f) pk_w) fo_other (by decide)) dal_nil)) (by decide) H4 _ _ j4 t4 (by omega) fun H5 v b5 t5 r5 => q4 H5 v b5 (t5.more (by omega)) r5)
      refine ⟨_, rfl, rfl, _, rfl, ite2 (fun c4 => ?_) (fun c4 => ?_)⟩
      · have a1 := dal_cons (l := l) (σ := [some (.ref d), some (.ref p), some (.int ((k + 1 : Nat) : Int)), none, some (.int r), some one, some two, none]) (R := fun H v => Fv K d H (k + 3 + 1) v) s12 fv_st (dr_node s12 (daf_part s12 (o1 _ rfl) daf_nil pk_f) fo_list (by decide)) (dal_cons s12 fv_st (dr_node s12 (daf_F s12 (F := tupAll (isEnt (wf (k + 3)))) (dr_tup (dal_cons s12 st_f (dr_ent (x := "a") (by decide +kernel) (o1 _ rfl)) (dal_cons s12 st_f (dr_ent (x := "b") (by decide +kernel) (o2 _ rfl)) dal_nil)) (by decide)) daf_nil (fun f h => fld_entries h)) fo_dict (by decide))
          (dal_cons s12 fv_st (dr_node s12 (daf_F s12 (F := tupAll (isEnt (wf (k + 3)))) (dr_tup dal_nil (by decide)) daf_nil (fun f h => fld_entries h)) fo_dict (by decide)) (dal_cons s12 fv_st (dr_node s12 (daf_part s12 (o1 _ rfl) daf_nil pk_f) fo_first (by decide)) dal_nil)))
        refine asg_run (lst_run fv_st a1 (by decide) j4 t4 (by omega) fun H5 L vs b5 t5 nLd hL r5 => ?_)
        have t5 : Tape H5 d l (n + 2 + 2 * cF k) := t5.more (by omega)
        have hl := r5.1
        have sx : Stb d (JX K d (J12 K d p ks one two (k + 3)) L vs (k + 3 + 1)) := stb_x s12 nLd
        have a2 := dal_cons (l := l) (σ := [some (.ref d), some (.ref p), some (.int ((k + 1 : Nat) : Int)), some (.ref L), some (.int r), some one, some two, none]) (R := fun H v => Fv K d H (k + 3 + 1) v) sx fv_st (dr_node sx (daf_part sx (dr_var (i := 5) rfl fun H j => j.1.2.1) daf_nil pk_f) fo_fails (by decide)) dal_nil
        exact ret_run (dr_pick2 sx rfl rfl (fun _ z => z.2) fv_st a2 ⟨by omega, by omega⟩ H5 _ _ ⟨s12 _ _ b5 j4, hL, r5.2⟩ t5 (by omega) fun H6 v b6 t6 r6 => q4 H6 v (b5.trans b6) (t6.more (by omega)) r6)
      refine ⟨_, rfl, rfl, _, rfl, ite2 (fun c5 => ?_) (fun c5 => ?_)⟩
      · exact ret_run (dr_node s12 (daf_part s12 (o1 _ rfl) (daf_str s12 (dr_xy s12 rfl (x := "x") (y := "y") (by decide +kernel) (by decide +kernel)) (daf_part s12 (o2 _ rfl) daf_nil pk_f) (.inr (.inl rfl))) pk_f) fo_as (by decide) H4 _ _ j4 t4 (by omega) fun H5 v b5 t5 r5 => q4 H5 v b5 (t5.more (by omega)) r5)
      refine ⟨_, rfl, rfl, _, rfl, ite2 (fun c6 => ?_) (fun c6 => ?_)⟩
      · exact ret_run (dr_node s12 (daf_part s12 (o1 _ rfl) (daf_part s12 (o2 _ rfl) (daf_part s12 (dr_fv (dr_fl0 (K := K) (i := j) (by omega) (fun _ j => j.1) rfl rfl hk) (by omega)) daf_nil pk_f) pk_f) pk_f) fo_when (by decide) H4 _ _ j4 t4 (by omega) fun H5 v b5 t5 r5 => q4 H5 v b5 (t5.more (by omega)) r5)
      refine ⟨_, rfl, rfl, _, rfl, ite2 (fun c7 => ?_) (fun c7 => ?_)⟩
      · exact ret_run (dr_node s12 (daf_part s12 (o1 _ rfl) (daf_str s12 (dr_xy s12 rfl (x := "x") (y := "y") (by decide +kernel) (by decide +kernel)) (daf_part s12 (dr_fv (dr_fl0 (K := K) (i := j) (by omega) (fun _ j => j.1) rfl rfl hk) (by omega)) (daf_part s12 (o2 _ rfl) daf_nil pk_f) pk_f) (.inr (.inl rfl))) pk_f) fo_reduce (by decide) H4 _ _ j4 t4 (by omega) fun H5 v b5 t5 r5 => q4 H5 v b5 (t5.more (by omega)) r5)
      refine ⟨_, rfl, rfl, _, rfl, ite2 (fun c8 => ?_) (fun c8 => ?_)⟩
      · exact ret_run (dr_node s12 (daf_str s12 (dr_xy s12 rfl (x := "f") (y := "g") (by decide +kernel) (by decide +kernel)) (daf_F s12 (F := tupAll isStrD) (dr_pick s12 rfl st_f (dal_cons s12 st_f (dr_tup dal_nil (by decide)) (dal_cons s12 st_f (dr_tup (dal_cons s12 st_f (dr_strF (x := "g") (by decide +kernel)) dal_nil) (by decide)) (dal_cons s12 st_f (dr_tup (dal_cons s12 st_f (dr_strF (x := "f") (by decide +kernel)) (dal_cons s12 st_f (dr_strF (x := "h") (by decide +kernel)) dal_nil)) (by decide)) dal_nil))) (by decide))
          (daf_part s12 (o1 _ rfl) (daf_part s12 (o2 _ rfl) daf_nil pk_f) pk_f) (fun f h => fld_params h)) (.inr (.inl rfl))) fo_def (by decide) H4 _ _ j4 t4 (by omega) fun H5 v b5 t5 r5 => q4 H5 v b5 (t5.more (by omega)) r5)
      refine ⟨_, rfl, rfl, _, rfl, ite2 (fun c9 => ?_) (fun c9 => ?_)⟩
      · have of1 : ∀ σ : L2.St, σ[5]? = some (some one) → Dr d l (J12 K d p ks one two (k + 3)) (tVar 5) σ 0 (DpF K d (wf (k + 3))) := fun σ h => dr_var h fun H j => j.2.1
        have of2 : ∀ σ : L2.St, σ[6]? = some (some two) → Dr d l (J12 K d p ks one two (k + 3)) (tVar 6) σ 0 (DpF K d (wf (k + 3))) := fun σ h => dr_var h fun H j => j.2.2
        have a1 := dal_cons (l := l) (σ := [some (.ref d), some (.ref p), some (.int ((k + 1 : Nat) : Int)), none, some (.int r), some one, some two, none]) (R := fun H v => Fv K d H (k + 3 + 1) v) s12 fv_st (dr_node s12 (daf_str s12 (dr_pick s12 rfl st_w (dal_cons s12 st_w (dr_txt (x := "f") (by decide +kernel)) (dal_cons s12 st_w (dr_txt (x := "g") (by decide +kernel)) (dal_cons s12 st_w (dr_txt (x := "h") (by decide +kernel)) dal_nil))) (by decide)) (daf_F s12 (F := tupAll (wf (k + 3))) (dr_tup (dal_cons s12 st_f (of1 _ rfl) dal_nil) (by decide)) daf_nil (fun f h => fld_filters h)) (.inr (.inl rfl))) fo_call (by decide))
          (dal_cons s12 fv_st (dr_node s12 (daf_str s12 (dr_txt (x := "f") (by decide +kernel)) (daf_F s12 (F := tupAll (wf (k + 3))) (dr_tup (dal_cons s12 st_f (of1 _ rfl) (dal_cons s12 st_f (of2 _ rfl) dal_nil)) (by decide)) daf_nil (fun f h => fld_filters h)) (.inr (.inl rfl))) fo_call (by decide)) dal_nil)
        refine asg_run (lst_run fv_st a1 (by decide) j4 t4 (by omega) fun H5 L vs b5 t5 nLd hL r5 => ?_)
        have t5 : Tape H5 d l (n + 3 + 2 * cF k) := t5.more (by omega)
        have hl := r5.1
        have sx : Stb d (JX K d (J12 K d p ks one two (k + 3)) L vs (k + 3 + 1)) := stb_x s12 nLd
        have a2 := dal_cons (l := l) (σ := [some (.ref d), some (.ref p), some (.int ((k + 1 : Nat) : Int)), some (.ref L), some (.int r), some one, some two, none]) (R := fun H v => Fv K d H (k + 3 + 1) v) sx fv_st (dr_node sx (daf_int sx (dr_int (c := 4) rfl (by decide)) (daf_part sx (dr_var (i := 5) rfl fun H j => j.1.2.1) daf_nil pk_f)) fo_take (by decide)) dal_nil
        exact ret_run (dr_pick2 sx rfl rfl (fun _ z => z.2) fv_st a2 ⟨by omega, by omega⟩ H5 _ _ ⟨s12 _ _ b5 j4, hL, r5.2⟩ t5 (by omega) fun H6 v b6 t6 r6 => q4 H6 v (b5.trans b6) (t6.more (by omega)) r6)
      -- a seat
      refine asg_run (dr_tm1 (K := K) (J := J12 K d p ks one two (k + 3)) (fun _ j => j.1) rfl rfl hk H4 _ _ j4 t4 (by omega) fun H5 seat b5 t5 f5 => ?_)
      have t5 : Tape H5 d l (n + 2 + 2 * cF k + 40) := t5
      have sc : Stb d (JC K d (J12 K d p ks one two (k + 3)) seat (k + 3)) := stb_c s12
      have p1 : ∀ σ : L2.St, σ[5]? = some (some one) → Dr d l (JC K d (J12 K d p ks one two (k + 3)) seat (k + 3)) (tVar 5) σ 0 (fun H v => Fv K d H (k + 3) v) := fun σ h => dr_var h fun H j => j.1.2.1
      have p7 : ∀ σ : L2.St, σ[7]? = some (some seat) → Dr d l (JC K d (J12 K d p ks one two (k + 3)) seat (k + 3)) (tVar 7) σ 0 (fun H v => Fv K d H (k + 3) v) := fun σ h => dr_var h fun H j => j.2
      have a1 := dal_cons (l := l) (σ := [some (.ref d), some (.ref p), some (.int ((k + 1 : Nat) : Int)), none, some (.int r), some one, some two, some seat]) (R := fun H v => Fv K d H (k + 3 + 1) v) sc fv_st (dr_node sc (daf_part sc (p7 _ rfl) daf_nil pk_c) fo_places (by decide)) (dal_cons sc fv_st (dr_node sc (daf_part sc (p7 _ rfl) daf_nil pk_c) fo_drop (by decide)) (dal_cons sc fv_st (dr_node sc (daf_part sc (p7 _ rfl) (daf_part sc (p1 _ rfl) daf_nil pk_f) pk_c) fo_change (by decide))
        (dal_cons sc fv_st (dr_node sc (daf_part sc (p7 _ rfl) (daf_str sc (dr_txt (x := "a") (by decide +kernel)) (daf_part sc (p1 _ rfl) daf_nil pk_f) (.inl rfl)) pk_c) fo_add (by decide)) dal_nil)))
      refine asg_run (lst_run fv_st a1 (by decide) ⟨s12 _ _ b5 j4, f5.mono (by omega)⟩ t5 (by omega) fun H6 L vs b6 t6 nLd hL r6 => ?_)
      have t6 : Tape H6 d l (n + 2 + 2 * cF k + 40) := t6.more (by omega)
      have hl := r6.1
      have sx : Stb d (JX K d (JC K d (J12 K d p ks one two (k + 3)) seat (k + 3)) L vs (k + 3 + 1)) := stb_x sc nLd
      have a2 := dal_cons (l := l) (σ := [some (.ref d), some (.ref p), some (.int ((k + 1 : Nat) : Int)), some (.ref L), some (.int r), some one, some two, some seat]) (R := fun H v => Fv K d H (k + 3 + 1) v) sx fv_st (dr_node sx (daf_part sx (dr_var (i := 7) rfl fun H j => j.1.2) (daf_part sx (dr_var (i := 5) rfl fun H j => j.1.1.2.1) daf_nil pk_f) pk_c) fo_append (by decide)) dal_nil
      exact ret_run (dr_pick2 sx rfl rfl (fun _ z => z.2) fv_st a2 ⟨by omega, by omega⟩ H6 _ _ ⟨sc _ _ b6 ⟨s12 _ _ b5 j4, f5.mono (by omega)⟩, hL, r6.2⟩ t6 (by omega) fun H7 v b7 t7 r7 => q4 H7 v ((b5.trans b6).trans b7) (t7.more (by omega)) r7)
end
end Toy


namespace Toy
open PySem L2
section
variable {P : Program} {w : World} {K : PySem.W.Frag} {mg : Str → Option Value} {base : Heap}
theorem ok_tw {fP fD fL fS fT fW : Addr} {fdP fdD fdL fdS fdT fdW : FuncData} (FT : Fun K "_law_test" "_law_test" sTest fT fdT) (FW : Fun K "_law_walk" "_law_walk" sWalk fW fdW) (GP : FnOk P w K mg base CX0 2 fP fdP ["_law_tape", "_law_items"] spPick) (mP : mg "_law_pick" = some (.ref fP)) (kP : PySem.W.keepIn K (.ref fP) = true) (bP : Binds K fdP ["_law_tape", "_law_items"] [])
    (GD : FnOk P w K mg base CX0 1 fD fdD ["_law_tape", "_law_many"] spDraw) (mD : mg "_law_draw" = some (.ref fD)) (kD : PySem.W.keepIn K (.ref fD) = true) (bD : Binds K fdD ["_law_tape", "_law_many"] [])
    (GL : FnOk P w K mg base CX0 3 fL fdL ["_law_tape"] spLeaf) (mL : mg "_law_leaf" = some (.ref fL)) (kL : PySem.W.keepIn K (.ref fL) = true) (bL : Binds K fdL ["_law_tape"] [])
    (GS : FnOk P w K mg base CX0 3 fS fdS ["_law_tape", "_law_keys"] (spStep K)) (mS : mg "_law_step" = some (.ref fS)) (kS : PySem.W.keepIn K (.ref fS) = true) (bS : Binds K fdS ["_law_tape", "_law_keys"] [])
    (mT : mg "_law_test" = some (.ref fT)) (kT : PySem.W.keepIn K (.ref fT) = true) (bT : Binds K fdT ["_law_tape", "_law_keys", "_law_deep"] []) (mW : mg "_law_walk" = some (.ref fW)) (kW : PySem.W.keepIn K (.ref fW) = true) (bW : Binds K fdW ["_law_tape", "_law_keys", "_law_deep"] []) (j : Nat) :
    FnOk P w K mg base CX0 (j + 4) fT fdT ["_law_tape", "_law_keys", "_law_deep"] (spTm K j) ∧ FnOk P w K mg base CX0 (j + 4) fW fdW ["_law_tape", "_law_keys", "_law_deep"] (spTm K j) := by
  induction j with
  | zero => exact ⟨tm_zero FT scTt, tm_zero FW scWk⟩
  | succ j ih => exact ⟨ok_test1 FT GP mP kP bP GD mD kD bD GL mL kL bL mT kT bT mW kW bW ih.1 ih.2, ok_walk1 FW GS mS kS bS GD mD kD bD mW kW bW mT kT bT ih.1 ih.2⟩
theorem ok_chs {fD fS fT fW f : Addr} {fdD fdS fdT fdW fd : FuncData} (F : Fun K "_law_chooser" "_law_chooser" sChs f fd) (GS : FnOk P w K mg base CX0 3 fS fdS ["_law_tape", "_law_keys"] (spStep K)) (mS : mg "_law_step" = some (.ref fS)) (kS : PySem.W.keepIn K (.ref fS) = true) (bS : Binds K fdS ["_law_tape", "_law_keys"] [])
    (GD : FnOk P w K mg base CX0 1 fD fdD ["_law_tape", "_law_many"] spDraw) (mD : mg "_law_draw" = some (.ref fD)) (kD : PySem.W.keepIn K (.ref fD) = true) (bD : Binds K fdD ["_law_tape", "_law_many"] [])
    (mF : mg "_law_chooser" = some (.ref f)) (kF : PySem.W.keepIn K (.ref f) = true) (bF : Binds K fd ["_law_tape", "_law_keys", "_law_deep"] []) (mT : mg "_law_test" = some (.ref fT)) (kT : PySem.W.keepIn K (.ref fT) = true) (bT : Binds K fdT ["_law_tape", "_law_keys", "_law_deep"] []) (mW : mg "_law_walk" = some (.ref fW)) (kW : PySem.W.keepIn K (.ref fW) = true) (bW : Binds K fdW ["_law_tape", "_law_keys", "_law_deep"] [])
    (ih : ∀ j, FnOk P w K mg base CX0 (j + 4) fT fdT ["_law_tape", "_law_keys", "_law_deep"] (spTm K j) ∧ FnOk P w K mg base CX0 (j + 4) fW fdW ["_law_tape", "_law_keys", "_law_deep"] (spTm K j)) (j : Nat) : FnOk P w K mg base CX0 (j + 4) f fd ["_law_tape", "_law_keys", "_law_deep"] (spTm K j) := by
  induction j with
  | zero => exact tm_zero F scCh
  | succ j z => exact ok_chs1 F GS mS kS bS GD mD kD bD mF kF bF mT kT bT mW kW bW (ih j).1 (ih j).2 z
theorem ok_fl {f fP fD fL fT fW fC : Addr} {fd fdP fdD fdL fdT fdW fdC : FuncData} (F : Fun K "_law_filter" "_law_filter" sFl f fd) (GP : FnOk P w K mg base CX0 2 fP fdP ["_law_tape", "_law_items"] spPick) (mP : mg "_law_pick" = some (.ref fP)) (kP : PySem.W.keepIn K (.ref fP) = true) (bP : Binds K fdP ["_law_tape", "_law_items"] [])
    (GD : FnOk P w K mg base CX0 1 fD fdD ["_law_tape", "_law_many"] spDraw) (mD : mg "_law_draw" = some (.ref fD)) (kD : PySem.W.keepIn K (.ref fD) = true) (bD : Binds K fdD ["_law_tape", "_law_many"] [])
    (GL : FnOk P w K mg base CX0 3 fL fdL ["_law_tape"] spLeaf) (mL : mg "_law_leaf" = some (.ref fL)) (kL : PySem.W.keepIn K (.ref fL) = true) (bL : Binds K fdL ["_law_tape"] [])
    (GT : FnOk P w K mg base CX0 6 fT fdT ["_law_tape", "_law_keys", "_law_deep"] (spTm K 2)) (mT : mg "_law_test" = some (.ref fT)) (kT : PySem.W.keepIn K (.ref fT) = true) (bT : Binds K fdT ["_law_tape", "_law_keys", "_law_deep"] [])
    (GW : FnOk P w K mg base CX0 6 fW fdW ["_law_tape", "_law_keys", "_law_deep"] (spTm K 2)) (mW : mg "_law_walk" = some (.ref fW)) (kW : PySem.W.keepIn K (.ref fW) = true) (bW : Binds K fdW ["_law_tape", "_law_keys", "_law_deep"] [])
    (GC : FnOk P w K mg base CX0 6 fC fdC ["_law_tape", "_law_keys", "_law_deep"] (spTm K 2)) (mC : mg "_law_chooser" = some (.ref fC)) (kC : PySem.W.keepIn K (.ref fC) = true) (bC : Binds K fdC ["_law_tape", "_law_keys", "_law_deep"] [])
    (mF : mg "_law_filter" = some (.ref f)) (kF : PySem.W.keepIn K (.ref f) = true) (bF : Binds K fd ["_law_tape", "_law_keys", "_law_deep"] []) (j : Nat) : FnOk P w K mg base CX0 (j + 7) f fd ["_law_tape", "_law_keys", "_law_deep"] (spFl K j) := by
  induction j with
  | zero => exact F.ok (k := 6) scFl (fun vs H Q E h => by obtain ⟨d, l, p, n, m, ks, h0, _⟩ := h; exact absurd h0.2 (Nat.not_lt_zero _)) (fun cdv A outer s H vs Q E hr h => by obtain ⟨d, l, p, n, m, ks, h0, _⟩ := h; exact absurd h0.2 (Nat.not_lt_zero _))
  | succ j ih => exact ok_fl1 F GP mP kP bP GD mD kD bD GL mL kL bL GT mT kT bT GW mW kW bW GC mC kC bC mF kF bF ih
end
end Toy


namespace Toy
open PySem L2
section
variable {P : Program} {w : World} {A : Around} {E : Value → Shared → Prop} {s : Shared}
theorem dictPut_pairs {d : Addr} {kvs : List (Key × Value)} {k : Key} {key v : Value} {Q : Unit → Shared → Prop} (hkey : (mixKind P w).is k key = true) (hm : s.heap.DictOf (mixKind P w) d kvs)
    (hQ : ∀ h', h'.DictOf (mixKind P w) d (stored kvs k v) → Heap.SameBut d s.heap h' → Q () { s with heap := h' })
    (hsz : kvs.length ≤ sizeLine) :
    wpAny (model P w) A (dictPut d ((mixKind P w).hash k) key v) Q E s := by
  obtain ⟨o, es, ep, ho, hc, hd, hk, hp, hn⟩ := hm
  have hes : es.size ≤ sizeLine := by
    have e1 := hp.length
    have e2 : es.toList.length = es.size := by simp
    omega
  unfold dictPut
  refine wpAny_bind (wpAny_dictFind_of hkey ho hd hk ?_)
  have hidx : (es.findIdx? fun e => (mixKind P w).is k e.key) = kvs.findIdx? fun kv => decide (kv.1 = k) := by
    rw [← hp.findIdx k]; obtain ⟨l⟩ := es; simp
  cases hi : es.findIdx? fun e => (mixKind P w).is k e.key with
  | some i =>
    refine wpAny_updateDict ho hd (hQ _ ⟨_, _, ep, Heap.get?_update_self _ ho (Obj.isFreed_of_dict (Obj.data_mapDict hd _)),
      hc.mapDict _, Obj.data_mapDict hd _, hk.modify _ _, ?_, ?_⟩ (Heap.SameBut.update ..))
    · rw [stored, if_pos (any_of_findIdx_some (hidx ▸ hi))]
      have hl : (es.toList.findIdx? fun e => (mixKind P w).is k e.key) = some i := by rw [← hi]; obtain ⟨l⟩ := es; simp
      have := hp.modify hn hl v
      obtain ⟨l⟩ := es
      simpa using this
    · rw [stored, if_pos (any_of_findIdx_some (hidx ▸ hi)), keys_map_store]; exact hn
  | none =>
    have hnot : k ∉ kvs.map (·.1) := not_mem_of_findIdx_none (hidx ▸ hi)
    have hany : ¬ (kvs.any fun kv => decide (kv.1 = k)) = true := by
      rw [List.any_eq_true]; rintro ⟨kv, hkv, he⟩
      exact hnot (List.mem_map.mpr ⟨kv, hkv, of_decide_eq_true he⟩)
    refine wpAny_updateDictKeys (hz := hes) ho hd (hQ _ ⟨_, _, ep + 1, Heap.get?_update_self _ ho (Obj.isFreed_of_dict (Obj.data_mapDictKeys hd _)),
      hc.mapDictKeys _, Obj.data_mapDictKeys hd _, hk.push hkey _, ?_, ?_⟩ (Heap.SameBut.update ..))
    · rw [stored, if_neg hany]
      have := hp.append hkey ((mixKind P w).hash k) v
      obtain ⟨l⟩ := es
      simpa using this
    · rw [stored, if_neg hany, List.map_append, List.nodup_append]
      refine ⟨hn, by simp, ?_⟩
      intro a ha b hb
      simp only [List.map_cons, List.map_nil, List.mem_singleton] at hb
      subst hb
      exact fun e => hnot (e ▸ ha)
theorem mergeMap {d o : Addr} {kvs more : List (Key × Value)} {Q : Unit → Shared → Prop} (hdo : d ≠ o) (hoS : (o == sysModules) = false)
    (hd : s.heap.DictOf (mixKind P w) d kvs) (ho : s.heap.DictOf (mixKind P w) o more)
    (hQ : ∀ h', h'.DictOf (mixKind P w) d (merged kvs more) → h'.DictOf (mixKind P w) o more → Heap.SameBut d s.heap h' → Q () { s with heap := h' })
    (hsz : kvs.length + more.length ≤ sizeLine) :
    wpAny (model P w) A (mergeMapping d (.ref o) false) Q E s := by
  obtain ⟨od, esd, epd, hod, hcd, hdd, hkd, hpd, hnd⟩ := id hd
  obtain ⟨oo, eso, epo, hoo, hco, hdo', hko, hpo, hno⟩ := id ho
  unfold mergeMapping
  have hlen : more.length = eso.size := by rw [← hpo.length]; simp
  refine wpAny_bind (wpAny_isInstance ho.typeIs isSubtype_dict_dict ?_)
  rw [if_pos rfl]
  refine wpAny_bind (wpAny_specialOf ho.typeIs F.slot_dict_iter.lookup (wpAny_bind (wpAny_pure ?_)))
  rw [beq_self_eq_true]
  dsimp only
  rw [if_neg (by rw [hoS]; exact Bool.false_ne_true)]
  have loop : wpAny (model P w) A (do
      let l ← dictEntries o
      let epoch ← dictEpoch o
      forIn (List.range l.size) PUnit.unit fun i (_ : PUnit) => (do
          let l' ← dictEntries o
          match l'[i]? with
            | some e => do
              holding [e.key, e.val] (dictPut d e.hash e.key e.val)
              let ep' ← dictEpoch o
              if (ep' != epoch) = true then do
                  (unsupported "dict.changed-during-merge" : Sem PUnit)
                  pure (ForInStep.yield PUnit.unit)
                else pure (ForInStep.yield PUnit.unit)
            | _ => do
              (unsupported "dict.changed-during-merge" : Sem PUnit)
              pure (ForInStep.yield PUnit.unit) : Sem (ForInStep PUnit))
      pure ()) Q E s := by
    refine wpAny_bind (wpAny_dictEntries hoo hdo' ?_)
    refine wpAny_bind (wpAny_dictEpoch hoo hdo' ?_)
    refine wpAny_bind ?_
    rw [List.range_eq_range']
    refine wpAny_forIn_list _
      (fun rest _ s' => ∃ h' i, s' = { s with heap := h' } ∧ rest = List.range' i (eso.size - i) ∧ i ≤ eso.size ∧ h'.DictOf (mixKind P w) d (merged kvs (more.take i)) ∧ h'.get? o = some oo ∧ Heap.SameBut d s.heap h')
      _ ?_ ?_ _ _ ⟨s.heap, 0, rfl, by simp, Nat.zero_le _, by simpa [merged] using hd, hoo, Heap.SameBut.refl _ _⟩
    · rintro x rest b s' ⟨h', i, rfl, hr, hi, hd', hoo', hs'⟩
      have hlt : i < eso.size := by
        rcases Nat.lt_or_ge i eso.size with h | h
        · exact h
        · rw [Nat.sub_eq_zero_of_le h] at hr; simp at hr
      obtain ⟨rfl, hrest⟩ : x = i ∧ rest = List.range' (i + 1) (eso.size - (i + 1)) := by
        have e : eso.size - i = (eso.size - (i + 1)) + 1 := by omega
        rw [e, List.range'_succ] at hr
        injection hr with h1 h2
        exact ⟨h1, h2⟩
      refine wpAny_bind (wpAny_dictEntries hoo' hdo' ?_)
      rw [Array.getElem?_eq_getElem hlt]
      obtain ⟨kv, hkv⟩ : ∃ kv, more[x]? = some kv := ⟨more[x]'(by rw [hlen]; exact hlt), List.getElem?_eq_getElem _⟩
      obtain ⟨k, v⟩ := kv
      obtain ⟨hkey, hval⟩ := hpo.get? (e := eso[x]) (by simp [hlt]) hkv
      obtain ⟨k', hkey', hhash⟩ := hko eso[x] (Array.getElem_mem hlt)
      obtain rfl : k' = k := (mixKind P w).inj _ _ _ hkey' hkey
      show wpAny _ _ (holding [eso[x].key, eso[x].val] (dictPut d eso[x].hash eso[x].key eso[x].val) >>= _) _ _ _
      rw [hhash, hval]
      have hmx : (merged kvs (more.take x)).length ≤ sizeLine := by
        have e1 := merged_length_le kvs (more.take x)
        have e2 : (more.take x).length ≤ more.length := by rw [List.length_take]; omega
        omega
      refine wpAny_bind (wpAny_holding (dictPut_pairs (hsz := hmx) hkey hd' fun h'' hd'' hs'' => ?_))
      have hoo'' : h''.get? o = some oo := (hs''.2 o (Ne.symm hdo)).trans hoo'
      refine wpAny_bind (wpAny_dictEpoch hoo'' hdo' ?_)
      rw [if_neg (by simp)]
      exact wpAny_pure ⟨h'', x + 1, rfl, hrest, hlt, by rw [merged_take_succ kvs more x (k', v) hkv]; exact hd'', hoo'', hs'.trans hs''⟩
    · rintro b s' ⟨h', i, rfl, hr, hi, hd', hoo', hs'⟩
      have hin : i = eso.size := by
        rcases Nat.lt_or_ge i eso.size with h | h
        · have e : eso.size - i = (eso.size - (i + 1)) + 1 := by omega
          rw [e, List.range'_succ] at hr; exact nomatch hr
        · exact Nat.le_antisymm hi h
      refine wpAny_pure (hQ h' ?_ ⟨oo, eso, epo, hoo', hco, hdo', hko, hpo, hno⟩ hs')
      rw [hin, ← hlen, List.take_length] at hd'; exact hd'
  refine wpAny_bind (wpAny_dictEntries hod hdd ?_)
  split
  · refine wpAny_bind (wpAny_dictEntries hoo hdo' ?_)
    refine wpAny_bind ?_
    rw [← Array.forIn_toList]
    refine wpAny_forIn_list _ (fun rest _ s' => s' = s ∧ ∀ e ∈ rest, e ∈ eso.toList) _ ?_ ?_ _ _ ⟨rfl, fun _ h => h⟩
    · rintro x rest b s' ⟨rfl, hr⟩
      obtain ⟨k', hkey', _⟩ := hko x (Array.mem_toList_iff.mp (hr x List.mem_cons_self))
      rcases keyIs_shape hkey' with ⟨i, t, e1, e⟩ | ⟨y, t, e1, e⟩
      · rw [e]
        exact wpAny_pure ⟨rfl, fun e he => hr e (List.mem_cons_of_mem _ he)⟩
      · rw [e]
        exact wpAny_pure ⟨rfl, fun e he => hr e (List.mem_cons_of_mem _ he)⟩
    · rintro b s' ⟨rfl, _⟩
      exact loop
  · exact loop
end
end Toy


namespace Toy
open PySem L2
theorem star_two (m k v : Sem Value) : dictDisplay [(none, m), (some k, v)] = (do
    let d ← alloc { cls := .type "dict", data := .dict #[] }
    let x ← holding [.ref d] m
    (((holding [.ref d, x] (mergeMapping d x false)).onRaise fun y => do let _ ← holding [.ref d, x, y] (runValue (.builtin "proto.let_go" {}))).tryCatch fun e => do
        if ← isInstance e (.type "AttributeError") then
          rule "dict.display.not-a-mapping"; raiseError "TypeError" s!"'{← typeNameOf x}' object is not a mapping"
        throw e).onRaise fun y => do let _ ← holding [.ref d, y] (runValue (.builtin "proto.let_go" {}))
    let sub ← holding [.ref d] (subDict [(k, v)])
    (holding [.ref d, .ref sub] (mergeMapping d (.ref sub) false)).onRaise fun x => do let _ ← holding [.ref d, x] (runValue (.builtin "proto.let_go" {}))
    pure (.ref d)) := by
  unfold dictDisplay
  dsimp only
  rw [List.forIn_cons]
  simp only [List.isEmpty_nil, if_true, pure_bind, bind_assoc, List.forIn_cons, List.forIn_nil, List.nil_append, List.length_singleton, List.isEmpty_cons, show ((1 : Nat) == 17) = false from rfl, Bool.false_eq_true, if_false]
  try rfl
section
variable {X : Cx} {m k v : Expr} {tm tk tv : TE} {pos : Pos}
theorem KV.nd {P : Program} {w : World} {h : Heap} {a : Addr} {vs : List (Key × Value)} (d : h.DictOf (mixKind P w) a vs) : (vs.map (·.1)).Nodup := by
  obtain ⟨_, _, _, _, _, _, _, _, n⟩ := d
  exact n
/-- {**m, k: v}: the new dict, and the dict of the pair, which is put into it -/
def tStar (tm tk tv : TE) : TE := fun σ H Q => ∀ p, H p = none → tm σ (upd H p (.dK [])) fun x H1 => H1 p = some (.dK []) ∧ ∃ a more, x = .ref a ∧ a ≠ p ∧ H1 a = some (.dK more) ∧ ∀ q, (upd H1 p (.dK more)) q = none → tk σ (upd (upd H1 p (.dK more)) q (.dK [])) fun y H2 => tv σ H2 fun z H3 => H3 q = some (.dK []) ∧ ∃ k kvs, y = kV k ∧ H3 p = some (.dK kvs) ∧ p ≠ q ∧ kvs.length + 1 ≤ sizeLine ∧ Q (.ref p) (upd (upd H3 q (.dK [(k, z)])) p (.dK (putK kvs k z)))
theorem pe_star (hm : PE X m tm) (hk : PE X k tk) (hv : PE X v tv) : PE X (.Dict [none, some k] [m, v] pos) (tStar tm tk tv) := by
  refine ⟨fun pins s σ H Q I q => ?_⟩
  have hn := I.hok.fresh (Nat.le_refl s.heap.objs.size)
  have I1 := I.laid (a := s.heap.objs.size) (o := .dK []) (h' := s.heap.push { cls := .type "dict", data := .dict #[] }) (t' := s.toks) (fun _ _ q => Heap.get?_push_of_some _ q) (Nat.le_refl _) (dk_empty s.heap I.big)
  rw [arm_eval_Dict]
  refine wpAny_bind (wpAny_standAt ?_)
  show wpAny _ _ (dictDisplay [(none, do let x ← eval m X.env; standAt pos; pure x), (some (eval k X.env), do let x ← eval v X.env; standAt pos; pure x)]) _ _ _
  rw [star_two]
  refine wpAny_bind (wpAny_alloc ?_)
  refine wpAny_bind (wpAny_holding (wpAny_bind (thn (hm.run pins _ σ _ _ I1 (q _ hn)) fun u s1 ⟨x, H1, I2, rx, e1, a, more, ex, nap, ea, q1⟩ => wpAny_bind (wpAny_standAt (wpAny_pure ?_)))))
  subst ex
  obtain rfl : u = Value.ref a := rx
  obtain ⟨_, hd0, vs0, r0, d0⟩ := dk_of I2.hok e1
  cases r0
  obtain ⟨za, hda, vsa, ra, da⟩ := dk_of I2.hok ea
  have zl : vsa.length ≤ sizeLine := by rw [← ra.length]; exact za
  refine wpAny_bind (wpAny_onRaise (wpAny_tryCatch (wpAny_onRaise (wpAny_holding (mergeMap nap.symm hda d0 da (fun h' dp' da' hs => ?_) (by rw [List.length_nil]; omega))))))
  rw [merged_nil_of_nodup vsa (KV.nd da)] at dp'
  have he : ∃ q, h'.get? s.heap.objs.size = some q := let ⟨q, _, _, hq, _⟩ := dp'; ⟨q, hq⟩
  have I3 : Inv X pins σ (upd H1 s.heap.objs.size (.dK more)) { s1 with heap := h', toks := s1.toks } := d_write I2 (by rw [e1]; exact True.intro) hs he (dk_new za hd0 ra dp')
  have hn3 := I3.hok.fresh (Nat.le_refl h'.objs.size)
  have I4 := I3.laid (a := h'.objs.size) (o := .dK []) (h' := h'.push { cls := .type "dict", data := .dict #[] }) (t' := s1.toks) (fun _ _ q => Heap.get?_push_of_some _ q) (Nat.le_refl _) (dk_empty h' I3.big)
  refine wpAny_bind (wpAny_holding (wpAny_subDict (knd := mixKind X.prog X.w) (by show 1 ≤ 15; decide) (evalPairs_cons (thn (hk.run pins _ σ _ _ I4 (q1 _ hn3)) fun u2 s4 ⟨y, H2, I5, ry, q2⟩ => wpAny_bind (thn (hv.run pins _ σ _ _ I5 q2) fun u3 s5 ⟨z, H3, I6, rz, eq, kk, kvs, ey, ep, npq, zz, q3⟩ => wpAny_bind (wpAny_standAt (wpAny_pure (evalPairs_nil ?_))))))))
  subst ey
  obtain ⟨_, hq0, vq, rq, dq⟩ := dk_of I6.hok eq
  cases rq
  refine ⟨[(kk, u3)], ⟨kV_is ry, rfl, True.intro⟩, dq, fun h6 dq6 hs6 => ?_⟩
  have he6 : ∃ q, h6.get? h'.objs.size = some q := let ⟨q, _, _, hq, _⟩ := dq6; ⟨q, hq⟩
  have rk6 : KV [(kk, z)] [(kk, u3)] := .cons ⟨rfl, rz⟩ .nil
  have I7 : Inv X pins σ (upd H3 h'.objs.size (.dK [(kk, z)])) { s5 with heap := h6, toks := s5.toks + 1 } := d_write I6 (by rw [eq]; exact True.intro) hs6 he6 (dk_new (by rw [sizeLine_eq]; show 1 ≤ 16777216; omega) hq0 rk6 dq6)
  have ep7 : (upd H3 h'.objs.size (.dK [(kk, z)])) s.heap.objs.size = some (.dK kvs) := Eq.trans (upd_ne npq) ep
  obtain ⟨_, hp7, vp, rp, dp⟩ := dk_of I7.hok ep7
  obtain ⟨_, hq7, vq7, rq7, dq7⟩ := dk_of I7.hok upd_same
  have l7 : vq7.length = 1 := rq7.length.symm
  have lp : kvs.length = vp.length := rp.length
  refine wpAny_bind (wpAny_onRaise (wpAny_holding (mergeMap npq hq7 dp dq7 (fun h8 dp8 _ hs8 => wpAny_pure ?_) (by omega))))
  have he8 : ∃ q, h8.get? s.heap.objs.size = some q := let ⟨q, _, _, hq, _⟩ := dp8; ⟨q, hq⟩
  have lz : (putK kvs kk z).length ≤ sizeLine := by
    have := length_putK kvs kk z
    omega
  exact ⟨.ref s.heap.objs.size, _, d_write I7 (by rw [ep7]; exact True.intro) hs8 he8 (dk_new lz hp7 (rq7.merge rp) dp8), rfl, q3⟩
end
end Toy


namespace Toy
open PySem L2
/-- d.update(e), both dicts -/
def rDUpd : V → List V → Hp → VK → Prop := fun x vs H Q => ∃ (a b : Addr) (kvs more : List (Key × V)), x = .ref a ∧ vs = [.ref b] ∧ a ≠ b ∧ H a = some (.dK kvs) ∧ H b = some (.dK more) ∧ kvs.length + more.length ≤ sizeLine ∧ Q .non (upd H a (.dK (mergeK kvs more)))
theorem mtd_update {X : Cx} : MtR X "dict.update" rDUpd := by
  intro pins s σ H x vs v us Q I rx rv h
  obtain ⟨a, b, kvs, more, ex, ev, nab, ea, eb, z, q⟩ := h
  subst ex
  subst ev
  obtain rfl : v = Value.ref a := rx
  obtain ⟨u, eu, ru⟩ := vals1 rv
  subst eu
  obtain rfl : u = Value.ref b := ru
  obtain ⟨_, hda, va, ra, da⟩ := dk_of I.hok ea
  obtain ⟨_, hdb, vb, rb, db⟩ := dk_of I.hok eb
  have la : kvs.length = va.length := ra.length
  have lb : more.length = vb.length := rb.length
  refine call_meetsIn PySem.F.slot_dict_update da.typeIs PySem.F.entry_dict_update (PySem.F.args_dict_update_2 _ _) (meets_dict_update (mixKind X.prog X.w) a b nab hdb)
    ⟨va, vb, da, db, by omega, fun h' dd _ hs => ?_⟩
  have he : ∃ q, h'.get? a = some q := let ⟨q, _, _, hq, _⟩ := dd; ⟨q, hq⟩
  have lz : (mergeK kvs more).length ≤ sizeLine := by
    have := length_mergeK more kvs
    omega
  exact ⟨.non, _, d_write (t' := s.toks) I (by rw [ea]; exact True.intro) hs he (dk_new lz hda (rb.merge ra) dd), rfl, q⟩
end Toy


namespace Toy
open PySem PySem.Spec L2 PyProof.Rows PySem.W
abbrev sSlots : Stmt := top 53
abbrev sTSlots : Stmt := top 54
def slA : List (Str × Str) := [("same", ""), ("every", ""), ("none", ""), ("fail", ""), ("field", "k"), ("item", "i"), ("pipe", "ff"), ("both", "ff")]
def slB : List (Str × Str) := [("if", "tff"), ("try", "w"), ("other", "wf"), ("leaf", "x"), ("list", "f"), ("dict", "e"), ("sum", "ff"), ("less", "ff")]
def slC : List (Str × Str) := [("product", "ff"), ("alike", "ff"), ("before", "ff"), ("as", "fnf"), ("name", "n"), ("when", "fff"), ("catch", "ff")]
def slD : List (Str × Str) := [("reduce", "fnff"), ("first", "f"), ("take", "if"), ("fails", "f"), ("def", "npff"), ("call", "na"), ("places", "c")]
def slE : List (Str × Str) := [("change", "cf"), ("drop", "c"), ("add", "ckf"), ("append", "cf")]
def slT : List (Str × Str) := [("is", "s"), ("equal", "x"), ("at", "wt"), ("and", "tt"), ("or", "tt"), ("not", "t")]
def slF : List (Str × Str) := slA ++ (slB ++ (slC ++ (slD ++ slE)))
def kvO (xs : List (Str × Str)) : List (Key × V) := xs.map fun p => (.inr p.1, .str p.2)
def optS : Option Str → V
  | some x => .str x
  | none => .non
def spSlot (L : List (Str × Str)) : Sp := fun vs H Q _ => ∃ x : Str, vs = [.str x] ∧ ∀ H', Same H H' → Q (optS (L.lookup x)) H'
theorem valV_kvO (x : Str) : ∀ L : List (Str × Str), (valV (kvO L) (.inr x)).getD .non = optS (L.lookup x)
  | [] => rfl
  | (k, v) :: L => by
    have ih := valV_kvO x L
    by_cases h : k = x
    · subst h
      have e1 : valV (kvO ((k, v) :: L)) (.inr k) = some (.str v) := by
        unfold kvO valV
        rw [List.map_cons, List.find?_cons_of_pos (by simp)]
        rfl
      have e2 : List.lookup k ((k, v) :: L) = some v := by simp [List.lookup]
      rw [e1, e2]
      rfl
    · have e1 : valV (kvO ((k, v) :: L)) (.inr x) = valV (kvO L) (.inr x) := by
        unfold kvO valV
        rw [List.map_cons, List.find?_cons_of_neg (by simp [h])]
      have e2 : List.lookup x ((k, v) :: L) = List.lookup x L := by
        have : (x == k) = false := by simp [Ne.symm h]
        simp [List.lookup, this]
      rw [e1, e2]
      exact ih
abbrev mA : List (Key × V) := mergeK [] (kvO slA)
abbrev mB : List (Key × V) := mergeK mA (mergeK [] (kvO slB))
abbrev mC : List (Key × V) := mergeK mB (mergeK [] (kvO slC))
abbrev mD : List (Key × V) := mergeK mC (mergeK [] (kvO slD))
abbrev mE : List (Key × V) := mergeK mD (mergeK [] (kvO slE))
theorem mergeO : mE = kvO slF := by rfl
theorem upd_step {H H1 : Hp} {p p2 : Addr} {m x y : List (Key × V)} (np : H p = none) (hs : Same H H1) (hp : H1 p = some (.dK m)) (n2 : H1 p2 = none) :
    p ≠ p2 ∧ (upd (upd H1 p2 (.dK [])) p2 (.dK x)) p = some (.dK m) ∧ Same H (upd (upd (upd H1 p2 (.dK [])) p2 (.dK x)) p (.dK y)) := by
  have n : p ≠ p2 := ne_of_none hp n2
  refine ⟨n, Eq.trans (upd_ne n) (Eq.trans (upd_ne n) hp), fun b o e => ?_⟩
  have nb : b ≠ p := ne_of_none e np
  have nb2 : b ≠ p2 := ne_of_none (hs _ _ e) n2
  rw [upd_ne nb, upd_ne nb2, upd_ne nb2]
  exact hs _ _ e
section
variable {P : Program} {w : World} {K : PySem.W.Frag} {mg : Str → Option Value} {base : Heap}
theorem scSl : FnScope ["_law_word", "_law_rows"] ["_law_word"] (defScope sSlots) := ⟨rfl, rfl, rfl, by decide +kernel, rfl, by decide +kernel, by decide +kernel⟩
theorem ok_slots {f : Addr} {fd : FuncData} (F : Fun K "_law_slots" "_law_slots" sSlots f fd) : FnOk P w K mg base CX0 1 f fd ["_law_word"] (spSlot slF) := by
  refine F.ok scSl (fun vs H Q E h => ?_) (fun cdv A outer s H vs Q E hr h => ?_)
  · obtain ⟨x, rfl, _⟩ := h
    rfl
  · obtain ⟨x, rfl, q⟩ := h
    have hu := Nat.lt_of_le_of_lt (Nat.add_le_add_left (show 1 ≤ 64 by decide) _) hr.units
    refine ⟨_, pss_cons (ps_set (i := 1) scSl.nd rfl (Or.inl rfl) (pe_disp (pps_cons pe_str pe_str (pps_cons pe_str pe_str (pps_cons pe_str pe_str (pps_cons pe_str pe_str (pps_cons pe_str pe_str (pps_cons pe_str pe_str (pps_cons pe_str pe_str (pps_cons pe_str pe_str pps_nil)))))))) (by rfl) (by rfl) (fun z => by cases z) (by decide)))
      (pss_cons (ps_expr (pe_bm PySem.F.plainAttrs_dict PySem.F.slot_dict_update PySem.F.type_dict_update mtd_update (pv 1) (pa_cons (pe_disp (pps_cons pe_str pe_str (pps_cons pe_str pe_str (pps_cons pe_str pe_str (pps_cons pe_str pe_str (pps_cons pe_str pe_str (pps_cons pe_str pe_str (pps_cons pe_str pe_str (pps_cons pe_str pe_str pps_nil)))))))) (by rfl) (by rfl) (fun z => by cases z) (by decide)) pa_nil)))
      (pss_cons (ps_expr (pe_bm PySem.F.plainAttrs_dict PySem.F.slot_dict_update PySem.F.type_dict_update mtd_update (pv 1) (pa_cons (pe_disp (pps_cons pe_str pe_str (pps_cons pe_str pe_str (pps_cons pe_str pe_str (pps_cons pe_str pe_str (pps_cons pe_str pe_str (pps_cons pe_str pe_str (pps_cons pe_str pe_str pps_nil))))))) (by rfl) (by rfl) (fun z => by cases z) (by decide)) pa_nil)))
      (pss_cons (ps_expr (pe_bm PySem.F.plainAttrs_dict PySem.F.slot_dict_update PySem.F.type_dict_update mtd_update (pv 1) (pa_cons (pe_disp (pps_cons pe_str pe_str (pps_cons pe_str pe_str (pps_cons pe_str pe_str (pps_cons pe_str pe_str (pps_cons pe_str pe_str (pps_cons pe_str pe_str (pps_cons pe_str pe_str pps_nil))))))) (by rfl) (by rfl) (fun z => by cases z) (by decide)) pa_nil)))
      (pss_cons (ps_expr (pe_bm PySem.F.plainAttrs_dict PySem.F.slot_dict_update PySem.F.type_dict_update mtd_update (pv 1) (pa_cons (pe_disp (pps_cons pe_str pe_str (pps_cons pe_str pe_str (pps_cons pe_str pe_str (pps_cons pe_str pe_str pps_nil)))) (by rfl) (by rfl) (fun z => by cases z) (by decide)) pa_nil)))
      (pss_one (ps_ret (pe_dget2 hu (pv 1) (pv 0) pe_non ⟨rfl, rfl, rfl, rfl⟩))))))), ?_⟩
    intro p np
    refine ⟨upd_same, kvO slA, rfl, (by decide), ?_⟩
    have hs0 : Same H (upd (upd H p (.dK [])) p (.dK mA)) := fun b o e => by rw [upd_ne (ne_of_none e np), upd_ne (ne_of_none e np)]; exact e
    refine ⟨_, rfl, .inr (.inr (.inl ⟨rfl, .inl ⟨_, upd_same⟩⟩)), fun p2 n2 => ?_⟩
    obtain ⟨a1, b1, c1⟩ := upd_step (x := mergeK [] (kvO slB)) (y := mB) np hs0 upd_same n2
    refine ⟨upd_same, kvO slB, rfl, (by decide), p, p2, mA, _, rfl, rfl, a1, b1, upd_same, few (by decide), ?_⟩
    refine ⟨_, rfl, .inr (.inr (.inl ⟨rfl, .inl ⟨_, upd_same⟩⟩)), fun p3 n3 => ?_⟩
    obtain ⟨a2, b2, c2⟩ := upd_step (x := mergeK [] (kvO slC)) (y := mC) np c1 upd_same n3
    refine ⟨upd_same, kvO slC, rfl, (by decide), p, p3, mB, _, rfl, rfl, a2, b2, upd_same, few (by decide), ?_⟩
    refine ⟨_, rfl, .inr (.inr (.inl ⟨rfl, .inl ⟨_, upd_same⟩⟩)), fun p4 n4 => ?_⟩
    obtain ⟨a3, b3, c3⟩ := upd_step (x := mergeK [] (kvO slD)) (y := mD) np c2 upd_same n4
    refine ⟨upd_same, kvO slD, rfl, (by decide), p, p4, mC, _, rfl, rfl, a3, b3, upd_same, few (by decide), ?_⟩
    refine ⟨_, rfl, .inr (.inr (.inl ⟨rfl, .inl ⟨_, upd_same⟩⟩)), fun p5 n5 => ?_⟩
    obtain ⟨a4, b4, c4⟩ := upd_step (x := mergeK [] (kvO slE)) (y := mE) np c3 upd_same n5
    refine ⟨upd_same, kvO slE, rfl, (by decide), p, p5, mD, _, rfl, rfl, a4, b4, upd_same, few (by decide), ?_⟩
    refine ⟨_, rfl, p, rfl, .inl ⟨_, .inl upd_same⟩, _, rfl, _, DGet.k (k := .inr x) upd_same, ?_⟩
    show Q ((valV mE (.inr x)).getD .non) _
    rw [mergeO, valV_kvO]
    exact q _ c4
theorem scTs : FnScope ["_law_word"] ["_law_word"] (defScope sTSlots) := ⟨rfl, rfl, rfl, by decide +kernel, rfl, by decide +kernel, by decide +kernel⟩
theorem ok_tslots {f : Addr} {fd : FuncData} (F : Fun K "_law_test_slots" "_law_test_slots" sTSlots f fd) : FnOk P w K mg base CX0 1 f fd ["_law_word"] (spSlot slT) := by
  refine F.ok scTs (fun vs H Q E h => ?_) (fun cdv A outer s H vs Q E hr h => ?_)
  · obtain ⟨x, rfl, _⟩ := h
    rfl
  · obtain ⟨x, rfl, q⟩ := h
    have hu := Nat.lt_of_le_of_lt (Nat.add_le_add_left (show 1 ≤ 64 by decide) _) hr.units
    refine ⟨_, pss_one (ps_ret (pe_dget2 hu (pe_disp (pps_cons pe_str pe_str (pps_cons pe_str pe_str (pps_cons pe_str pe_str (pps_cons pe_str pe_str (pps_cons pe_str pe_str (pps_cons pe_str pe_str pps_nil)))))) (by rfl) (by rfl) (fun z => by cases z) (by decide)) (pv 0) pe_non ⟨rfl, rfl, rfl, rfl⟩)), ?_⟩
    intro p np
    refine ⟨upd_same, kvO slT, rfl, (by decide), ?_⟩
    refine ⟨p, rfl, .inl ⟨_, .inl upd_same⟩, _, rfl, _, DGet.k (k := .inr x) upd_same, ?_⟩
    have e : (valV (mergeK [] (kvO slT)) (.inr x)).getD .non = optS (slT.lookup x) := valV_kvO x slT
    show Q ((valV (mergeK [] (kvO slT)) (.inr x)).getD .non) _
    rw [e]
    exact q _ fun b o e => by rw [upd_ne (ne_of_none e np), upd_ne (ne_of_none e np)]; exact e
end
end Toy


namespace Toy
open PySem PySem.Spec PyProof.Rows L2 RZ
section
variable {prog : Program} {w : World} {A : Around} {E : Value → Shared → Prop} {s : Shared}
theorem drawsTuple (hh : A.handled = none) (it l : Addr) (hne : l ≠ it) (items : Array Value) :
    Draws prog w A it [it, l] items.size (fun i v => items[i]? = some v) (fun i h => h.IsTupleIter it l i ∧ h.IsTuple l items) where
  live := fun _ _ st => let ⟨o, ho, _⟩ := st.1; ⟨o, ho⟩
  frame := fun _ _ _ st hk => ⟨st.1.at fun o e => hk it (by simp) o e, by obtain ⟨o, e, r⟩ := st.2; exact ⟨o, hk l (by simp) o e, r⟩⟩
  item := fun i s Q E hi st hQ => by
    refine nextOf_tuple_item st.1 st.2 (x := items[i]) (by simp [hi]) fun h' hit' hs' => ?_
    exact hQ _ h' s.toks (by simp [hi]) ⟨hit', st.2.extBut hs'.extBut hne⟩ hs'
  done := fun s Q E st hE => nextOf_tuple_end hh st.1 st.2 (by simp) hE
abbrev zipSH1 (h : Heap) (x : Str) (t : Tok) : Heap := h.push { cls := .type "str_ascii_iterator", data := .fields #[.str x t, .int 0 0] }
abbrev zipSH2 (h : Heap) (x : Str) (t : Tok) (l2 : Addr) : Heap := (zipSH1 h x t).push { cls := .type "tuple_iterator", data := .fields #[.ref l2, .int 0 0] }
abbrev zipSH3 (h : Heap) (x : Str) (t : Tok) (l2 : Addr) : Heap := (zipSH2 h x t l2).push { cls := .type "tuple", data := .seq #[.ref h.objs.size, .ref (zipSH1 h x t).objs.size] }
abbrev zipSH4 (h : Heap) (x : Str) (t : Tok) (l2 : Addr) : Heap := (zipSH3 h x t l2).push { cls := .type "tuple", data := .seq #[.none, .none] }
abbrev zipSH5 (h : Heap) (x : Str) (t : Tok) (l2 : Addr) : Heap := (zipSH4 h x t l2).push { cls := .type "zip", data := .fields #[.none, .bool false, .bool false, .ref (zipSH2 h x t l2).objs.size, .ref (zipSH3 h x t l2).objs.size] }
theorem meets_zipS_new (x : Str) (t : Tok) (ha : x.cps.all (· < 128) = true) (l2 : Addr) (ys : Array Value) :
    Meets (Builtin.«zip.__new__» ⟨[.type "zip", .str x t, .ref l2], []⟩) (fun _ R s => s.heap.IsTuple l2 ys ∧
      R (.ok (.ret (.ref (zipSH4 s.heap x t l2).objs.size))) { s with heap := zipSH5 s.heap x t l2 }) :=
  .of_wp fun prog w A R s h => by
    obtain ⟨hp, g, d, tk, os⟩ := s; obtain ⟨hl2, h⟩ := h
    have hsub := sub_zip
    have hL2 : Heap.IsTuple (Shared.heap ⟨hp.push { cls := .type "str_ascii_iterator", data := .fields #[.str x t, .int 0 0] }, g, d, tk, os⟩) l2 ys := Heap.IsTuple.push hl2 _
    wp_walk using wpAny_pyIter_ascii ha, wpAny_pyIter_tuple hL2
    exact ⟨_, rfl, h⟩
theorem call_zipS {x : Str} {t : Tok} (ha : x.cps.all (· < 128) = true) {l2 : Addr} {ys : Array Value} {Q : Value → Shared → Prop} (hl2 : s.heap.IsTuple l2 ys)
    (h : ∀ h', IsZip h' (s.heap.objs.size + 4) (s.heap.objs.size + 2) (s.heap.objs.size + 3) .none → IsPair h' (s.heap.objs.size + 2) (.ref s.heap.objs.size) (.ref (s.heap.objs.size + 1)) →
      IsPair h' (s.heap.objs.size + 3) .none .none → h'.IsStrIter s.heap.objs.size "str_ascii_iterator" x t 0 → h'.IsTupleIter (s.heap.objs.size + 1) l2 0 → h'.objs.size = s.heap.objs.size + 5 →
      (∀ c o, s.heap.get? c = some o → h'.get? c = some o) → Q (.ref (s.heap.objs.size + 4)) { s with heap := h' }) :
    wpAny (model prog w) A (call (.type "zip") [.str x t, .ref l2]) Q E s := by
  refine callType_new F.called_zip (by decide) (F.typeCall_zip_2 _ _) (F.newCall_zip_2 _ _) (fun obj => F.args_object_init_3 obj _ _) F.entry_zip_new
    (meets_zipS_new x t ha l2 ys) ⟨hl2, ?_⟩
  have z1 : (zipSH1 s.heap x t).objs.size = s.heap.objs.size + 1 := Heap.size_push ..
  have z2 : (zipSH2 s.heap x t l2).objs.size = s.heap.objs.size + 2 := by rw [Heap.size_push, z1]
  have z3 : (zipSH3 s.heap x t l2).objs.size = s.heap.objs.size + 3 := by rw [Heap.size_push, z2]
  have z4 : (zipSH4 s.heap x t l2).objs.size = s.heap.objs.size + 4 := by rw [Heap.size_push, z3]
  have z5 : (zipSH5 s.heap x t l2).objs.size = s.heap.objs.size + 5 := by rw [Heap.size_push, z4]
  have g5 : (zipSH5 s.heap x t l2).get? (zipSH4 s.heap x t l2).objs.size = some _ := Heap.get?_push_size _ rfl
  have g4 : (zipSH5 s.heap x t l2).get? (zipSH3 s.heap x t l2).objs.size = some _ := Heap.get?_push_of_some _ (Heap.get?_push_size _ rfl)
  have g3 : (zipSH5 s.heap x t l2).get? (zipSH2 s.heap x t l2).objs.size = some _ := Heap.get?_push_of_some _ (Heap.get?_push_of_some _ (Heap.get?_push_size _ rfl))
  have g2 : (zipSH5 s.heap x t l2).get? (zipSH1 s.heap x t).objs.size = some _ := Heap.get?_push_of_some _ (Heap.get?_push_of_some _ (Heap.get?_push_of_some _ (Heap.get?_push_size _ rfl)))
  have g1 : (zipSH5 s.heap x t l2).get? s.heap.objs.size = some _ := Heap.get?_push_of_some _ (Heap.get?_push_of_some _ (Heap.get?_push_of_some _ (Heap.get?_push_of_some _ (Heap.get?_push_size _ rfl))))
  show _ ∧ _
  rw [z2, z3, z4] at g5
  rw [z1, z2] at g3
  rw [z3] at g4
  rw [z1] at g2
  rw [z4]
  exact ⟨⟨_, g5, rfl⟩, h _ g5 g3 g4 ⟨_, g1, rfl, rfl⟩ ⟨_, g2, rfl, rfl⟩ z5 fun c o x =>
    Heap.get?_push_of_some _ (Heap.get?_push_of_some _ (Heap.get?_push_of_some _ (Heap.get?_push_of_some _ (Heap.get?_push_of_some _ x))))⟩
end
/-- the letters of x and the tuple at b -/
def ItzS (K : PySem.W.Frag) (x : Str) (b : Addr) : It :=
  ⟨fun i H => ∃ (ys : List V), SqT K H b ys ∧ i < ys.length ∧ i < x.cps.size,
    fun i H v H' => ∃ T c y, v = .ref T ∧ H T = none ∧ x.cps[i]? = some c ∧ H' = upd H T (.tup [.str ⟨#[c]⟩, y]) ∧ ∀ ys, SqT K H b ys → ys[i]? = some y,
    fun i H => ∃ ys : List V, SqT K H b ys ∧ i ≤ ys.length ∧ i ≤ x.cps.size ∧ (i = x.cps.size ∨ i = ys.length)⟩
theorem turn_zipS {P : Program} {w : World} {K : PySem.W.Frag} {elts : List Expr} {kk : Nat} {tpos : Pos} {x : Str} {t : Tok} {b z TI TO i1 i2 : Addr} (D : ZipApart z TI TO i1 i2 b b) :
    Turn P w K (.Tuple elts kk tpos) (ItzS K x b) [z, TI, TO, i1, i2] z (fun i h => IsZip h z TI TO .none ∧ IsPair h TI (.ref i1) (.ref i2) ∧ (∃ x y, IsPair h TO x y) ∧ h.IsStrIter i1 "str_ascii_iterator" x t i ∧ h.IsTupleIter i2 b i) where
  mem := by simp
  obj := fun i h st c hc => by
    obtain ⟨hz, hTI, ⟨x, y, hTO⟩, ⟨o1, e1, _, d1⟩, ⟨o2, e2, _, d2⟩⟩ := st
    have e' : c = z ∨ c = TI ∨ c = TO ∨ c = i1 ∨ c = i2 := by simpa using hc
    rcases e' with q | q | q | q | q
    · rw [q]; exact ⟨_, hz, fun v q => nomatch q⟩
    · rw [q]; exact ⟨_, hTI, fun v q => nomatch q⟩
    · rw [q]; exact ⟨_, hTO, fun v q => nomatch q⟩
    · rw [q]; exact ⟨o1, e1, fun v q => by rw [d1] at q; cases q⟩
    · rw [q]; exact ⟨o2, e2, fun v q => by rw [d2] at q; cases q⟩
  keep := fun i h h' st k => by
    obtain ⟨hz, hTI, ⟨x, y, hTO⟩, ⟨o1, e1, r1⟩, h2⟩ := st
    exact ⟨k z (by simp) _ hz, k TI (by simp) _ hTI, ⟨x, y, k TO (by simp) _ hTO⟩, ⟨o1, k i1 (by simp) _ e1, r1⟩, h2.at fun o q => k i2 (by simp) o q⟩
  item := by
    intro X hP hw hK hc i pins s σ H E I hf st hg
    subst hP hw hK
    obtain ⟨hz, hTI, ⟨x0, y0, hTO⟩, h1, h2⟩ := st
    obtain ⟨ys, hqy, hiy, hix⟩ := hg
    obtain ⟨its2, rv2, p2, _⟩ := I.tuple hqy
    have hl2 := rv2.length
    have hzl : z < s.heap.objs.size := Heap.lt_size hz
    have hh : X.A.in1.handled = none := I.ok.hd hc
    refine wpAny_pyNext_zipD2_item (a1 := x0) (a2 := y0) (St1 := fun i h => h.IsStrIter i1 "str_ascii_iterator" x t i) (St2 := fun i h => h.IsTupleIter i2 b i ∧ h.IsTuple b its2.toArray)
      ⟨D.TIz, D.TOz, D.TITO, D.TIi1, by simp, by simp [D.i1z.symm], by simp [D.TOi1], D.TIi2, by simp, by simp [D.i2z.symm, D.l2z.symm], by simp [D.TOi2, D.l2TO.symm], by simp [D.i12, D.l2i1.symm], by simp [D.i12.symm]⟩
      (Draws.strAscii hh i1 x t) (drawsTuple hh i2 b D.l2i2 its2.toArray) hz hTI hTO h1 ⟨h2, p2⟩ hix (by simp; omega) fun u1 u2 h' tk P1 P2 z' TO' h1' h2' hT hsz hk => ?_
    obtain ⟨c, t1, ec, eu⟩ := P1
    subst eu
    have hy : ys[i]? = some ys[i] := List.getElem?_eq_getElem hiy
    obtain ⟨u, hu, ru⟩ := rv2.get hy
    obtain rfl : u = u2 := by
      have : its2.toArray[i]? = some u2 := P2
      rw [show its2.toArray[i]? = its2[i]? by simp] at this
      rw [hu] at this
      exact Option.some.inj this
    refine ⟨_, rfl, wpAny_letOwnedTupleGo_zip (s := { s with heap := h', toks := tk }) z' fun h'' z'' sb => ?_⟩
    have hT2 : h''.get? s.heap.objs.size = some { cls := .type "tuple", data := .seq #[.str ⟨#[c]⟩ t1, u] } := (sb.2 _ (Nat.ne_of_gt hzl)).trans hT
    have new : ObjOk X.prog X.w (upd H s.heap.objs.size (.tup [.str ⟨#[c]⟩, ys[i]])) h'' s.heap.objs.size (.tup [.str ⟨#[c]⟩, ys[i]]) :=
      ⟨by show 2 ≤ sizeLine; decide, [.str ⟨#[c]⟩ t1, u], .cons ⟨t1, rfl⟩ (.cons ru .nil), ⟨_, hT2, rfl, _, rfl⟩⟩
    have I1 : Inv X pins σ (upd H s.heap.objs.size (.tup [.str ⟨#[c]⟩, ys[i]])) { s with heap := h'', toks := tk } :=
      I.turnedNew (t' := tk) (ch := [z, TI, TO, i1, i2]) (fun c o hb q => (sb.2 c (fun q' => hb (by simp [q']))).trans (hk c o (fun q' => hb (by simp [q'])) (fun q' => hb (by simp [q'])) (fun q' => hb (by simp [q'])) (fun q' => hb (by simp [q'])) q)) hf (Nat.le_refl _) new
    refine ⟨.ref s.heap.objs.size, _, I1, rfl, ⟨_, c, ys[i], rfl, I.hok.fresh (Nat.le_refl _), ec, rfl, fun l hl => by rw [I.tuple_inj hl hqy]; exact hy⟩, ⟨z'', ?_, ⟨.str ⟨#[c]⟩ t1, u, ?_⟩, ?_, ?_⟩, fun c hcm => ?_⟩
    · exact (sb.2 _ D.TIz).trans (hk _ _ D.TIz D.TITO D.TIi1 D.TIi2 hTI)
    · exact (sb.2 _ D.TOz).trans TO'
    · obtain ⟨o1, e1, r1⟩ := h1'
      exact ⟨o1, (sb.2 _ D.i1z).trans e1, r1⟩
    · exact h2'.1.at fun o q => (sb.2 _ D.i2z).trans q
    · have hlt : c < s.heap.objs.size := by
        have e' : c = z ∨ c = TI ∨ c = TO ∨ c = i1 ∨ c = i2 := by simpa using hcm
        rcases e' with q | q | q | q | q
        · rw [q]; exact hzl
        · rw [q]; exact Heap.lt_size hTI
        · rw [q]; exact Heap.lt_size hTO
        · rw [q]; obtain ⟨_, e1, _⟩ := h1; exact Heap.lt_size e1
        · rw [q]; obtain ⟨_, e2, _⟩ := h2; exact Heap.lt_size e2
      rw [upd_ne (Nat.ne_of_lt hlt)]
      exact (hf c hcm).1
  done := by
    intro X hP hw hK hc i pins s σ H E I hf st hg
    subst hP hw hK
    obtain ⟨hz, hTI, ⟨x0, y0, hTO⟩, h1, h2⟩ := st
    obtain ⟨ys, hqy, hly, hlx, hend⟩ := hg
    obtain ⟨its2, rv2, p2, _⟩ := I.tuple hqy
    have hl2 := rv2.length
    have hh : X.A.in1.handled = none := I.ok.hd hc
    refine wpAny_pyNext_zipD2_end (a1 := x0) (a2 := y0) (St1 := fun i h => h.IsStrIter i1 "str_ascii_iterator" x t i) (St2 := fun i h => h.IsTupleIter i2 b i ∧ h.IsTuple b its2.toArray)
      ⟨D.TIz, D.TOz, D.TITO, D.TIi1, by simp, by simp [D.i1z.symm], by simp [D.TOi1], D.TIi2, by simp, by simp [D.i2z.symm, D.l2z.symm], by simp [D.TOi2, D.l2TO.symm], by simp [D.i12, D.l2i1.symm], by simp [D.i12.symm]⟩
      (Draws.strAscii hh i1 x t) (drawsTuple hh i2 b D.l2i2 its2.toArray) hz hTI hTO h1 ⟨h2, p2⟩ hlx (by simp; omega) (by simp; omega) fun h' tk hk => ?_
    exact ⟨rfl, I.turnedL (t' := tk) (ch := [z, TI, TO, i1, i2]) (fun c o hb q =>
      hk c o (fun q' => hb (by simp [q'])) (fun q' => hb (by simp [q'])) (fun q' => hb (by simp [q'])) (fun q' => hb (by simp [q'])) q) hf⟩
  self := fun A i s Q E st h => wpAny_pyIter_zip st.1 h
def iZipS (K : PySem.W.Frag) (ta : TA) : TI := fun σ H R => ta σ H fun vs H1 => ∃ (x : Str) (b : Addr) (ys : List V), vs = [.str x, .ref b] ∧ x.cps.all (· < 128) = true ∧ SqT K H1 b ys ∧ R (ItzS K x b) H1
theorem pi_zipS {X : Cx} {e e2 : Expr} {ta : TA} {p pos tpos : Pos} {elts : List Expr} {kk : Nat} (hg : Gl X "zip") (hm : X.mg "zip" = none) (ha : PA X [e, e2] ta)
    (hs : starEach [e, e2] X.env = (false, eval e X.env) :: starEach [e2] X.env := by rfl) (hpl : (backTo pos (starEach [e2] X.env)).any (·.1) = false := by rfl) :
    PI X (.Tuple elts kk tpos) (.Call (.Name "zip" p) [e, e2] [] pos) (iZipS X.K ta) := by
  refine ⟨fun pins s σ H R I h => ?_⟩
  refine Call_ (ld_blt I hg hm PyProof.Rows.boot_zip (PyProof.Rows.callWith_type1 (thn (ha.run pos pins s σ H _ I h) fun us s1 ⟨vs, H1, I1, r1, q1⟩ => ?_) hs hpl))
  obtain ⟨x, b, ys, ex, hx, hqy, q⟩ := q1
  subst ex
  cases r1 with
  | cons r rr =>
    cases rr with
    | cons r' rr =>
      cases rr
      obtain ⟨t, rfl⟩ := r
      cases r'
      have fresh5 : ∀ c, c ∈ [s1.heap.objs.size + 4, s1.heap.objs.size + 2, s1.heap.objs.size + 3, s1.heap.objs.size, s1.heap.objs.size + 1] → FpOk X pins H1 c := fun c hcm => by
        have e' : c = s1.heap.objs.size + 4 ∨ c = s1.heap.objs.size + 2 ∨ c = s1.heap.objs.size + 3 ∨ c = s1.heap.objs.size ∨ c = s1.heap.objs.size + 1 := by simpa using hcm
        have hle : s1.heap.objs.size ≤ c := by
          rcases e' with z | z | z | z | z
          · rw [z]; exact Nat.le_add_right _ _
          · rw [z]; exact Nat.le_add_right _ _
          · rw [z]; exact Nat.le_add_right _ _
          · rw [z]; exact Nat.le_refl _
          · rw [z]; exact Nat.le_add_right _ _
        exact I1.fpOk hle (I1.hok.fresh hle)
      obtain ⟨its2, rv2, p2, _⟩ := I1.tuple hqy
      obtain ⟨o2, ho2, _⟩ := id p2
      refine call_zipS hx (show s1.heap.IsTuple b its2.toArray from p2) fun h' hz hTI hTO h1 h2 hsz hk => wpAny_pyIter_zip hz ?_
      have I2 : Inv X pins σ H1 { s1 with heap := h' } := I1.kept (t' := s1.toks) hk
      exact ⟨s1.heap.objs.size + 4, [s1.heap.objs.size + 4, s1.heap.objs.size + 2, s1.heap.objs.size + 3, s1.heap.objs.size, s1.heap.objs.size + 1], _, _, H1, rfl, I2, turn_zipS (PySem.W.ktu_apart s1.heap.objs.size b b (Heap.lt_size ho2) (Heap.lt_size ho2)), ⟨hz, hTI, ⟨_, _, hTO⟩, h1, h2⟩, fresh5, q⟩
end Toy


namespace Toy
open PySem PySem.Spec L2 PyProof.Rows PySem.W
abbrev sParts : Stmt := top 55
def itemsD : PyData → List PyData
  | .tuple gs => gs
  | _ => []
def sndD : PyData → PyData
  | .tuple [_, g] => g
  | x => x
def partsK (k : Str) (f : PyData) : List PyData := if PK k = true then [f] else if k = "filters" then itemsD f else if k = "entries" then (itemsD f).map sndD else []
def partsF : List Str → List PyData → List PyData
  | k :: ks, f :: fs => partsK k f ++ partsF ks fs
  | _, _ => []
theorem partsF_take : ∀ (ks : List Str) (fs : List PyData) (i : Nat) {k : Str} {f : PyData}, ks[i]? = some k → fs[i]? = some f → partsF (ks.take (i + 1)) (fs.take (i + 1)) = partsF (ks.take i) (fs.take i) ++ partsK k f
  | k :: ks, f :: fs, 0, _, _, h1, h2 => by
    cases h1
    cases h2
    simp [partsF]
  | k :: ks, f :: fs, i + 1, _, _, h1, h2 => by
    have := partsF_take ks fs i (by simpa using h1) (by simpa using h2)
    simp only [List.take_succ_cons, partsF]
    rw [this, List.append_assoc]
  | [], _, _, _, _, h1, _ => by simp at h1
  | _ :: _, [], _, _, _, _, h2 => by simp at h2
/-- the letter of a slot -/
def letC (k : Str) : Nat := if k = "filter" then 102 else if k = "test" then 116 else if k = "walk" then 119 else if k = "chooser" then 99 else if k = "entries" then 101 else if k = "filters" then 97 else if k = "key" then 107 else if k = "index" then 105
  else if k = "free" then 110 else if k = "leaf" then 120 else if k = "sort" then 115 else 112
def slotW (w : Str) : Option Str := match slF.lookup w with
  | some x => some x
  | none => slT.lookup w
theorem slot_form : ∀ p ∈ formsL, ∃ x, slotW p.1 = some x ∧ x.cps.toList = p.2.map letC ∧ x.cps.all (· < 128) = true ∧ ∀ k ∈ p.2, PK k = decide (letC k ∈ ("fwct" : Str).cps.toList) ∧ decide (k = "entries") = decide ((⟨#[letC k]⟩ : Str) = "e") ∧ decide (k = "filters") = decide ((⟨#[letC k]⟩ : Str) = "a") := by
  have h : ∀ p ∈ formsL, (match slotW p.1 with
    | some x => decide (x.cps.toList = p.2.map letC) && x.cps.all (· < 128) && p.2.all fun k => decide (PK k = decide (letC k ∈ ("fwct" : Str).cps.toList)) && decide (decide (k = "entries") = decide ((⟨#[letC k]⟩ : Str) = "e")) && decide (decide (k = "filters") = decide ((⟨#[letC k]⟩ : Str) = "a"))
    | none => false) = true := by decide +kernel
  intro p hp
  have z := h p hp
  cases e : slotW p.1 with
  | none => rw [e] at z; cases z
  | some x =>
    rw [e] at z
    simp only [Bool.and_eq_true, List.all_eq_true, decide_eq_true_eq] at z
    refine ⟨x, rfl, z.1.1, z.1.2, fun k hk => ?_⟩
    obtain ⟨⟨a, b⟩, c⟩ := z.2 k hk
    exact ⟨a, b, c⟩
theorem lookup_mem {w : Str} {ks : List Str} : ∀ {L : List (Str × List Str)}, L.lookup w = some ks → (w, ks) ∈ L
  | [], h => by cases h
  | (k, v) :: L, h => by
    by_cases e : w = k
    · subst e
      simp [List.lookup] at h
      subst h
      exact List.mem_cons_self
    · have : (w == k) = false := by simp [e]
      simp only [List.lookup, this] at h
      exact List.mem_cons_of_mem _ (lookup_mem h)
theorem cut_1 (a : V) (xs : List V) : cutV (a :: xs) (some 1) none = xs := by
  unfold cutV
  rw [show HT.sIx (a :: xs).length 0 (some 1) = min 1 (a :: xs).length from HT.sIx_nat _ _ 1, HT.sIx_none]
  rw [show min 1 (a :: xs).length = 1 by simp]
  simp
theorem cut_1w (a : V) (xs : List V) : ¬ (HT.sIx (a :: xs).length 0 (some 1) = 0 ∧ HT.sIx (a :: xs).length (a :: xs).length none = (a :: xs).length) := by
  rw [show HT.sIx (a :: xs).length 0 (some 1) = min 1 (a :: xs).length from HT.sIx_nat _ _ 1]
  intro h
  have := h.1
  rw [List.length_cons] at this
  omega
end Toy


namespace Toy
open PySem PySem.Spec L2 PyProof.Rows PySem.W
theorem fresh_of {H H1 : Hp} {p : Addr} (s : Same H H1) (n : H1 p = none) : H p = none := by
  cases e : H p with
  | none => rfl
  | some o =>
    rw [s _ _ e] at n
    cases n
theorem for_zipS {K : PySem.W.Frag} {x : Str} {b : Addr} {ys : List V} {g : TG} {tb : TS} {D : Ends} {σ : L2.St} {H : Hp} (hl : x.cps.size = ys.length) (Pv : Nat → L2.St → Hp → Prop) (h0 : Pv 0 σ H) (hq : ∀ i σ H, Pv i σ H → SqT K H b ys)
    (hs : ∀ (i : Nat) (c : Nat) (y : V) (T : Addr) (σ : L2.St) (H : Hp), x.cps[i]? = some c → ys[i]? = some y → Pv i σ H → H T = none → g (.ref T) σ (upd H T (.tup [.str ⟨#[c]⟩, y])) fun σ2 H2 => tb { D with nx := Pv (i + 1), ct := Pv (i + 1), bk := D.nx } σ2 H2) (hd : ∀ σ H, Pv ys.length σ H → D.nx σ H) :
    ∃ W : Nat → Nat → L2.St → Hp → Prop, (∃ m, W 0 m σ H) ∧ ∀ i m σ H, W i m σ H →
      ((ItzS K x b).stop i H ∧ D.nx σ H) ∨ ((ItzS K x b).go i H ∧ ∃ N : L2.St → Hp → Prop, (∀ σ' H', N σ' H' → ∃ m', m' < m ∧ W (i + 1) m' σ' H') ∧ ∀ v H', (ItzS K x b).yld i H v H' → g v σ H' fun σ2 H2 => tb { D with nx := N, ct := N, bk := D.nx } σ2 H2) := by
  refine ⟨fun i m σ H => m = ys.length - i ∧ i ≤ ys.length ∧ Pv i σ H, ⟨ys.length, rfl, Nat.zero_le _, h0⟩, ?_⟩
  rintro i m σ H ⟨rfl, hi, p⟩
  have qy := hq i σ H p
  by_cases hlt : i < ys.length
  · have hy : ys[i]? = some ys[i] := List.getElem?_eq_getElem hlt
    refine .inr ⟨⟨ys, qy, hlt, by omega⟩, Pv (i + 1), fun σ' H' p' => ⟨ys.length - (i + 1), by omega, rfl, hlt, p'⟩, fun v H' y => ?_⟩
    obtain ⟨T, c, y', rfl, hT, hc, rfl, f2⟩ := y
    exact hs i c y' T σ H hc (f2 ys qy) p hT
  · have e : i = ys.length := by omega
    subst e
    exact .inl ⟨⟨ys, qy, Nat.le_refl _, by omega, Or.inr rfl⟩, hd σ H p⟩
theorem forms_len : ∀ p ∈ formsL, p.2.length ≤ 4 := by decide +kernel
theorem flds_get {p : PyData → Bool} : ∀ {ks : List Str} {fs : List PyData} {i : Nat} {k : Str} {f : PyData}, flds p ks fs = true → ks[i]? = some k → fs[i]? = some f → fldOk p k f = true
  | k :: ks, f :: fs, 0, _, _, h, h1, h2 => by
    cases h1
    cases h2
    simp only [flds, Bool.and_eq_true] at h
    exact h.1
  | k :: ks, f :: fs, i + 1, _, _, h, h1, h2 => by
    simp only [flds, Bool.and_eq_true] at h
    exact flds_get (i := i) h.2 (by simpa using h1) (by simpa using h2)
  | [], _, _, _, _, _, h1, _ => by simp at h1
  | _ :: _, [], _, _, _, _, _, h2 => by simp at h2
theorem tupAll_cases {p : PyData → Bool} {f : PyData} (h : tupAll p f = true) : ∃ gs, f = .tuple gs ∧ gs.length ≤ 2 ∧ gs.all p = true := by
  unfold tupAll at h
  split at h
  · rename_i gs
    rw [Bool.and_eq_true] at h
    exact ⟨gs, rfl, of_decide_eq_true h.1, h.2⟩
  · cases h
theorem isEnt_cases {p : PyData → Bool} {f : PyData} (h : isEnt p f = true) : ∃ x g, f = .tuple [.str x, g] ∧ okK x = true ∧ p g = true := by
  unfold isEnt at h
  split at h
  · rename_i x g
    rw [Bool.and_eq_true] at h
    exact ⟨x, g, rfl, h.1, h.2⟩
  · cases h
theorem fld_f {p : PyData → Bool} {f : PyData} (h : fldOk p "filters" f = true) : tupAll p f = true := by
  rw [fldOk, if_neg (by decide +kernel), if_pos rfl] at h
  exact h
theorem fld_e {p : PyData → Bool} {f : PyData} (h : fldOk p "entries" f = true) : tupAll (isEnt p) f = true := by
  rw [fldOk, if_neg (by decide +kernel), if_neg (by decide +kernel), if_pos rfl] at h
  exact h
def partsOf : PyData → List PyData
  | .tuple (.str w :: fs) => match formOf w with
    | some ks => partsF ks fs
    | none => []
  | _ => []
theorem partsOf_node {w : Str} {fs : List PyData} {ks : List Str} (h : formOf w = some ks) : partsOf (.tuple (.str w :: fs)) = partsF ks fs := by
  unfold partsOf
  simp only [h]
theorem dpl_len {K : PySem.W.Frag} {H : Hp} : ∀ {vs : List V} {ds : List PyData}, DpAll K H vs ds → vs.length = ds.length
  | _, _, .nil => rfl
  | _, _, .cons _ r => by rw [List.length_cons, List.length_cons, dpl_len r]
theorem dpl_app {K : PySem.W.Frag} {H : Hp} : ∀ {vs : List V} {ds : List PyData} {us : List V} {es : List PyData}, DpAll K H vs ds → DpAll K H us es → DpAll K H (vs ++ us) (ds ++ es)
  | _, _, _, _, .nil, r => r
  | _, _, _, _, .cons a b, r => .cons a (dpl_app b r)
theorem dpl_get {K : PySem.W.Frag} {H : Hp} : ∀ {vs : List V} {ds : List PyData} {i : Nat} {v : V}, DpAll K H vs ds → vs[i]? = some v → ∃ d, ds[i]? = some d ∧ Dp K H v d
  | _, _, 0, _, .cons a _, h => by cases h; exact ⟨_, rfl, a⟩
  | _, _, i + 1, _, .cons _ b, h => by
    obtain ⟨d, e, z⟩ := dpl_get (i := i) b (by simpa using h)
    exact ⟨d, by simpa using e, z⟩
  | _, _, _, _, .nil, h => by simp at h
theorem at_nat {xs : List V} {n : Nat} {v : V} (h : xs[n]? = some v) : atI xs (n : Int) = some v := by
  have hl : n < xs.length := by
    rcases Nat.lt_or_ge n xs.length with z | z
    · exact z
    · rw [List.getElem?_eq_none z] at h
      cases h
  unfold atI
  have : ixN xs.length (n : Int) = some n := by
    unfold ixN
    rw [if_pos (Int.natCast_nonneg n)]
    simp [hl]
  rw [this]
  exact h
theorem tif_both {t1 t2 : TE} {c : Bool} {σ : L2.St} {H : Hp} {Q : VK} {R : Hp → Prop} {v : V} (hk : ∀ H3, R H3 → Q v H3) (h1 : c = true → ∀ Q' : VK, (∀ H3, R H3 → Q' v H3) → t1 σ H Q') (h2 : c = false → ∀ Q' : VK, (∀ H3, R H3 → Q' v H3) → t2 σ H Q') :
    if c = true then t1 σ H Q else t2 σ H Q := by
  cases c with
  | true => rw [if_pos rfl]; exact h1 rfl Q hk
  | false => rw [if_neg Bool.false_ne_true]; exact h2 rfl Q hk
theorem at_0 (a : V) (xs : List V) : atI (a :: xs) 0 = some a := at_nat (n := 0) rfl
def spParts (K : PySem.W.Frag) : Sp := fun vs H Q _ => ∃ (v : V) (n : Nat) (t : PyData), vs = [v] ∧ Dp K H v t ∧ wf (n + 1) t = true ∧ ∀ H' L us, Same H H' → H L = none → H' L = some (.lst us) → DpAll K H us (partsOf t) → us.length ≤ 1000 → Q (.ref L) H'
section
variable {P : Program} {w : World} {K : PySem.W.Frag} {mg : Str → Option Value} {base : Heap}
abbrev NPt : List Str := ["_law_term", "_law_found", "_law_slot", "_law_x", "_law_entry"]
theorem scPt : FnScope NPt ["_law_term"] (defScope sParts) := ⟨rfl, rfl, rfl, by decide +kernel, rfl, by decide +kernel, by decide +kernel⟩
theorem ok_parts {f fS fT : Addr} {fd fdS fdT : FuncData} (F : Fun K "_law_parts" "_law_parts" sParts f fd)
    (GS : FnOk P w K mg base CX0 1 fS fdS ["_law_word"] (spSlot slF)) (mS : mg "_law_slots" = some (.ref fS)) (kS : PySem.W.keepIn K (.ref fS) = true) (bS : Binds K fdS ["_law_word"] [])
    (GT : FnOk P w K mg base CX0 1 fT fdT ["_law_word"] (spSlot slT)) (mT : mg "_law_test_slots" = some (.ref fT)) (kT : PySem.W.keepIn K (.ref fT) = true) (bT : Binds K fdT ["_law_word"] [])
    (mZip : mg "zip" = none) (mLi : mg "list" = none) : FnOk P w K mg base CX0 2 f fd ["_law_term"] (spParts K) := by
  refine F.ok scPt (fun vs H Q E h => ?_) (fun cdv A outer s H vs Q E hr h => ?_)
  · obtain ⟨v, n, t, rfl, _⟩ := h
    rfl
  · obtain ⟨v, n, t, rfl, hv, hw, q⟩ := h
    obtain ⟨wd, fs, ks, rfl, hk, hf⟩ := wf_cases hw
    refine ⟨_, pss_cons (ps_set (i := 1) scPt.nd rfl (Or.inl rfl) (pe_lst pa_nil))
      (pss_cons (ps_for PassesOwn.never rfl (pi_zipS (by rfl) mZip (pa_cons (pe_ifExp (pt_cmpR op_notN (pe_call GS hr (by rfl) mS kS bS .nil pass0 (pa_cons (pe_ix ix_tup (pv 0) pe_int (fun _ _ => rfl)) pa_nil)) pe_non (nomark _))
          (pe_call GS hr (by rfl) mS kS bS .nil pass0 (pa_cons (pe_ix ix_tup (pv 0) pe_int (fun _ _ => rfl)) pa_nil)) (pe_call GT hr (by rfl) mT kT bT .nil pass0 (pa_cons (pe_ix ix_tup (pv 0) pe_int (fun _ _ => rfl)) pa_nil)))
          (pa_cons (pe_slice sl_tup (pv 0) (po_some pe_int) po_none) pa_nil)))
        (pg_tup (by rfl) (pgs_cons (pg_name (i := 2) scPt.nd rfl (.inl rfl)) (pgs_cons (pg_name (i := 3) scPt.nd rfl (.inl rfl)) pgs_nil)))
        (pss_one (ps_if (pt_cmpR op_in_sign (pv 2) pe_str (by with_unfolding_all rfl))
          (pss_one (ps_expr (pe_bm PySem.F.plainAttrs_list PySem.F.slot_list_append PySem.F.type_list_append mt_append (pv 1) (pa_cons (pv 3) pa_nil))))
          (pss_one (ps_if (pt_cmpR op_eq (pv 2) pe_str (nomark _))
            (pss_one (ps_set (i := 1) scPt.nd rfl (Or.inl rfl) (pe_op op_cat (pv 1) (pe_lc (own := [("_law_entry", 4)]) (g := gName 4) (te := tOp (rIxT K) (tVar 4) (tC (.int 1))) (by rfl) scPt.nd (pi_tup (pv 3))
              (blkOk_by (own := [("_law_entry", 4)]) (N := NPt) (sc := defScope sParts) (by decide +kernel)) (fun _ _ _ _ _ => pg_name (i := 4) scPt.nd rfl (Or.inl rfl)) (fun _ _ _ _ _ => pts_nil)
              (fun _ _ _ _ _ => by exact (pe_ix ix_tup (pv 4) pe_int (fun _ _ => rfl)))))))
            (pss_one (ps_if (pt_cmpR op_eq (pv 2) pe_str (nomark _))
              (pss_one (ps_set (i := 1) scPt.nd rfl (Or.inl rfl) (pe_op op_cat (pv 1) (pe_callTy call_list_of (by rfl) mLi (by decide +kernel) (pa_cons (pv 3) pa_nil)))))
              pss_nil)))))))
      (pss_one (ps_ret (pv 1)))), ?_⟩
    cases hv with
    | @tup av xs _ hseq hall =>
    cases hall with
    | @cons v0 vs d0 ds h0 hvs =>
    cases h0
    have hkl := flds_len hf
    have hvl := dpl_len hvs
    refine ⟨few (by show 0 ≤ 1000; decide), fun L nL => ?_⟩
    have sL : Same H (upd H L (.lst [])) := same_new same_id nL
    have q1 : SqT K (upd H L (.lst [])) av (.str wd :: vs) := same_seqT sL hseq
    have hL0 : (upd H L (.lst [])) L = some (.lst []) := upd_same
    generalize upd H L (.lst []) = H1 at sL q1 hL0 ⊢
    have hx0 : ∀ H2, Same H1 H2 → SqT K H2 av (.str wd :: vs) := fun H2 s2 => same_seqT s2 q1
    refine ⟨_, rfl, av, _, 0, _, rfl, rfl, q1, at_0 _ _, wd, rfl, fun H2 s2 => ⟨rfl, _, rfl, ?_⟩⟩
    obtain ⟨x, hx, hxl, hxa, hxk⟩ := slot_form _ (lookup_mem hk)
    refine tif_both (R := fun H3 => Same H1 H3) (v := .str x) (fun H3 s3 => ?_) (fun hc Q' k => ?_) (fun hc Q' k => ?_)
    rotate_left
    · cases e : slF.lookup wd with
      | none => rw [e] at hc; cases hc
      | some y =>
        have ex : y = x := by
          unfold slotW at hx
          rw [e] at hx
          exact Option.some.inj hx
        subst ex
        refine ⟨_, rfl, av, _, 0, _, rfl, rfl, hx0 _ s2, at_0 _ _, wd, rfl, fun H3 s3 => ?_⟩
        rw [e]
        exact k H3 (s2.trans s3)
    · cases e : slF.lookup wd with
      | some y =>
        rw [e] at hc
        simp [optS] at hc
      | none =>
        have ex : slT.lookup wd = some x := by
          unfold slotW at hx
          rw [e] at hx
          exact hx
        refine ⟨_, rfl, av, _, 0, _, rfl, rfl, hx0 _ s2, at_0 _ _, wd, rfl, fun H3 s3 => ?_⟩
        rw [ex]
        exact k H3 (s2.trans s3)
    refine ⟨_, rfl, 1, rfl, av, _, rfl, hx0 _ s3, cut_1w _ _, fun B nB => ?_⟩
    rw [cut_1]
    have sB : Same H1 (upd H3 B (.tup vs)) := same_new s3 nB
    have hB : (upd H3 B (.tup vs)) B = some (.tup vs) := upd_same
    have nLB : L ≠ B := ne_of_none (s3 _ _ hL0) nB
    have hLB : (upd H3 B (.tup vs)) L = some (.lst []) := (upd_ne nLB).trans (s3 _ _ hL0)
    have nB0 : H B = none := fresh_of (sL.trans s3) nB
    have sHB : Same H (upd H3 B (.tup vs)) := sL.trans sB
    generalize upd H3 B (.tup vs) = H4 at sB hB hLB sHB ⊢
    refine ⟨x, B, vs, rfl, hxa, SqT.of hB, ?_⟩
    have xsz : x.cps.size = ks.length := by
      have := congrArg List.length hxl
      rw [List.length_map] at this
      simpa using this
    have vk : vs.length = ks.length := by omega
    have k4 : ks.length ≤ 4 := forms_len _ (lookup_mem hk)
    refine for_zipS (K := K) (x := x) (b := B) (ys := vs) (by omega) (fun i σ H' => ∃ M us a b, σ = [some (.ref av), some (.ref M), a, b, none] ∧ Same H H' ∧ H M = none ∧ M ≠ B ∧ H' M = some (.lst us) ∧ H' B = some (.tup vs) ∧ DpAll K H us (partsF (ks.take i) (fs.take i)) ∧ us.length ≤ 9 * i)
      ⟨L, [], none, none, rfl, sHB, nL, nLB, hLB, hB, .nil, Nat.zero_le _⟩ ?_ ?_ ?_
    · rintro i σ H' ⟨M, us, a, b, _, _, _, _, _, e, _⟩
      exact SqT.of e
    · rintro i c y T σ H5 hc hy ⟨M, us, a, b, rfl, s5, nM, nMB, hM, hB5, hus, hlen⟩ nT
      have hi : i < vs.length := by
        rcases Nat.lt_or_ge i vs.length with z | z
        · exact z
        · rw [List.getElem?_eq_none z] at hy
          cases hy
      have i9 : i ≤ 4 := by omega
      obtain ⟨f0, hf0, hyf⟩ := dpl_get hvs hy
      have hki : ks[i]? = some ks[i] := List.getElem?_eq_getElem (by omega)
      generalize ks[i] = k0 at hki
      have hcl : c = letC k0 := by
        have : x.cps.toList[i]? = some c := by rw [Array.getElem?_toList]; exact hc
        rw [hxl, List.getElem?_map, hki] at this
        exact (Option.some.inj this).symm
      subst hcl
      obtain ⟨e1, e2, e3⟩ := hxk k0 (List.mem_of_getElem? hki)
      have hfo := flds_get hf hki hf0
      have hpt := partsF_take ks fs i hki hf0
      have nMT : M ≠ T := ne_of_none hM nT
      have nBT : B ≠ T := ne_of_none hB5 nT
      have sT : Same H (upd H5 T (.tup [.str ⟨#[letC k0]⟩, y])) := same_new s5 nT
      have hMT : (upd H5 T (.tup [.str ⟨#[letC k0]⟩, y])) M = some (.lst us) := (upd_ne nMT).trans hM
      have hBT : (upd H5 T (.tup [.str ⟨#[letC k0]⟩, y])) B = some (.tup vs) := (upd_ne nBT).trans hB5
      refine ⟨T, _, rfl, SqT.of upd_same, rfl, _, _, rfl, _, _, rfl, rfl, ?_⟩
      generalize upd H5 T (.tup [.str ⟨#[letC k0]⟩, y]) = H6 at sT hMT hBT ⊢
      refine ⟨_, rfl, _, _, rfl, rfl, _, rfl, ite2 (fun c1 => ?_) (fun c1 => ?_)⟩
      · have hP : PK k0 = true := e1.trans c1
        have ep : partsK k0 f0 = [f0] := by unfold partsK; rw [if_pos hP]
        refine ⟨_, rfl, .inl ⟨rfl, _, SqL.of hMT⟩, _, rfl, M, us, y, rfl, rfl, hMT, small1000 (by omega), ?_⟩
        refine ⟨M, us ++ [y], _, _, rfl, same_put sT nM, nM, nMB, upd_same, (upd_ne nMB.symm).trans hBT, ?_, ?_⟩
        · rw [hpt, ep]
          exact dpl_app hus (.cons hyf .nil)
        · rw [List.length_append]
          show us.length + 1 ≤ _
          omega
      have hP : PK k0 = false := by
        rw [e1]
        exact Bool.eq_false_iff.mpr c1
      have hPn : ¬ PK k0 = true := by rw [hP]; exact Bool.false_ne_true
      refine ⟨_, rfl, rfl, _, rfl, ite2 (fun c2 => ?_) (fun c2 => ?_)⟩
      · have hE : k0 = "entries" := by
          have : decide (k0 = "entries") = true := by
            rw [e2]
            rw [← c2]
            exact (dec_str.trans (by rw [Bool.eq_iff_iff]; simp)).symm
          exact of_decide_eq_true this
        subst hE
        obtain ⟨gs, rfl, g8, gall⟩ := tupAll_cases (fld_e hfo)
        cases hyf with
        | @tup ay zs _ hzq hza =>
        have zl := dpl_len hza
        have ep : partsK "entries" (.tuple gs) = gs.map sndD := by
          unfold partsK
          rw [if_neg hPn, if_neg (by decide +kernel), if_pos rfl]
          rfl
        refine ⟨_, rfl, _, rfl, ay, rfl, ⟨zs, same_seqT sT hzq⟩, fun D nD => ?_⟩
        have nMD : M ≠ D := ne_of_none hMT nD
        have nBD : B ≠ D := ne_of_none hBT nD
        refine lc_tup (K := K) (a := ay) (xs := zs) (fun j H' => ∃ acc, Same H6 H' ∧ H' D = some (.lst acc) ∧ DpAll K H acc ((gs.take j).map sndD)) ⟨[], same_new same_id nD, upd_same, .nil⟩ ?_ ?_ ?_
        · rintro j H' _ ⟨acc, s7, _⟩
          exact same_seqT (sT.trans s7) hzq
        · rintro j z H' hz ⟨acc, s7, hD, hacc⟩
          obtain ⟨g0, hg0, hzg⟩ := dpl_get hza hz
          obtain ⟨kx, g', rfl, _, _⟩ := isEnt_cases (List.all_eq_true.mp gall g0 (List.mem_of_getElem? hg0))
          cases hzg with
          | @tup az es _ heq hea =>
          cases hea with
          | @cons e0 es1 _ _ k0' hea1 =>
          cases hea1 with
          | @cons e1v es2 _ _ k1' hea2 =>
          cases hea2
          have lacc := dpl_len hacc
          rw [List.length_map, List.length_take] at lacc
          refine ⟨rfl, _, rfl, az, _, 1, _, rfl, rfl, same_seqT (sT.trans s7) heq, at_nat (n := 1) rfl, acc, hD, small1000 (by omega), acc ++ [e1v], ?_, upd_same, ?_⟩
          · intro b' o ho
            rw [upd_ne (ne_of_none ho nD)]
            exact s7 _ _ ho
          · rw [List.take_add_one, hg0, List.map_append]
            exact dpl_app hacc (.cons k1' .nil)
        · rintro H7 ⟨acc, s7, hD, hacc⟩
          rw [zl, List.take_length] at hacc
          have lacc := dpl_len hacc
          rw [List.length_map] at lacc
          have hM7 := s7 _ _ hMT
          refine ⟨M, D, us, acc, rfl, rfl, hM7, hD, few (by omega), fun R nR => ?_⟩
          have nMR : M ≠ R := ne_of_none hM7 nR
          have hB7 := s7 _ _ hBT
          have s67 : Same H H7 := sT.trans s7
          refine ⟨R, us ++ acc, _, _, rfl, same_new s67 nR, fresh_of s67 nR, (ne_of_none hB7 nR).symm, upd_same, (upd_ne (ne_of_none hB7 nR)).trans hB7, ?_, ?_⟩
          · rw [hpt, ep]
            exact dpl_app hus hacc
          · rw [List.length_append]
            omega
      refine ⟨_, rfl, rfl, _, rfl, ite2 (fun c3 => ?_) (fun c3 => ?_)⟩
      · have hE : k0 = "filters" := by
          have : decide (k0 = "filters") = true := by
            rw [e3]
            rw [← c3]
            exact (dec_str.trans (by rw [Bool.eq_iff_iff]; simp)).symm
          exact of_decide_eq_true this
        subst hE
        obtain ⟨gs, rfl, g8, gall⟩ := tupAll_cases (fld_f hfo)
        cases hyf with
        | @tup ay zs _ hzq hza =>
        have zl := dpl_len hza
        have ep : partsK "filters" (.tuple gs) = gs := by
          unfold partsK
          rw [if_neg hPn, if_pos rfl]
          rfl
        refine ⟨_, rfl, _, rfl, ay, zs, rfl, .inr (same_seqT sT hzq), fun D nD => ?_⟩
        have nMD : M ≠ D := ne_of_none hMT nD
        have nBD : B ≠ D := ne_of_none hBT nD
        have hM7 : (upd H6 D (.lst zs)) M = some (.lst us) := (upd_ne nMD).trans hMT
        have s67 : Same H (upd H6 D (.lst zs)) := same_new sT nD
        have hB7 : (upd H6 D (.lst zs)) B = some (.tup vs) := (upd_ne nBD).trans hBT
        refine ⟨M, D, us, zs, rfl, rfl, hM7, upd_same, few (by omega), fun R nR => ?_⟩
        refine ⟨R, us ++ zs, _, _, rfl, same_new s67 nR, fresh_of s67 nR, (ne_of_none hB7 nR).symm, upd_same, (upd_ne (ne_of_none hB7 nR)).trans hB7, ?_, ?_⟩
        · rw [hpt, ep]
          exact dpl_app hus hza
        · rw [List.length_append]
          omega
      · have n1 : ¬ k0 = "entries" := by
          intro z
          have : decide (k0 = "entries") = true := decide_eq_true z
          rw [e2] at this
          exact c2 ((dec_str.trans (by rw [Bool.eq_iff_iff]; simp)).trans this)
        have n2 : ¬ k0 = "filters" := by
          intro z
          have : decide (k0 = "filters") = true := decide_eq_true z
          rw [e3] at this
          exact c3 ((dec_str.trans (by rw [Bool.eq_iff_iff]; simp)).trans this)
        have ep : partsK k0 f0 = [] := by
          unfold partsK
          rw [if_neg hPn, if_neg n2, if_neg n1]
        refine ⟨M, us, _, _, rfl, sT, nM, nMB, hMT, hBT, ?_, by omega⟩
        rw [hpt, ep, List.append_nil]
        exact hus
    · rintro σ H5 ⟨M, us, a, b, rfl, s5, nM, nMB, hM, hB5, hus, hlen⟩
      rw [show ks.take vs.length = ks by rw [vk, List.take_length], show fs.take vs.length = fs by rw [hvl, List.take_length], ← partsOf_node hk] at hus
      exact ⟨_, rfl, q H5 M us s5 nM hM hus (by omega)⟩
end
end Toy


namespace Toy
open PySem PySem.Spec L2 PyProof.Rows PySem.W
theorem paired_app {α β : Type} {F : α → β → Prop} : ∀ {xs : List α} {ys : List β} {us : List α} {vs : List β}, Paired F xs ys → Paired F us vs → Paired F (xs ++ us) (ys ++ vs)
  | _, _, _, _, .nil, r => r
  | _, _, _, _, .cons a b, r => .cons a (paired_app b r)
theorem inV_strs (x : Str) : ∀ ks : List Str, inV (.str x) (ks.map V.str) = decide (x ∈ ks)
  | [] => by simp [inV]
  | k :: ks => by
    have ih := inV_strs x ks
    unfold inV at ih ⊢
    rw [List.map_cons, List.any_cons, ih]
    show ((k == x) || decide (x ∈ ks)) = _
    rw [Bool.eq_iff_iff, Bool.or_eq_true, beq_iff_eq, decide_eq_true_iff, decide_eq_true_iff, List.mem_cons]
    exact ⟨fun h => h.imp Eq.symm id, fun h => h.imp Eq.symm id⟩
abbrev sKP : Stmt := top 10
abbrev NKP : List Str := ["term", "found", "kind", "field", "part", "_"]
theorem scKP : FnScope NKP ["term"] (defScope sKP) := ⟨rfl, rfl, rfl, by decide +kernel, rfl, by decide +kernel, by decide +kernel⟩
/-- FORMS -/
def FormsK (K : PySem.W.Frag) (w : World) (d : Addr) : Prop := ∀ p ∈ formsL, ∃ a, KDct K w d p.1 (.ref a) ∧ ∀ H, SqT K H a (p.2.map V.str)
def TupK (K : PySem.W.Frag) (a : Addr) (xs : List Str) : Prop := ∀ H, SqT K H a (xs.map V.str)
/-- pairs of a kind and a part -/
def KP (H : Hp) (q : Addr) (p : Str × V) : Prop := H q = some (.tup [.str p.1, p.2])
def spKP (K : PySem.W.Frag) : Sp := fun vs H Q _ => ∃ (v : V) (n : Nat) (t : PyData), vs = [v] ∧ Dp K H v t ∧ wf (n + 1) t = true ∧ ∀ H' L (qs : List Addr) (us : List (Str × V)), Same H H' → H L = none → H' L = some (.lst (qs.map V.ref)) → Paired (KP H') qs us → DpAll K H (us.map (·.2)) (partsOf t) → us.length ≤ 36 → (∀ u ∈ us, u.1 ∈ kinds4) → Q (.ref L) H'
theorem filt_in : ("filter" : Str) ∈ kinds4 := by decide +kernel
theorem kps_new {H H' : Hp} {qs : List Addr} {us : List (Str × V)} (s : Same H H') (h : Paired (KP H) qs us) : Paired (KP H') qs us := L2.Paired.mapP h fun _ _ z => s _ _ z
theorem kps_put {H : Hp} {L : Addr} {xs ys : List V} {qs : List Addr} {us : List (Str × V)} (hL : H L = some (.lst xs)) (h : Paired (KP H) qs us) : Paired (KP (upd H L (.lst ys))) qs us := L2.Paired.mapP h fun q p z => by
  unfold KP at z ⊢
  rw [upd_ne (ne_of z hL (by intro e; cases e))]
  exact z
section
variable {P : Program} {w : World} {K : PySem.W.Frag} {mg : Str → Option Value} {base : Heap}
theorem ok_kp {f aF aP : Addr} {fd : FuncData} (F : Fun K "kinds_and_parts" "kinds_and_parts" sKP f fd) (mFo : mg "FORMS" = some (.ref aF)) (FK : FormsK K w aF) (mPK : mg "PART_KINDS" = some (.ref aP)) (PKK : TupK K aP kinds4)
    (mZip : mg "zip" = none) : FnOk P w K mg base CX0 1 f fd ["term"] (spKP K) := by
  refine F.ok scKP (fun vs H Q E h => ?_) (fun cdv A outer s H vs Q E hr h => ?_)
  · obtain ⟨v, n, t, rfl, _⟩ := h
    rfl
  · obtain ⟨v, n, t, rfl, hv, hw, q⟩ := h
    obtain ⟨wd, fs, ks, rfl, hk, hf⟩ := wf_cases hw
    refine ⟨_, pss_cons (ps_set (i := 1) scKP.nd rfl (Or.inl rfl) (pe_lst pa_nil))
      (pss_cons (ps_for PassesOwn.never rfl (RZ.pi_zipA (by rfl) mZip (pa_cons (pe_ix ix_kdict (pe_glob (v := .ref aF) (by rfl) mFo rfl) (pe_ix ix_tup (pv 0) pe_int (fun _ _ => rfl)) (fun _ _ => rfl)) (pa_cons (pe_slice sl_tup (pv 0) (po_some pe_int) po_none) pa_nil)))
        (pg_tup (by rfl) (pgs_cons (pg_name (i := 2) scKP.nd rfl (.inl rfl)) (pgs_cons (pg_name (i := 3) scKP.nd rfl (.inl rfl)) pgs_nil)))
        (pss_one (ps_if (pt_cmpR op_in_seq (pv 2) (pe_glob (v := .ref aP) (by rfl) mPK rfl) (by rfl))
          (pss_one (ps_expr (pe_bm PySem.F.plainAttrs_list PySem.F.slot_list_append PySem.F.type_list_append mt_append (pv 1) (pa_cons (pe_tup (pa_cons (pv 2) (pa_cons (pv 3) pa_nil))) pa_nil))))
          (pss_one (ps_if (pt_cmpR op_eq (pv 2) pe_str (nomark _))
            (pss_one (ps_expr (pe_bm PySem.F.plainAttrs_list PySem.F.slot_list_extend PySem.F.type_list_extend mt_extend (pv 1) (pa_cons (pe_lc (own := [("part", 4)]) (g := gName 4) (te := tTup (tCons (tC (.str "filter")) (tCons (tVar 4) tNil))) (by rfl) scKP.nd (pi_tup (pv 3))
              (blkOk_by (own := [("part", 4)]) (N := NKP) (sc := defScope sKP) (by decide +kernel)) (fun _ _ _ _ _ => pg_name (i := 4) scKP.nd rfl (Or.inl rfl)) (fun _ _ _ _ _ => pts_nil)
              (fun _ _ _ _ _ => pe_tup (pa_cons pe_str (pa_cons (pv 4) pa_nil)))) pa_nil))))
            (pss_one (ps_if (pt_cmpR op_eq (pv 2) pe_str (nomark _))
              (pss_one (ps_expr (pe_bm PySem.F.plainAttrs_list PySem.F.slot_list_extend PySem.F.type_list_extend mt_extend (pv 1) (pa_cons (pe_lc (own := [("_", 5), ("part", 4)]) (g := gTup K 2 (gCons (gName 5) (gCons (gName 4) gNil))) (te := tTup (tCons (tC (.str "filter")) (tCons (tVar 4) tNil))) (by rfl) scKP.nd (pi_tup (pv 3))
                (blkOk_by (own := [("_", 5), ("part", 4)]) (N := NKP) (sc := defScope sKP) (by decide +kernel)) (fun _ _ _ _ _ => by exact (pg_tup rfl (pgs_cons (by exact (pg_name (i := 5) scKP.nd rfl (Or.inl rfl))) (pgs_cons (by exact (pg_name (i := 4) scKP.nd rfl (Or.inl rfl))) pgs_nil)))) (fun _ _ _ _ _ => pts_nil)
                (fun _ _ _ _ _ => pe_tup (pa_cons pe_str (pa_cons (pv 4) pa_nil)))) pa_nil))))
              pss_nil)))))))
      (pss_one (ps_ret (pv 1)))), ?_⟩
    cases hv with
    | @tup av xs _ hseq hall =>
    cases hall with
    | @cons v0 vs d0 ds h0 hvs =>
    cases h0
    have hkl := flds_len hf
    have hvl := dpl_len hvs
    have hvl : vs.length = fs.length := hvl
    have hmem := lookup_mem hk
    obtain ⟨aK, hK1, hK2⟩ := FK _ hmem
    have k4 : ks.length ≤ 4 := forms_len _ hmem
    refine ⟨few (by show 0 ≤ 1000; decide), fun L nL => ?_⟩
    have sL : Same H (upd H L (.lst [])) := same_new same_id nL
    have q1 : SqT K (upd H L (.lst [])) av (.str wd :: vs) := same_seqT sL hseq
    have hL0 : (upd H L (.lst [])) L = some (.lst []) := upd_same
    generalize upd H L (.lst []) = H1 at sL q1 hL0 ⊢
    refine ⟨_, rfl, av, _, 0, _, rfl, rfl, q1, at_0 _ _, aF, wd, _, rfl, rfl, hK1, _, rfl, 1, rfl, av, _, rfl, q1, cut_1w _ _, fun B nB => ?_⟩
    rw [cut_1]
    have nLB : L ≠ B := ne_of_none hL0 nB
    have hB : (upd H1 B (.tup vs)) B = some (.tup vs) := upd_same
    have hLB : (upd H1 B (.tup vs)) L = some (.lst []) := (upd_ne nLB).trans hL0
    have sHB : Same H (upd H1 B (.tup vs)) := same_new sL nB
    generalize upd H1 B (.tup vs) = H4 at hB hLB sHB ⊢
    refine ⟨aK, B, ks.map V.str, vs, rfl, .inr ⟨hK2 H4, SqT.of hB, ?_⟩⟩
    refine RZ.for_zipT (K := K) (a := aK) (b := B) (xs := ks.map V.str) (ys := vs) (by rw [List.length_map]; omega) (fun i σ H' => ∃ (qs : List Addr) (us : List (Str × V)) (a b : Option V), σ = [some (.ref av), some (.ref L), a, b, none, none] ∧ Same H H' ∧ H' L = some (.lst (qs.map V.ref)) ∧ H' B = some (.tup vs) ∧ Paired (KP H') qs us ∧ DpAll K H (us.map (·.2)) (partsF (ks.take i) (fs.take i)) ∧ us.length ≤ 9 * i ∧ ∀ u ∈ us, u.1 ∈ kinds4)
      ⟨[], [], none, none, rfl, sHB, hLB, hB, .nil, .nil, Nat.zero_le _, fun _ h => by cases h⟩ ?_ ?_ ?_
    · rintro i σ H' ⟨qs, us, a, b, _, _, _, e, _⟩
      exact ⟨hK2 H', SqT.of e⟩
    · rintro i k y T σ H5 hk5 hy ⟨qs, us, a, b, rfl, s5, hM, hB5, hqs, hus, hlen, hkin⟩ nT
      have hi : i < vs.length := by
        rcases Nat.lt_or_ge i vs.length with z | z
        · exact z
        · rw [List.getElem?_eq_none z] at hy
          cases hy
      obtain ⟨f0, hf0, hyf⟩ := dpl_get hvs hy
      have hki : ks[i]? = some ks[i] := List.getElem?_eq_getElem (by omega)
      generalize ks[i] = k0 at hki
      have ek : k = .str k0 := by
        rw [List.getElem?_map, hki] at hk5
        exact (Option.some.inj hk5).symm
      subst ek
      have hfo := flds_get hf hki hf0
      have hpt := partsF_take ks fs i hki hf0
      have lqs := Paired.length hqs
      have nMT : L ≠ T := ne_of_none hM nT
      have nBT : B ≠ T := ne_of_none hB5 nT
      have sT1 : Same H5 (upd H5 T (.tup [.str k0, y])) := same_new same_id nT
      have sT : Same H (upd H5 T (.tup [.str k0, y])) := same_new s5 nT
      have hMT : (upd H5 T (.tup [.str k0, y])) L = some (.lst (qs.map V.ref)) := (upd_ne nMT).trans hM
      have hBT : (upd H5 T (.tup [.str k0, y])) B = some (.tup vs) := (upd_ne nBT).trans hB5
      have hqT := kps_new sT1 hqs
      refine ⟨T, _, rfl, SqT.of upd_same, rfl, _, _, rfl, _, _, rfl, rfl, ?_⟩
      generalize upd H5 T (.tup [.str k0, y]) = H6 at sT hMT hBT hqT ⊢
      have nL6 : ∀ {o}, (H L = some o) → False := fun e => by rw [nL] at e; cases e
      refine ⟨_, rfl, aP, _, rfl, .inr (PKK H6), rfl, flat_strs kinds4, _, rfl, ?_⟩
      have ein : inV (V.str k0) (kinds4.map V.str) = PK k0 := inV_strs k0 kinds4
      show (if inV (V.str k0) (kinds4.map V.str) = true then _ else _)
      rw [ein]
      refine ite2 (fun c1 => ?_) (fun c1 => ?_)
      · have ep : partsK k0 f0 = [f0] := by unfold partsK; rw [if_pos c1]
        refine ⟨_, rfl, .inl ⟨rfl, _, SqL.of hMT⟩, _, rfl, _, rfl, few (by show 2 ≤ 1000; decide), fun T2 nT2 => ?_⟩
        have nLT2 : L ≠ T2 := ne_of_none hMT nT2
        refine ⟨L, qs.map V.ref, .ref T2, rfl, rfl, (upd_ne nLT2).trans hMT, small1000 (by rw [List.length_map]; omega), ?_⟩
        refine ⟨qs ++ [T2], us ++ [(k0, y)], _, _, rfl, same_put (same_new sT nT2) nL, by rw [upd_same, List.map_append]; rfl, ?_, ?_, ?_, ?_, ?_⟩
        · rw [upd_ne (ne_of hBT hMT (by intro e; cases e)), upd_ne (ne_of_none hBT nT2)]
          exact hBT
        · exact Paired.snoc (kps_put ((upd_ne nLT2).trans hMT) (kps_new (same_new same_id nT2) hqT)) (by show upd _ _ _ _ = _; rw [upd_ne nLT2.symm, upd_same])
        · rw [hpt, ep, List.map_append]
          exact dpl_app hus (.cons hyf .nil)
        · rw [List.length_append, List.length_singleton]
          omega
        · intro u hu'
          rcases List.mem_append.mp hu' with z | z
          · exact hkin u z
          · rw [List.mem_singleton] at z
            subst z
            exact of_decide_eq_true c1
      have hPn := c1
      refine ⟨_, rfl, rfl, _, rfl, ite2 (fun c2 => ?_) (fun c2 => ?_)⟩
      · have hE : k0 = "filters" := V.str.inj (of_decide_eq_true c2)
        subst hE
        obtain ⟨gs, rfl, g8, gall⟩ := tupAll_cases (fld_f hfo)
        cases hyf with
        | @tup ay zs _ hzq hza =>
        have zl := dpl_len hza
        have ep : partsK "filters" (.tuple gs) = gs := by
          unfold partsK
          rw [if_neg hPn, if_pos rfl]
          rfl
        refine ⟨_, rfl, .inl ⟨rfl, _, SqL.of hMT⟩, _, rfl, ay, rfl, ⟨zs, same_seqT sT hzq⟩, fun D nD => ?_⟩
        have nLD : L ≠ D := ne_of_none hMT nD
        refine lc_tup (K := K) (a := ay) (xs := zs) (fun j H' => ∃ (rs : List Addr) (ws : List (Str × V)), Same H6 H' ∧ H' D = some (.lst (rs.map V.ref)) ∧ Paired (KP H') rs ws ∧ DpAll K H (ws.map (·.2)) (gs.take j) ∧ ∀ u ∈ ws, u.1 ∈ kinds4) ⟨[], [], same_new same_id nD, upd_same, .nil, .nil, fun _ h => by cases h⟩ ?_ ?_ ?_
        · rintro j H' _ ⟨rs, ws, s7, _⟩
          exact same_seqT (sT.trans s7) hzq
        · rintro j z H' hz ⟨rs, ws, s7, hD, hrs, hws, hkk⟩
          obtain ⟨g0, hg0, hzg⟩ := dpl_get hza hz
          have lrs := Paired.length hrs
          have lws := dpl_len hws
          rw [List.length_map, List.length_take] at lws
          refine ⟨rfl, _, rfl, few (by show 2 ≤ 1000; decide), fun T2 nT2 => ?_⟩
          have nDT2 : D ≠ T2 := ne_of_none hD nT2
          refine ⟨rs.map V.ref, (upd_ne nDT2).trans hD, small1000 (by rw [List.length_map]; omega), rs ++ [T2], ws ++ [(("filter" : Str), z)], ?_, by rw [upd_same, List.map_append]; rfl, ?_, ?_, ?_⟩
          · intro b' o ho
            rw [upd_ne (ne_of_none ho nD), upd_ne (ne_of_none (s7 _ _ ho) nT2)]
            exact s7 _ _ ho
          · exact Paired.snoc (kps_put ((upd_ne nDT2).trans hD) (kps_new (same_new same_id nT2) hrs)) (by show upd _ _ _ _ = _; rw [upd_ne nDT2.symm, upd_same])
          · rw [List.take_add_one, hg0, List.map_append]
            exact dpl_app hws (.cons hzg .nil)
          · intro u hu'
            rcases List.mem_append.mp hu' with z | z
            · exact hkk u z
            · rw [List.mem_singleton] at z
              subst z
              exact filt_in
        · rintro H7 ⟨rs, ws, s7, hD, hrs, hws, hkk⟩
          rw [zl, List.take_length] at hws
          have lrs := Paired.length hrs
          have lws := dpl_len hws
          rw [List.length_map] at lws
          have hM7 := s7 _ _ hMT
          refine ⟨L, D, qs.map V.ref, rs.map V.ref, rfl, rfl, hM7, hD, few (by rw [List.length_map, List.length_map]; omega), ?_⟩
          refine ⟨qs ++ rs, us ++ ws, _, _, rfl, same_put (sT.trans s7) nL, by rw [upd_same, List.map_append], ?_, paired_app (kps_put hM7 (kps_new s7 hqT)) (kps_put hM7 hrs), ?_, ?_, ?_⟩
          · rw [upd_ne (ne_of (s7 _ _ hBT) hM7 (by intro e; cases e))]
            exact s7 _ _ hBT
          · rw [hpt, ep, List.map_append]
            exact dpl_app hus hws
          · rw [List.length_append]
            omega
          · intro u hu'
            rcases List.mem_append.mp hu' with z | z
            · exact hkin u z
            · exact hkk u z
      refine ⟨_, rfl, rfl, _, rfl, ite2 (fun c3 => ?_) (fun c3 => ?_)⟩
      · have hE : k0 = "entries" := V.str.inj (of_decide_eq_true c3)
        subst hE
        obtain ⟨gs, rfl, g8, gall⟩ := tupAll_cases (fld_e hfo)
        cases hyf with
        | @tup ay zs _ hzq hza =>
        have zl := dpl_len hza
        have ep : partsK "entries" (.tuple gs) = gs.map sndD := by
          unfold partsK
          rw [if_neg hPn, if_neg (by decide +kernel), if_pos rfl]
          rfl
        refine ⟨_, rfl, .inl ⟨rfl, _, SqL.of hMT⟩, _, rfl, ay, rfl, ⟨zs, same_seqT sT hzq⟩, fun D nD => ?_⟩
        have nLD : L ≠ D := ne_of_none hMT nD
        refine lc_tup (K := K) (a := ay) (xs := zs) (fun j H' => ∃ (rs : List Addr) (ws : List (Str × V)), Same H6 H' ∧ H' D = some (.lst (rs.map V.ref)) ∧ Paired (KP H') rs ws ∧ DpAll K H (ws.map (·.2)) ((gs.take j).map sndD) ∧ ∀ u ∈ ws, u.1 ∈ kinds4) ⟨[], [], same_new same_id nD, upd_same, .nil, .nil, fun _ h => by cases h⟩ ?_ ?_ ?_
        · rintro j H' _ ⟨rs, ws, s7, _⟩
          exact same_seqT (sT.trans s7) hzq
        · rintro j z H' hz ⟨rs, ws, s7, hD, hrs, hws, hkk⟩
          obtain ⟨g0, hg0, hzg⟩ := dpl_get hza hz
          obtain ⟨kx, g', rfl, _, _⟩ := isEnt_cases (List.all_eq_true.mp gall g0 (List.mem_of_getElem? hg0))
          cases hzg with
          | @tup az es _ heq hea =>
          cases hea with
          | @cons e0 es1 _ _ k0' hea1 =>
          cases hea1 with
          | @cons e1v es2 _ _ k1' hea2 =>
          cases hea2
          have lrs := Paired.length hrs
          have lws := dpl_len hws
          rw [List.length_map, List.length_map, List.length_take] at lws
          refine ⟨az, _, rfl, same_seqT (sT.trans s7) heq, rfl, _, _, rfl, _, _, rfl, rfl, rfl, _, rfl, few (by show 2 ≤ 1000; decide), fun T2 nT2 => ?_⟩
          have nDT2 : D ≠ T2 := ne_of_none hD nT2
          refine ⟨rs.map V.ref, (upd_ne nDT2).trans hD, small1000 (by rw [List.length_map]; omega), rs ++ [T2], ws ++ [(("filter" : Str), e1v)], ?_, by rw [upd_same, List.map_append]; rfl, ?_, ?_, ?_⟩
          · intro b' o ho
            rw [upd_ne (ne_of_none ho nD), upd_ne (ne_of_none (s7 _ _ ho) nT2)]
            exact s7 _ _ ho
          · exact Paired.snoc (kps_put ((upd_ne nDT2).trans hD) (kps_new (same_new same_id nT2) hrs)) (by show upd _ _ _ _ = _; rw [upd_ne nDT2.symm, upd_same])
          · rw [List.take_add_one, hg0, List.map_append, List.map_append]
            exact dpl_app hws (.cons k1' .nil)
          · intro u hu'
            rcases List.mem_append.mp hu' with z | z
            · exact hkk u z
            · rw [List.mem_singleton] at z
              subst z
              exact filt_in
        · rintro H7 ⟨rs, ws, s7, hD, hrs, hws, hkk⟩
          rw [zl, List.take_length] at hws
          have lrs := Paired.length hrs
          have lws := dpl_len hws
          rw [List.length_map, List.length_map] at lws
          have hM7 := s7 _ _ hMT
          refine ⟨L, D, qs.map V.ref, rs.map V.ref, rfl, rfl, hM7, hD, few (by rw [List.length_map, List.length_map]; omega), ?_⟩
          refine ⟨qs ++ rs, us ++ ws, _, _, rfl, same_put (sT.trans s7) nL, by rw [upd_same, List.map_append], ?_, paired_app (kps_put hM7 (kps_new s7 hqT)) (kps_put hM7 hrs), ?_, ?_, ?_⟩
          · rw [upd_ne (ne_of (s7 _ _ hBT) hM7 (by intro e; cases e))]
            exact s7 _ _ hBT
          · rw [hpt, ep, List.map_append]
            exact dpl_app hus hws
          · rw [List.length_append]
            omega
          · intro u hu'
            rcases List.mem_append.mp hu' with z | z
            · exact hkin u z
            · exact hkk u z
      · have n1 : ¬ k0 = "entries" := fun z => c3 (by rw [z]; exact decide_eq_true rfl)
        have n2 : ¬ k0 = "filters" := fun z => c2 (by rw [z]; exact decide_eq_true rfl)
        have ep : partsK k0 f0 = [] := by
          unfold partsK
          rw [if_neg hPn, if_neg n2, if_neg n1]
        refine ⟨qs, us, _, _, rfl, sT, hMT, hBT, hqT, ?_, by omega, hkin⟩
        rw [hpt, ep, List.append_nil]
        exact hus
    · rintro σ H5 ⟨qs, us, a, b, rfl, s5, hM, hB5, hqs, hus, hlen, hkin⟩
      rw [List.length_map, show ks.take ks.length = ks by rw [List.take_length], show fs.take ks.length = fs by rw [hkl, List.take_length], ← partsOf_node hk] at hus
      rw [List.length_map] at hlen
      exact ⟨_, rfl, q H5 L qs us s5 nL hM hqs hus (by omega) hkin⟩
end
end Toy


namespace Toy
open PySem PySem.Spec L2 PyProof.Rows PySem.W
/-! ### how long a shown datum is -/
mutual
def szW : PyData → Nat
  | .none => 4
  | .bool _ => 5
  | .int i => (PyData.shown (.int i)).length
  | .str x => (PyData.shown (.str x)).length
  | .list xs => 3 + szWL xs
  | .tuple xs => 3 + szWL xs
  | .dict _ => 0
def szWL : List PyData → Nat
  | [] => 0
  | x :: xs => szW x + 2 + szWL xs
end
theorem szWL_eq (xs : List PyData) : szWL xs = (xs.map fun x => szW x + 2).sum := by
  induction xs with
  | nil => rfl
  | cons x xs ih => rw [szWL, ih]; rfl
theorem szWL_app (xs ys : List PyData) : szWL (xs ++ ys) = szWL xs + szWL ys := by
  rw [szWL_eq, szWL_eq, szWL_eq, List.map_append, List.sum_append]
theorem textFrom_le : ∀ (ts : List Str) (k : Nat) (acc : Str), (textFrom k acc ts).length ≤ acc.length + (ts.map fun t => t.length + 2).sum
  | [], _, acc => by show acc.length ≤ _; simp
  | t :: r, k, acc => by
    have ih := textFrom_le r (k + 1) (acc ++ (if k > 0 then ", " else "" : String) ++ t)
    have e : (acc ++ (if k > 0 then ", " else "" : String) ++ t).length ≤ acc.length + 2 + t.length := by
      rw [strLen_append, strLen_append]
      have : ((if k > 0 then ", " else "" : String) : Str).length ≤ 2 := by
        split
        · exact Nat.le_refl 2
        · exact Nat.zero_le 2
      omega
    rw [List.map_cons, List.sum_cons]
    show (textFrom (k + 1) (acc ++ (if k > 0 then ", " else "" : String) ++ t) r).length ≤ _
    omega
theorem piled_eq (ts : List Str) : piled ts = (ts.map fun t => t.length + 2).sum := by
  induction ts with
  | nil => rfl
  | cons t ts ih => rw [List.map_cons, List.sum_cons, ← ih]; simp [piled]
mutual
theorem shown_le : ∀ d : PyData, d.hasDict = false → d.shown.length ≤ szW d
  | .none, _ => by decide +kernel
  | .bool b, _ => by cases b <;> decide +kernel
  | .int i, _ => by rw [szW]; exact Nat.le_refl _
  | .str x, _ => by rw [szW]; exact Nat.le_refl _
  | .list xs, h => by
    have h1 := shownAll_le xs h
    have h2 := textFrom_le (PyData.shownAll xs) 0 "["
    show (textFrom 0 "[" (PyData.shownAll xs) ++ "]").length ≤ _
    rw [strLen_append, szW]
    have e1 : (("[" : String) : Str).length = 1 := rfl
    have e2 : (("]" : String) : Str).length = 1 := rfl
    omega
  | .tuple xs, h => by
    have h1 := shownAll_le xs h
    show (tupleText (PyData.shownAll xs)).length ≤ _
    unfold tupleText
    rw [strLen_append, strLen_append, szW]
    have e1 : (("(" : String) : Str).length = 1 := rfl
    have e2 : ((if (PyData.shownAll xs).length == 1 then ",)" else ")" : String) : Str).length ≤ 2 := by
      split
      · exact Nat.le_refl 2
      · exact (by decide : 1 ≤ 2)
    cases xs with
    | nil =>
      have e3 : (Str.join ", " (PyData.shownAll [])).length = 0 := rfl
      omega
    | cons x xs =>
      have h2 := join_length_add (PyData.shownAll (x :: xs)) (by simp [PyData.shownAll])
      rw [piled_eq] at h2
      omega
  | .dict _, h => by cases h
theorem shownAll_le : ∀ xs : List PyData, PyData.hasDictAll xs = false → ((PyData.shownAll xs).map fun t => t.length + 2).sum ≤ szWL xs
  | [], _ => Nat.zero_le _
  | x :: xs, h => by
    have h' : (x.hasDict || PyData.hasDictAll xs) = false := h
    rw [Bool.or_eq_false_iff] at h'
    have h1 := shown_le x h'.1
    have h2 := shownAll_le xs h'.2
    rw [PyData.shownAll, List.map_cons, List.sum_cons, szWL]
    omega
end
end Toy


namespace Toy
open PySem PySem.Spec L2 PyProof.Rows PySem.W
/-! ### terms and their parts -/
theorem pw_item {n : Nat} {k : Str} {f : PyData} (h : fldOk (wf n) k f = true) : ∀ p ∈ partsK k f, wf n p = true := by
  intro p hp
  unfold partsK at hp
  split at hp
  · rename_i c
    rw [List.mem_singleton] at hp
    subst hp
    unfold fldOk at h
    rw [if_pos c] at h
    exact h
  · split at hp
    · rename_i c
      subst c
      obtain ⟨gs, rfl, _, ha⟩ := tupAll_cases (fld_f h)
      exact List.all_eq_true.mp ha p hp
    · split at hp
      · rename_i c
        subst c
        obtain ⟨gs, rfl, _, ha⟩ := tupAll_cases (fld_e h)
        obtain ⟨e, he, rfl⟩ := List.mem_map.mp hp
        obtain ⟨x, g, rfl, _, hg⟩ := isEnt_cases (List.all_eq_true.mp ha e he)
        exact hg
      · simp at hp
theorem pw_flds {n : Nat} : ∀ {ks : List Str} {fs : List PyData}, flds (wf n) ks fs = true → ∀ p ∈ partsF ks fs, wf n p = true
  | [], [], _ => fun p hp => by simp [partsF] at hp
  | k :: ks, f :: fs, h => fun p hp => by
    simp only [flds, Bool.and_eq_true] at h
    rw [partsF, List.mem_append] at hp
    rcases hp with hp | hp
    · exact pw_item h.1 p hp
    · exact pw_flds h.2 p hp
  | [], _ :: _, h => by cases h
  | _ :: _, [], h => by cases h
theorem parts_wf {n : Nat} {t : PyData} (h : wf (n + 1) t = true) : ∀ p ∈ partsOf t, wf n p = true := by
  obtain ⟨w, fs, ks, rfl, hk, hf⟩ := wf_cases h
  rw [partsOf_node hk]
  exact pw_flds hf
/-! a part put by another -/
def fstD : PyData → PyData
  | .tuple [a, _] => a
  | x => x
def zipE : List PyData → List PyData → List PyData
  | e :: es, p :: ps => .tuple [fstD e, p] :: zipE es ps
  | _, _ => []
def wpK (k : Str) (f : PyData) (ps : List PyData) : PyData := if PK k = true then ps.headD .none else if k = "filters" then .tuple ps else if k = "entries" then .tuple (zipE (itemsD f) ps) else f
def wpF : List Str → List PyData → List PyData → List PyData
  | k :: ks, f :: fs, ps => wpK k f (ps.take (partsK k f).length) :: wpF ks fs (ps.drop (partsK k f).length)
  | _, _, _ => []
def wpT : PyData → List PyData → PyData
  | .tuple (.str w :: fs), ps => match formOf w with
    | some ks => .tuple (.str w :: wpF ks fs ps)
    | none => .none
  | _, _ => .none
theorem wpT_node {w : Str} {fs ps : List PyData} {ks : List Str} (h : formOf w = some ks) : wpT (.tuple (.str w :: fs)) ps = .tuple (.str w :: wpF ks fs ps) := by
  unfold wpT
  simp only [h]
theorem wpF_len : ∀ {ks : List Str} {fs : List PyData} (ps : List PyData), ks.length = fs.length → (wpF ks fs ps).length = fs.length
  | [], [], _, _ => rfl
  | k :: ks, f :: fs, ps, h => by
    rw [wpF, List.length_cons, List.length_cons, wpF_len _ (by simpa using h)]
  | [], _ :: _, _, h => by simp at h
  | _ :: _, [], _, h => by simp at h
theorem zipE_len : ∀ {es ps : List PyData}, es.length = ps.length → (zipE es ps).length = es.length
  | [], [], _ => rfl
  | e :: es, p :: ps, h => by rw [zipE, List.length_cons, List.length_cons, zipE_len (by simpa using h)]
  | [], _ :: _, h => by simp at h
  | _ :: _, [], h => by simp at h
theorem items_len {k : Str} {f : PyData} (c : ¬ PK k = true) (h : k = "filters" ∨ k = "entries") : (partsK k f).length = (itemsD f).length := by
  unfold partsK
  rw [if_neg c]
  rcases h with rfl | rfl
  · rw [if_pos rfl]
  · rw [if_neg (by decide +kernel), if_pos rfl, List.length_map]
/-! forms and sizes of what comes of it -/
theorem wpK_ok {n m : Nat} {k : Str} {f : PyData} {ps : List PyData} (hm : n ≤ m) (h : fldOk (wf n) k f = true) (hl : ps.length = (partsK k f).length) (hp : ∀ p ∈ ps, wf m p = true) : fldOk (wf m) k (wpK k f ps) = true := by
  unfold wpK
  by_cases c : PK k = true
  · rw [if_pos c]
    unfold fldOk
    rw [if_pos c]
    have : ps.length = 1 := by
      rw [hl]
      unfold partsK
      rw [if_pos c]
      rfl
    cases ps with
    | nil => simp at this
    | cons p ps => exact hp p List.mem_cons_self
  · rw [if_neg c]
    by_cases c2 : k = "filters"
    · rw [if_pos c2]
      subst c2
      obtain ⟨gs, rfl, l2, ha⟩ := tupAll_cases (fld_f h)
      rw [items_len c (.inl rfl)] at hl
      refine fld_filters ?_
      unfold tupAll
      rw [Bool.and_eq_true]
      exact ⟨decide_eq_true (by rw [hl]; exact l2), List.all_eq_true.mpr hp⟩
    · rw [if_neg c2]
      by_cases c3 : k = "entries"
      · rw [if_pos c3]
        subst c3
        obtain ⟨gs, rfl, l2, ha⟩ := tupAll_cases (fld_e h)
        rw [items_len c (.inr rfl)] at hl
        refine fld_entries ?_
        unfold tupAll
        rw [Bool.and_eq_true]
        show decide ((zipE gs ps).length ≤ 2) = true ∧ _
        rw [zipE_len (es := gs) (ps := ps) (by simpa [itemsD] using hl.symm)]
        refine ⟨decide_eq_true l2, ?_⟩
        show (zipE gs ps).all (isEnt (wf m)) = true
        clear h l2 c c2
        induction gs generalizing ps with
        | nil =>
          cases ps with
          | nil => rfl
          | cons _ _ => simp [itemsD] at hl
        | cons g gs ih =>
          cases ps with
          | nil => simp [itemsD] at hl
          | cons p ps =>
            rw [List.all_cons, Bool.and_eq_true] at ha
            obtain ⟨x, g', rfl, hx, _⟩ := isEnt_cases ha.1
            rw [zipE, List.all_cons, Bool.and_eq_true]
            refine ⟨?_, ih (fun q hq => hp q (List.mem_cons_of_mem _ hq)) (by simpa [itemsD] using hl) ha.2⟩
            show (okK x && wf m p) = true
            rw [hx, hp p List.mem_cons_self]
            rfl
      · rw [if_neg c3]
        exact fld_mono (fun t z => wf_mono z hm) h
theorem wpF_ok {n m : Nat} (hm : n ≤ m) : ∀ {ks : List Str} {fs ps : List PyData}, flds (wf n) ks fs = true → ps.length = (partsF ks fs).length → (∀ p ∈ ps, wf m p = true) → flds (wf m) ks (wpF ks fs ps) = true
  | [], [], _, _, _, _ => rfl
  | k :: ks, f :: fs, ps, h, hl, hp => by
    simp only [flds, Bool.and_eq_true] at h
    rw [partsF, List.length_append] at hl
    rw [wpF]
    simp only [flds, Bool.and_eq_true]
    exact ⟨wpK_ok hm h.1 (by rw [List.length_take]; omega) fun p hp' => hp p (List.mem_of_mem_take hp'), wpF_ok hm h.2 (by rw [List.length_drop]; omega) fun p hp' => hp p (List.mem_of_mem_drop hp')⟩
  | [], _ :: _, _, h, _, _ => by cases h
  | _ :: _, [], _, h, _, _ => by cases h
theorem wpT_ok {n m : Nat} {t : PyData} {ps : List PyData} (hm : n ≤ m) (h : wf (n + 1) t = true) (hl : ps.length = (partsOf t).length) (hp : ∀ p ∈ ps, wf m p = true) : wf (m + 1) (wpT t ps) = true := by
  obtain ⟨w, fs, ks, rfl, hk, hf⟩ := wf_cases h
  rw [partsOf_node hk] at hl
  rw [wpT_node hk]
  exact wf_node hk (wpF_ok hm hf hl hp)
theorem sW_ents {n : Nat} : ∀ {gs ps : List PyData}, gs.all (isEnt (wf n)) = true → gs.length = ps.length → szWL (zipE gs ps) + szWL (gs.map sndD) = szWL gs + szWL ps
  | [], [], _, _ => rfl
  | g :: gs, p :: ps, h, hl => by
    rw [List.all_cons, Bool.and_eq_true] at h
    obtain ⟨x, g', rfl, _, _⟩ := isEnt_cases h.1
    have ih := sW_ents h.2 (by simpa using hl)
    rw [zipE, szWL, List.map_cons, szWL, szWL, szWL]
    simp only [fstD, sndD, szW, szWL]
    omega
  | [], _ :: _, _, h => by simp at h
  | _ :: _, [], _, h => by simp at h
theorem sW_K {n : Nat} {k : Str} {f : PyData} {ps : List PyData} (h : fldOk (wf n) k f = true) (hl : ps.length = (partsK k f).length) : szW (wpK k f ps) + szWL (partsK k f) = szW f + szWL ps := by
  unfold wpK
  by_cases c : PK k = true
  · rw [if_pos c]
    unfold partsK at hl ⊢
    rw [if_pos c] at hl ⊢
    cases ps with
    | nil => simp at hl
    | cons p ps =>
      cases ps with
      | nil =>
        simp only [szWL, List.headD_cons]
        omega
      | cons _ _ => simp at hl
  · rw [if_neg c]
    by_cases c2 : k = "filters"
    · rw [if_pos c2]
      subst c2
      obtain ⟨gs, rfl, l2, ha⟩ := tupAll_cases (fld_f h)
      unfold partsK
      rw [if_neg c, if_pos rfl]
      show szW (.tuple ps) + szWL gs = szW (.tuple gs) + szWL ps
      rw [szW, szW]
      omega
    · rw [if_neg c2]
      by_cases c3 : k = "entries"
      · rw [if_pos c3]
        subst c3
        obtain ⟨gs, rfl, l2, ha⟩ := tupAll_cases (fld_e h)
        rw [items_len c (.inr rfl)] at hl
        unfold partsK
        rw [if_neg c, if_neg c2, if_pos rfl]
        have := sW_ents (ps := ps) ha hl.symm
        show szW (.tuple (zipE gs ps)) + szWL (gs.map sndD) = szW (.tuple gs) + szWL ps
        rw [szW, szW]
        omega
      · rw [if_neg c3]
        have e : partsK k f = [] := by
          unfold partsK
          rw [if_neg c, if_neg c2, if_neg c3]
        rw [e] at hl ⊢
        cases ps with
        | nil => rfl
        | cons _ _ => simp at hl
theorem sW_F {n : Nat} : ∀ {ks : List Str} {fs ps : List PyData}, flds (wf n) ks fs = true → ps.length = (partsF ks fs).length → szWL (wpF ks fs ps) + szWL (partsF ks fs) = szWL fs + szWL ps
  | [], [], ps, _, hl => by
    cases ps with
    | nil => rfl
    | cons _ _ => simp [partsF] at hl
  | k :: ks, f :: fs, ps, h, hl => by
    simp only [flds, Bool.and_eq_true] at h
    rw [partsF, List.length_append] at hl
    have h1 := sW_K (ps := ps.take (partsK k f).length) h.1 (by rw [List.length_take]; omega)
    have h2 := sW_F (ps := ps.drop (partsK k f).length) h.2 (by rw [List.length_drop]; omega)
    have h3 : szWL ps = szWL (ps.take (partsK k f).length) + szWL (ps.drop (partsK k f).length) := by rw [← szWL_app, List.take_append_drop]
    rw [wpF, partsF, szWL, szWL_app, szWL]
    omega
  | [], _ :: _, _, h, _ => by cases h
  | _ :: _, [], _, h, _ => by cases h
theorem sW_T {n : Nat} {t : PyData} {ps : List PyData} (h : wf (n + 1) t = true) (hl : ps.length = (partsOf t).length) : szW (wpT t ps) + szWL (partsOf t) = szW t + szWL ps := by
  obtain ⟨w, fs, ks, rfl, hk, hf⟩ := wf_cases h
  rw [partsOf_node hk] at hl ⊢
  rw [wpT_node hk]
  have := sW_F hf hl
  rw [szW, szW, szWL, szWL]
  omega
/-! at a spot -/
def atT : PyData → List Nat → Option PyData
  | t, [] => some t
  | t, i :: s => match (partsOf t)[i]? with
    | some p => atT p s
    | none => none
def putT : PyData → List Nat → PyData → PyData
  | _, [], o => o
  | t, i :: s, o => match (partsOf t)[i]? with
    | some p => wpT t ((partsOf t).set i (putT p s o))
    | none => .none
theorem at_wf {n : Nat} : ∀ {s : List Nat} {t u : PyData}, wf n t = true → atT t s = some u → wf n u = true ∧ s.length < n ∧ szW u ≤ szW t
  | [], t, u, h, e => by
    cases e
    refine ⟨h, ?_, Nat.le_refl _⟩
    cases n with
    | zero => cases h
    | succ n => exact Nat.succ_pos n
  | i :: s, t, u, h, e => by
    obtain ⟨n, rfl⟩ : ∃ m, n = m + 1 := by
      cases n with
      | zero => cases h
      | succ n => exact ⟨n, rfl⟩
    rw [atT] at e
    cases hp : (partsOf t)[i]? with
    | none => rw [hp] at e; cases e
    | some p =>
      rw [hp] at e
      have hmem := List.mem_of_getElem? hp
      obtain ⟨h1, h2, h3⟩ := at_wf (parts_wf h p hmem) e
      refine ⟨wf_mono h1 (Nat.le_succ _), by simp only [List.length_cons]; omega, ?_⟩
      have h4 := sW_T (ps := (partsOf t).map fun _ => PyData.tuple []) h (by rw [List.length_map])
      have h5 : szW p + 2 ≤ szWL (partsOf t) := by
        obtain ⟨a, b, e2⟩ := List.append_of_mem hmem
        rw [e2, szWL_app, szWL]
        omega
      have h6 : szW p + 2 ≤ szW t := by
        have h7 : szWL (partsOf t) ≤ szW t := by
          obtain ⟨w, fs, ks, rfl, hk, hf⟩ := wf_cases h
          rw [partsOf_node hk, szW, szWL]
          have : ∀ {ks : List Str} {fs : List PyData}, flds (wf n) ks fs = true → szWL (partsF ks fs) ≤ szWL fs := by
            intro ks
            induction ks with
            | nil => intro fs hf; cases fs with
              | nil => exact Nat.le_refl _
              | cons _ _ => cases hf
            | cons k ks ih =>
              intro fs hf
              cases fs with
              | nil => cases hf
              | cons f fs =>
                simp only [flds, Bool.and_eq_true] at hf
                have i1 := ih hf.2
                rw [partsF, szWL_app, szWL]
                have i2 : szWL (partsK k f) ≤ szW f + 2 := by
                  unfold partsK
                  split
                  · simp only [szWL]; omega
                  · split
                    · rename_i c2
                      subst c2
                      obtain ⟨gs, rfl, _, _⟩ := tupAll_cases (fld_f hf.1)
                      simp only [itemsD, szW]
                      omega
                    · split
                      · rename_i c3
                        subst c3
                        obtain ⟨gs, rfl, l2, ha⟩ := tupAll_cases (fld_e hf.1)
                        have i3 : szWL (gs.map sndD) ≤ szWL gs := by
                          clear h4 h5 hf i1 l2
                          induction gs with
                          | nil => exact Nat.le_refl _
                          | cons g gs ihg =>
                            rw [List.all_cons, Bool.and_eq_true] at ha
                            obtain ⟨x, g', rfl, _, _⟩ := isEnt_cases ha.1
                            have := ihg ha.2
                            rw [List.map_cons, szWL, szWL]
                            simp only [sndD, szW, szWL]
                            omega
                        simp only [itemsD, szW]
                        omega
                      · simp [szWL]
                omega
          have := this hf
          omega
        omega
      omega
end Toy


namespace Toy
open PySem PySem.Spec L2 PyProof.Rows PySem.W
def szT : Nat → PyData → Nat
  | 0, _ => 1
  | n + 1, t => 1 + ((partsOf t).map (szT n)).sum
theorem szT_pos (n : Nat) (t : PyData) : 1 ≤ szT n t := by
  cases n with
  | zero => exact Nat.le_refl _
  | succ n => rw [szT]; omega
mutual
def noL : PyData → Bool
  | .none => true
  | .bool _ => true
  | .int _ => true
  | .str _ => true
  | .tuple ds => noLs ds
  | _ => false
def noLs : List PyData → Bool
  | [] => true
  | d :: ds => noL d && noLs ds
end
theorem noLs_all : ∀ {ds : List PyData}, (∀ d ∈ ds, noL d = true) → noLs ds = true
  | [], _ => by simp [noLs]
  | d :: ds, h => by
    simp only [noLs, Bool.and_eq_true]
    exact ⟨h d List.mem_cons_self, noLs_all fun x hx => h x (List.mem_cons_of_mem _ hx)⟩
theorem noL_str {f : PyData} (h : isStrD f = true) : noL f = true := by
  cases f with
  | str x => simp [noL]
  | _ => simp [isStrD] at h
theorem noL_fld {p : PyData → Bool} (hp : ∀ t, p t = true → noL t = true) {k : Str} {f : PyData} (h : fldOk p k f = true) : noL f = true := by
  unfold fldOk at h
  split at h
  · exact hp _ h
  split at h
  · obtain ⟨gs, rfl, _, g⟩ := tupAll_cases h
    rw [noL]
    exact noLs_all fun d hd => hp d (List.all_eq_true.mp g d hd)
  split at h
  · obtain ⟨gs, rfl, _, g⟩ := tupAll_cases h
    rw [noL]
    refine noLs_all fun d hd => ?_
    obtain ⟨x, g', rfl, _, hg⟩ := isEnt_cases (List.all_eq_true.mp g d hd)
    simp only [noL, noLs, Bool.true_and, Bool.and_true]
    exact hp _ hg
  split at h
  · obtain ⟨gs, rfl, _, g⟩ := tupAll_cases h
    rw [noL]
    exact noLs_all fun d hd => noL_str (List.all_eq_true.mp g d hd)
  split at h
  · cases f with
    | int i => simp [noL]
    | _ => simp [isIntD] at h
  split at h
  · cases f with
    | none => simp [noL]
    | bool b => simp [noL]
    | int i => simp [noL]
    | str x => simp [noL]
    | _ => simp [isLeafD] at h
  · exact noL_str h
theorem noL_flds {p : PyData → Bool} (hp : ∀ t, p t = true → noL t = true) : ∀ {ks : List Str} {fs : List PyData}, flds p ks fs = true → noLs fs = true
  | [], [], _ => by simp [noLs]
  | k :: ks, f :: fs, h => by
    simp only [flds, Bool.and_eq_true] at h
    simp only [noLs, Bool.and_eq_true]
    exact ⟨noL_fld hp h.1, noL_flds hp h.2⟩
  | [], _ :: _, h => by cases h
  | _ :: _, [], h => by cases h
theorem noL_wf : ∀ {n : Nat} {t : PyData}, wf n t = true → noL t = true
  | 0, _, h => by cases h
  | n + 1, t, h => by
    obtain ⟨w, fs, ks, rfl, hk, hf⟩ := wf_cases h
    simp only [noL, noLs, Bool.true_and]
    exact noL_flds (fun t => noL_wf) hf
theorem seqT_put {K : PySem.W.Frag} {H : Hp} {a L : Addr} {xs ys zs : List V} (h : SqT K H a xs) (hL : H L = some (.lst ys)) : SqT K (upd H L (.lst zs)) a xs := by
  rcases h with (h | ⟨o, h⟩) | h
  · exact .inl (.inl ((upd_ne (ne_of h hL (by intro e; cases e))).trans h))
  · exact .inl (.inr ⟨o, (upd_ne (ne_of h hL (by intro e; cases e))).trans h⟩)
  · exact .inr h
mutual
theorem dp_put {K : PySem.W.Frag} {H : Hp} {L : Addr} {ys zs : List V} (hL : H L = some (.lst ys)) : ∀ {v : V} {d : PyData}, Dp K H v d → noL d = true → Dp K (upd H L (.lst zs)) v d
  | _, _, .non, _ => .non
  | _, _, .bl b, _ => .bl b
  | _, _, .int i, _ => .int i
  | _, _, .str x, _ => .str x
  | _, _, .lst _ _, h => by simp [noL] at h
  | _, _, .tup h a, z => .tup (seqT_put h hL) (dps_put hL a (by simpa [noL] using z))
theorem dps_put {K : PySem.W.Frag} {H : Hp} {L : Addr} {ys zs : List V} (hL : H L = some (.lst ys)) : ∀ {vs : List V} {ds : List PyData}, DpAll K H vs ds → noLs ds = true → DpAll K (upd H L (.lst zs)) vs ds
  | _, _, .nil, _ => .nil
  | _, _, .cons a b, z => by
    simp only [noLs, Bool.and_eq_true] at z
    exact .cons (dp_put hL a z.1) (dps_put hL b z.2)
end
theorem dpl_snoc {K : PySem.W.Frag} {H : Hp} : ∀ {ws : List V} {gs : List PyData} {g : PyData}, DpAll K H ws (gs ++ [g]) → ∃ ws0 u, ws = ws0 ++ [u] ∧ DpAll K H ws0 gs ∧ Dp K H u g
  | _, [], g, .cons a .nil => ⟨[], _, rfl, .nil, a⟩
  | _, _ :: gs, g, .cons a b => by
    obtain ⟨ws0, u, rfl, h1, h2⟩ := dpl_snoc (gs := gs) b
    exact ⟨_ :: ws0, u, rfl, .cons a h1, h2⟩
theorem paired_snoc {α β : Type} {F : α → β → Prop} : ∀ {xs : List α} {ys : List β} {y : β}, Paired F xs (ys ++ [y]) → ∃ xs0 x, xs = xs0 ++ [x] ∧ Paired F xs0 ys ∧ F x y
  | _, [], y, .cons a .nil => ⟨[], _, rfl, .nil, a⟩
  | _, _ :: ys, y, .cons a b => by
    obtain ⟨xs0, x, rfl, h1, h2⟩ := paired_snoc (ys := ys) b
    exact ⟨_ :: xs0, x, rfl, .cons a h1, h2⟩
def BB : Nat → Nat
  | 0 => 1
  | n + 1 => 1 + 3 * BB n
def wgt (k : Str) : Nat := if PK k = true then 1 else if k = "filters" then 2 else if k = "entries" then 2 else 0
theorem forms_wgt : ∀ p ∈ formsL, (p.2.map wgt).sum ≤ 3 := by decide +kernel
theorem partsF_len {p : PyData → Bool} : ∀ {ks : List Str} {fs : List PyData}, flds p ks fs = true → (partsF ks fs).length ≤ (ks.map wgt).sum
  | [], [], _ => Nat.le_refl _
  | k :: ks, f :: fs, h => by
    simp only [flds, Bool.and_eq_true] at h
    have ih := partsF_len h.2
    rw [partsF, List.length_append, List.map_cons, List.sum_cons]
    have h1 : (partsK k f).length ≤ wgt k := by
      unfold partsK wgt
      split
      · exact Nat.le_refl _
      · split
        · rename_i c
          subst c
          obtain ⟨gs, rfl, g8, _⟩ := tupAll_cases (fld_f h.1)
          exact g8
        · split
          · rename_i c
            subst c
            obtain ⟨gs, rfl, g8, _⟩ := tupAll_cases (fld_e h.1)
            rw [List.length_map]
            exact g8
          · exact Nat.le_refl _
    omega
  | [], _ :: _, h => by cases h
  | _ :: _, [], h => by cases h
theorem sum_le {α : Type} {f : α → Nat} {b : Nat} : ∀ {l : List α}, (∀ x ∈ l, f x ≤ b) → (l.map f).sum ≤ l.length * b
  | [], _ => by simp
  | x :: l, h => by
    have h1 := h x List.mem_cons_self
    have h2 := sum_le fun y hy => h y (List.mem_cons_of_mem _ hy)
    rw [List.map_cons, List.sum_cons, List.length_cons, Nat.succ_mul]
    omega
theorem szT_le : ∀ {n : Nat} {t : PyData}, wf n t = true → szT n t ≤ BB n
  | 0, _, h => by cases h
  | n + 1, t, h => by
    have hp := parts_wf h
    obtain ⟨w, fs, ks, rfl, hk, hf⟩ := wf_cases h
    have l1 := partsF_len hf
    have l2 : (ks.map wgt).sum ≤ 3 := forms_wgt _ (lookup_mem hk)
    rw [szT, BB]
    have : ((partsOf (.tuple (.str w :: fs))).map (szT n)).sum ≤ (partsOf (.tuple (.str w :: fs))).length * BB n := sum_le fun p hp' => szT_le (hp p hp')
    have l3 : (partsOf (.tuple (.str w :: fs))).length ≤ 3 := by
      rw [partsOf_node hk]
      omega
    have := Nat.mul_le_mul_right (BB n) l3
    omega
theorem parts_len {n : Nat} {t : PyData} (h : wf (n + 1) t = true) : (partsOf t).length ≤ 3 := by
  obtain ⟨w, fs, ks, rfl, hk, hf⟩ := wf_cases h
  rw [partsOf_node hk]
  exact Nat.le_trans (partsF_len hf) (forms_wgt _ (lookup_mem hk))
end Toy


namespace Toy
open PySem PySem.Spec L2 PyProof.Rows PySem.W
/-! ### terms may be shown -/
def SB : Nat → Nat
  | 0 => 0
  | n + 1 => 3 * SB n + 520
/-- may be shown, at most a deep and b long -/
structure Fit (d : PyData) (a b : Nat) : Prop where
  shw : d.showable = true
  dep : d.depth ≤ a
  len : szW d ≤ b
structure FitL (ds : List PyData) (a b : Nat) : Prop where
  shw : PyData.showableAll ds = true
  dep : PyData.depthAll ds ≤ a
  len : szWL ds ≤ b
theorem Fit.mono {d : PyData} {a b a' b' : Nat} (h : Fit d a b) (ha : a ≤ a') (hb : b ≤ b') : Fit d a' b' := ⟨h.shw, Nat.le_trans h.dep ha, Nat.le_trans h.len hb⟩
theorem FitL.mono {d : List PyData} {a b a' b' : Nat} (h : FitL d a b) (ha : a ≤ a') (hb : b ≤ b') : FitL d a' b' := ⟨h.shw, Nat.le_trans h.dep ha, Nat.le_trans h.len hb⟩
theorem fitL_nil {a b : Nat} : FitL [] a b := ⟨rfl, Nat.zero_le _, Nat.zero_le _⟩
theorem fitL_cons {d : PyData} {ds : List PyData} {a b c : Nat} (h : Fit d a b) (t : FitL ds a c) : FitL (d :: ds) a (b + 2 + c) := by
  refine ⟨?_, ?_, ?_⟩
  · show (d.showable && PyData.showableAll ds) = true
    rw [h.shw, t.shw]
    rfl
  · show max d.depth (PyData.depthAll ds) ≤ a
    have h1 := h.dep
    have h2 := t.dep
    omega
  · rw [szWL]
    have h1 := h.len
    have h2 := t.len
    omega
theorem fit_tup {ds : List PyData} {a b : Nat} (h : FitL ds a b) : Fit (.tuple ds) (a + 1) (3 + b) := ⟨h.shw, by show PyData.depthAll ds + 1 ≤ _; have := h.dep; omega, by rw [szW]; have := h.len; omega⟩
theorem fit_lst {ds : List PyData} {a b : Nat} (h : FitL ds a b) : Fit (.list ds) (a + 1) (3 + b) := ⟨h.shw, by show PyData.depthAll ds + 1 ≤ _; have := h.dep; omega, by rw [szW]; have := h.len; omega⟩
theorem fit_str {x : Str} {a b : Nat} (h : (PyData.shown (.str x)).length ≤ b) : Fit (.str x) a b := ⟨rfl, Nat.zero_le _, by rw [szW]; exact h⟩
theorem fit_int {i : Int} (h : intS i = true) (a : Nat) : Fit (.int i) a 40 := by
  unfold intS at h
  rw [Bool.and_eq_true] at h
  exact ⟨h.1, Nat.zero_le _, by rw [szW]; exact of_decide_eq_true h.2⟩
theorem fitL_all {a b : Nat} : ∀ {ds : List PyData}, (∀ d ∈ ds, Fit d a b) → FitL ds a (ds.length * (b + 2))
  | [], _ => fitL_nil
  | d :: ds, h => by
    have h1 := fitL_cons (h d List.mem_cons_self) (fitL_all fun x hx => h x (List.mem_cons_of_mem _ hx))
    exact h1.mono (Nat.le_refl _) (by rw [List.length_cons, Nat.succ_mul]; omega)
theorem fit_isStr {f : PyData} (h : isStrD f = true) (a : Nat) : Fit f a 40 := by
  cases f with
  | str x => exact fit_str (okK_3 h)
  | _ => simp [isStrD] at h
theorem fit_fld {n a b : Nat} (ih : ∀ t, wf n t = true → Fit t a b) {k : Str} {f : PyData} (h : fldOk (wf n) k f = true) : Fit f (a + 2) (wgt k * b + 118) := by
  unfold fldOk at h
  unfold wgt
  split at h
  · rename_i c
    rw [if_pos c]
    exact (ih f h).mono (by omega) (by omega)
  · rename_i c
    rw [if_neg c]
    split at h
    · rename_i c2
      rw [if_pos c2]
      obtain ⟨gs, rfl, l2, ha⟩ := tupAll_cases h
      have := fitL_all (ds := gs) fun d hd => ih d (List.all_eq_true.mp ha d hd)
      refine (fit_tup this).mono (by omega) ?_
      have := Nat.mul_le_mul_right (b + 2) l2
      omega
    · rename_i c2
      rw [if_neg c2]
      split at h
      · rename_i c3
        rw [if_pos c3]
        obtain ⟨gs, rfl, l2, ha⟩ := tupAll_cases h
        have := fitL_all (a := a + 1) (b := 47 + b) (ds := gs) fun d hd => by
          obtain ⟨x, g, rfl, hx, hg⟩ := isEnt_cases (List.all_eq_true.mp ha d hd)
          exact (fit_tup (fitL_cons (fit_str (a := a) (okK_3 hx)) (fitL_cons (ih g hg) (fitL_nil (b := 0))))).mono (by omega) (by omega)
        refine (fit_tup this).mono (by omega) ?_
        have := Nat.mul_le_mul_right (47 + b + 2) l2
        omega
      · rename_i c3
        rw [if_neg c3]
        split at h
        · obtain ⟨gs, rfl, l2, ha⟩ := tupAll_cases h
          have := fitL_all (ds := gs) fun d hd => fit_isStr (List.all_eq_true.mp ha d hd) a
          refine (fit_tup this).mono (by omega) ?_
          have := Nat.mul_le_mul_right (40 + 2) l2
          omega
        · split at h
          · cases f with
            | int i => exact (fit_int h _).mono (Nat.le_refl _) (by omega)
            | _ => simp [isIntD] at h
          · split at h
            · cases f with
              | none => exact ⟨rfl, Nat.zero_le _, by simp only [szW]; omega⟩
              | bool x => exact ⟨rfl, Nat.zero_le _, by simp only [szW]; omega⟩
              | int i => exact (fit_int h _).mono (Nat.le_refl _) (by omega)
              | str x =>
                have h' : (okK x && decide (37 ∉ x.cps.toList)) = true := h
                rw [Bool.and_eq_true] at h'
                exact fit_str (Nat.le_trans (okK_3 h'.1) (by omega))
              | _ => simp [isLeafD] at h
            · exact (fit_isStr h _).mono (Nat.le_refl _) (by omega)
theorem fit_flds {n a b : Nat} (ih : ∀ t, wf n t = true → Fit t a b) : ∀ {ks : List Str} {fs : List PyData}, flds (wf n) ks fs = true → FitL fs (a + 2) ((ks.map wgt).sum * b + ks.length * 120)
  | [], [], _ => fitL_nil
  | k :: ks, f :: fs, h => by
    simp only [flds, Bool.and_eq_true] at h
    refine (fitL_cons (fit_fld ih h.1) (fit_flds ih h.2)).mono (Nat.le_refl _) ?_
    rw [List.map_cons, List.sum_cons, List.length_cons, Nat.add_mul, Nat.succ_mul]
    omega
  | [], _ :: _, h => by cases h
  | _ :: _, [], h => by cases h
theorem forms_word : ∀ p ∈ formsL, (PyData.shown (.str p.1)).length ≤ 20 := by decide +kernel
theorem wf_fit : ∀ {n : Nat} {t : PyData}, wf n t = true → Fit t (3 * n) (SB n)
  | 0, _, h => by cases h
  | n + 1, t, h => by
    obtain ⟨w, fs, ks, rfl, hk, hf⟩ := wf_cases h
    have hm := lookup_mem hk
    have h1 := fit_flds (fun t => wf_fit (n := n) (t := t)) hf
    have h2 : (ks.map wgt).sum ≤ 3 := forms_wgt _ hm
    have h3 : ks.length ≤ 4 := forms_len _ hm
    have h4 := Nat.mul_le_mul_right (SB n) h2
    refine (fit_tup (fitL_cons (fit_str (forms_word _ hm)) h1)).mono (by omega) ?_
    rw [SB]
    omega
end Toy


namespace Toy
open PySem PySem.Spec L2 PyProof.Rows PySem.W
/-! ### values of any type -/
inductive Ty (K : PySem.W.Frag) (H : Hp) : V → String → Prop
  | non : Ty K H .non "NoneType"
  | bl (b : Bool) : Ty K H (.bl b) "bool"
  | int (i : Int) : Ty K H (.int i) "int"
  | str (x : Str) : Ty K H (.str x) "str"
  | lst {a : Addr} {xs : List V} : SqL K H a xs → Ty K H (.ref a) "list"
  | tup {a : Addr} {xs : List V} : SqT K H a xs → Ty K H (.ref a) "tuple"
  | dct {a : Addr} {m : List (Key × V)} : H a = some (.dK m) → Ty K H (.ref a) "dict"
theorem Ty.tyx {K : PySem.W.Frag} {H : Hp} {v : V} {nm : String} (h : Ty K H v nm) : TyX K H v (.type nm) := by
  cases h with
  | non => exact .base .non
  | bl b => exact .base (.bl b)
  | int i => exact .base (.int i)
  | str x => exact .base (.str x)
  | lst h =>
    rcases h with (h | ⟨o, h⟩) | ⟨o, vs, n, h1, h2, _⟩
    · exact .base (.lst h)
    · exact .base (.frz h)
    · exact .kList h1 h2
  | tup h =>
    rcases h with (h | ⟨o, h⟩) | ⟨o, vs, n, h1, h2, _⟩
    · exact .base (.tup h)
    · exact .fTuple h
    · exact .kTuple h1 h2
  | dct h => exact .base (.dK h)
theorem Ty.mono {K : PySem.W.Frag} {H H' : Hp} (s : Same H H') {v : V} {nm : String} (h : Ty K H v nm) : Ty K H' v nm := by
  cases h with
  | non => exact .non
  | bl b => exact .bl b
  | int i => exact .int i
  | str x => exact .str x
  | lst h => exact .lst (s.seq h)
  | tup h => exact .tup (same_seqT s h)
  | dct h => exact .dct (s _ _ h)
theorem ty_kits {K : PySem.W.Frag} {H : Hp} {v : V} {nm : String} (h : Ty K H v nm) : PySem.W.kitOne K (.type nm) (.type "tuple") = some (decide (nm = "tuple")) ∧ PySem.W.kitOne K (.type nm) (.type "int") = some (decide (nm = "int" ∨ nm = "bool")) ∧ PySem.W.kitOne K (.type nm) (.type "bool") = some (decide (nm = "bool")) := by
  cases h <;> exact ⟨kit_ty (by decide +kernel), kit_ty (by decide +kernel), kit_ty (by decide +kernel)⟩
/-- is_integer, asked of anything -/
def spIsI (K : PySem.W.Frag) : Sp := fun vs H Q _ => ∃ (v : V) (nm : String), vs = [v] ∧ Ty K H v nm ∧ Q (.bl (decide (nm = "int"))) H
section
variable {P : Program} {w : World} {K : PySem.W.Frag} {mg : Str → Option Value} {base : Heap}
abbrev sIsInt' : Stmt := top 15
theorem scV1' : FnScope ["value"] ["value"] (defScope sIsInt') := ⟨rfl, rfl, rfl, by decide +kernel, rfl, by decide +kernel, by decide +kernel⟩
theorem ok_isI {f : Addr} {fd : FuncData} (F : Fun K "is_integer" "is_integer" sIsInt' f fd) (mI : mg "isinstance" = none) (mB : mg "bool" = none) (mN : mg "int" = none) : FnOk P w K mg base CX0 1 f fd ["value"] (spIsI K) := by
  refine F.ok scV1' (fun vs H Q E h => ?_) (fun cdv A outer s H vs Q E hr h => ?_)
  · obtain ⟨v, nm, rfl, _⟩ := h
    rfl
  · obtain ⟨v, nm, rfl, hv, q⟩ := h
    refine ⟨_, pss_one (ps_ret (pe_and (pe_callB call_isi (by rfl) mI PyProof.Rows.boot_isinstance (pa_cons (pv 0) (pa_cons (pe_bltn (v := .ty "int") (by rfl) mN (by decide +kernel) rfl) pa_nil))) (pe_one (pe_not (pe_callB call_isi (by rfl) mI PyProof.Rows.boot_isinstance (pa_cons (pv 0) (pa_cons (pe_bltn (v := .ty "bool") (by rfl) mB (by decide +kernel) rfl) pa_nil))))))), ?_⟩
    obtain ⟨k1, k2, k3⟩ := ty_kits hv
    refine ⟨_, rfl, _, _, _, _, _, rfl, .ty _, hv.tyx, k2, _, rfl, ite2 (fun c => ?_) (fun c => ?_)⟩
    · refine ⟨_, rfl, _, _, _, _, _, rfl, .ty _, hv.tyx, k3, _, rfl, ?_⟩
      have c' := of_decide_eq_true c
      rw [show (!decide (nm = "bool")) = decide (nm = "int") by
        rcases c' with rfl | rfl <;> decide]
      exact q
    · have e : decide (nm = "int") = false := decide_eq_false fun z => c (decide_eq_true (.inl z))
      rw [e] at q
      exact q
end
end Toy


namespace Toy
open PySem PySem.Spec L2 PyProof.Rows PySem.W
/-! ### the parts that a spot passes -/
def stepV (t : PyData) : V → Option PyData
  | .int i => if 0 ≤ i then (partsOf t)[i.toNat]? else none
  | _ => none
def stepsV : PyData → List V → Option (List PyData)
  | _, [] => some []
  | t, u :: us => match stepV t u with
    | some p => (match stepsV p us with
      | some ps => some (p :: ps)
      | none => none)
    | none => none
def lastT (t : PyData) : List PyData → PyData
  | [] => t
  | p :: ps => lastT p ps
theorem stepsV_len : ∀ {us : List V} {t : PyData} {ps : List PyData}, stepsV t us = some ps → ps.length = us.length
  | [], t, ps, h => by cases h; rfl
  | u :: us, t, ps, h => by
    rw [stepsV] at h
    cases h1 : stepV t u with
    | none => rw [h1] at h; cases h
    | some p =>
      rw [h1] at h
      cases h2 : stepsV p us with
      | none => simp only [h2] at h; cases h
      | some qs =>
        simp only [h2] at h
        cases h
        rw [List.length_cons, List.length_cons, stepsV_len h2]
theorem stepsV_snoc : ∀ {us : List V} {t : PyData} {ps : List PyData} (u : V), stepsV t us = some ps → stepsV t (us ++ [u]) = (stepV (lastT t ps) u).map fun p => ps ++ [p]
  | [], t, ps, u, h => by
    cases h
    rw [List.nil_append, stepsV, lastT]
    cases stepV t u <;> rfl
  | x :: us, t, ps, u, h => by
    rw [stepsV] at h
    rw [List.cons_append, stepsV]
    cases h1 : stepV t x with
    | none => rw [h1] at h; cases h
    | some p =>
      rw [h1] at h
      cases h2 : stepsV p us with
      | none => simp only [h2] at h; cases h
      | some qs =>
        simp only [h2] at h
        cases h
        simp only [stepsV_snoc u h2, lastT]
        cases stepV (lastT p qs) u <;> rfl
theorem stepsV_none : ∀ {us : List V} {t : PyData} (vs : List V), stepsV t us = none → stepsV t (us ++ vs) = none
  | [], t, vs, h => by cases h
  | x :: us, t, vs, h => by
    rw [stepsV] at h
    rw [List.cons_append, stepsV]
    cases h1 : stepV t x with
    | none => rfl
    | some p =>
      rw [h1] at h
      cases h2 : stepsV p us with
      | none => simp only [stepsV_none vs h2]
      | some qs => simp only [h2] at h; cases h
theorem lastT_snoc (t p : PyData) : ∀ ps : List PyData, lastT t (ps ++ [p]) = p
  | [] => rfl
  | q :: ps => by
    rw [List.cons_append, lastT]
    exact lastT_snoc q p ps
theorem lastT_wf {n : Nat} : ∀ {us : List V} {t : PyData} {ps : List PyData}, wf n t = true → stepsV t us = some ps → wf n (lastT t ps) = true ∧ ∀ p ∈ ps, wf n p = true
  | [], t, ps, h, e => by cases e; exact ⟨h, fun p hp => by simp at hp⟩
  | u :: us, t, ps, h, e => by
    rw [stepsV] at e
    cases h1 : stepV t u with
    | none => rw [h1] at e; cases e
    | some p =>
      rw [h1] at e
      cases h2 : stepsV p us with
      | none => simp only [h2] at e; cases e
      | some qs =>
        simp only [h2] at e
        cases e
        have hp : wf n p = true := by
          cases n with
          | zero => cases h
          | succ n =>
            refine wf_succ (parts_wf h p ?_)
            unfold stepV at h1
            split at h1
            · split at h1
              · exact List.mem_of_getElem? h1
              · cases h1
            · cases h1
        obtain ⟨i1, i2⟩ := lastT_wf hp h2
        exact ⟨i1, fun q hq => by
          rcases List.mem_cons.mp hq with rfl | hq
          · exact hp
          · exact i2 q hq⟩
theorem steps_bad {us : List V} {t : PyData} {ps : List PyData} {i : Nat} {x : V} (hst : stepsV t (us.take i) = some ps) (hx : us[i]? = some x) (hs : stepV (lastT t ps) x = none) : stepsV t us = none := by
  obtain ⟨hi, rfl⟩ := List.getElem?_eq_some_iff.mp hx
  have e : us = us.take (i + 1) ++ us.drop (i + 1) := (List.take_append_drop _ _).symm
  rw [e]
  refine stepsV_none _ ?_
  rw [List.take_succ_eq_append_getElem hi, stepsV_snoc _ hst, hs]
  rfl
theorem steps_good {us : List V} {t p : PyData} {ps : List PyData} {i : Nat} {x : V} (hst : stepsV t (us.take i) = some ps) (hx : us[i]? = some x) (hs : stepV (lastT t ps) x = some p) : stepsV t (us.take (i + 1)) = some (ps ++ [p]) := by
  obtain ⟨hi, rfl⟩ := List.getElem?_eq_some_iff.mp hx
  rw [List.take_succ_eq_append_getElem hi, stepsV_snoc _ hst, hs]
  rfl
theorem set_last {α : Type} (xs : List α) (x y : α) : (xs ++ [x]).set xs.length y = xs ++ [y] := by simp
theorem ixN_last (n : Nat) : ixN (n + 1) (-1) = some n := by
  unfold ixN
  rw [if_neg (by omega)]
  simp
  omega
theorem nx_run {D : Ends} {σ : L2.St} {H : Hp} (h : D.nx σ H) : tNext D σ H := h
theorem at_lastL {v u : V} {ws : List V} (h : (v :: ws)[ws.length]? = some u) : atI (v :: ws) (-1) = some u := by
  unfold atI
  rw [List.length_cons, ixN_last]
  exact h
theorem paired_at {α β : Type} {F : α → β → Prop} {xs : List α} {ys : List β} (h : Paired F xs ys) : ∀ {i : Nat} {y : β}, ys[i]? = some y → ∃ x, xs[i]? = some x ∧ F x y := by
  induction h with
  | nil => intro i y h; simp at h
  | cons a _ ih =>
    intro i y h
    cases i with
    | zero =>
      cases h
      exact ⟨_, rfl, a⟩
    | succ i =>
      obtain ⟨x, h1, h2⟩ := ih (by simpa using h)
      exact ⟨x, by simpa using h1, h2⟩
theorem ty_int {K : PySem.W.Frag} {H : Hp} {v : V} {nm : String} (h : Ty K H v nm) (e : nm = "int") : ∃ z, v = .int z := by
  cases h <;> first | exact ⟨_, rfl⟩ | exact absurd e (by decide)
/-- a spot that is refused is raised -/
def Refuse (C : Addr) (sp : V) (H : Hp) (E : XK) : Prop := ∀ H' d, Same H H' → H' d = some (.xd [("spot", sp)]) → E (.ref C) (some d) H'
/-- what is asked of a spot -/
def SpotA (K : PySem.W.Frag) (C : Addr) (t : PyData) (sp : V) (H : Hp) (E : XK) (R : List V → List PyData → Prop) : Prop :=
  ∃ nm : String, Ty K H sp nm ∧ (nm ≠ "tuple" → Refuse C sp H E) ∧ (nm = "tuple" → ∃ (a : Addr) (us : List V), sp = .ref a ∧ SqT K H a us ∧ us.length ≤ 900 ∧ (∀ u ∈ us, ∃ k : String, Ty K H u k) ∧ (stepsV t us = none → Refuse C sp H E) ∧ ∀ ps, stepsV t us = some ps → R us ps)
def spPs (K : PySem.W.Frag) (C : Addr) : Sp := fun vs H Q E => ∃ (v sp : V) (n : Nat) (t : PyData), vs = [v, sp] ∧ Dp K H v t ∧ wf n t = true ∧
  SpotA K C t sp H E (fun us ps => ∀ H' L ws, Same H H' → H L = none → H' L = some (.lst (v :: ws)) → DpAll K H' ws ps → Q (.ref L) H')
abbrev sPs : Stmt := top 22
abbrev NPs : List Str := ["term", "spot", "passed", "number", "inner"]
section
variable {P : Program} {w : World} {K : PySem.W.Frag} {mg : Str → Option Value} {base : Heap}
theorem scPs : FnScope NPs ["term", "spot"] (defScope sPs) := ⟨rfl, rfl, rfl, by decide +kernel, rfl, by decide +kernel, by decide +kernel⟩
theorem ok_ps {f C fK fI : Addr} {fd fdK fdI : FuncData} (F : Fun K "_passed" "_passed" sPs f fd) (T : Cl1 K C "spot") (R : ClR K C) (mN : mg "NoSpot" = some (.ref C))
    (GK : FnOk P w K mg base CX0 1 fK fdK ["term"] (spKP K)) (mK : mg "kinds_and_parts" = some (.ref fK)) (kK : PySem.W.keepIn K (.ref fK) = true) (bK : Binds K fdK ["term"] [])
    (GI : FnOk P w K mg base CX0 1 fI fdI ["value"] (spIsI K)) (mI : mg "is_integer" = some (.ref fI)) (kI : PySem.W.keepIn K (.ref fI) = true) (bI : Binds K fdI ["value"] [])
    (mIs : mg "isinstance" = none) (mTu : mg "tuple" = none) (mLen : mg "len" = none) : FnOk P w K mg base (L2.CX P w) 3 f fd ["term", "spot"] (spPs K C) := by
  refine F.okX (k := 2) scPs (fun vs H Q E h => ?_) (fun cdv A outer s H vs Q E hr h => ?_)
  · obtain ⟨v, sp, n, t, rfl, _⟩ := h
    rfl
  · obtain ⟨v, sp, n, t, rfl, hv, hw, nm, hty, hno, hyes⟩ := h
    have hr1 : Room 1 (A.deeper (PyProof.Rows.envOfC "_passed" (defScope sPs) s.heap.objs.size f cdv)) := hr.mono (by decide)
    have tk : Takes (cxOf (L2.CX P w) P w K mg base NPs "_passed" (defScope sPs) f cdv A outer s H E) (fun cls d _ H' => E cls d H') := takes_of rfl rfl rfl rfl
    refine ⟨_, pss_cons (ps_if (pt_not (pt_val (pe_callB call_isi (by rfl) mIs PyProof.Rows.boot_isinstance (pa_cons (pv 1) (pa_cons (pe_bltn (v := .ty "tuple") (by rfl) mTu (by decide +kernel) rfl) pa_nil))))) (pss_one (ps_raise rfl tk (pmk_x1 T R hr1 mN (by rfl) (pa_cons (pv 1) pa_nil)))) pss_nil)
      (pss_cons (ps_set (i := 2) scPs.nd rfl (Or.inl rfl) (pe_lst (pa_cons (pv 0) pa_nil)))
      (pss_cons (ps_for (passes_of rfl) rfl (pi_tup (pv 1)) (pg_name (i := 3) scPs.nd rfl (Or.inl rfl))
        (pss_cons (ps_set (i := 4) scPs.nd rfl (Or.inl rfl) (pe_call GK hr1 (by rfl) mK kK bK .nil pass0 (pa_cons (pe_ix ix_list (pv 2) (pe_un un_neg pe_int) (fun _ _ => rfl)) pa_nil)))
        (pss_cons (ps_if (PW.pt (pw_or (pt_not (pt_val (pe_call GI hr1 (by rfl) mI kI bI .nil pass0 (pa_cons (pv 3) pa_nil)))) (pw_or1 (pt_not (pt_chain op_le op_lt pe_int (pv 3) (pe_callB call_len_seq (by rfl) mLen PySem.boot_len (pa_cons (pv 4) pa_nil)))))))
          (pss_one (ps_raise rfl tk (pmk_x1 T R hr1 mN (by rfl) (pa_cons (pv 1) pa_nil)))) pss_nil)
        (pss_one (ps_expr (pe_bm PySem.F.plainAttrs_list PySem.F.slot_list_append PySem.F.type_list_append mt_append (pv 2) (pa_cons (pe_ix ix_tup (pe_ix ix_list (pv 4) (pv 3) (fun _ _ => rfl)) pe_int (fun _ _ => rfl)) pa_nil)))))))
      (pss_one (ps_ret (pv 2))))), ?_⟩
    refine ⟨_, rfl, _, _, _, _, _, rfl, .ty _, hty.tyx, (ty_kits hty).1, _, rfl, ite2 (fun c => ?_) (fun c => ?_)⟩
    · exact ⟨_, rfl, _, rfl, fun d nd => hno (fun z => by rw [decide_eq_true z] at c; cases c) _ _ (same_new same_id nd) upd_same⟩
    have hnm : nm = "tuple" := by
      by_cases z : nm = "tuple"
      · exact z
      · exact absurd (by rw [decide_eq_false z]; rfl) c
    obtain ⟨a, us, rfl, ha, l9, hu, hbad, hgood⟩ := hyes hnm
    obtain ⟨m, rfl⟩ : ∃ m, n = m + 1 := by
      cases n with
      | zero => cases hw
      | succ m => exact ⟨m, rfl⟩
    refine ⟨_, rfl, few (by show 1 ≤ 1000; decide), fun L nL => ?_⟩
    have sL : Same H (upd H L (.lst [v])) := same_new same_id nL
    have hL0 : (upd H L (.lst [v])) L = some (.lst [v]) := upd_same
    generalize upd H L (.lst [v]) = H1 at sL hL0 ⊢
    refine ⟨_, rfl, a, rfl, ⟨us, same_seqT sL ha⟩, ?_⟩
    refine for_tup (K := K) (a := a) (xs := us) (fun i σ H' => ∃ (o3 o4 : Option V) (ws : List V) (ps : List PyData) (u : V), σ = [some v, some (.ref a), some (.ref L), o3, o4] ∧ Same H H' ∧ H' L = some (.lst (v :: ws)) ∧ ws.length = i ∧ DpAll K H' ws ps ∧ stepsV t (us.take i) = some ps ∧ (v :: ws)[i]? = some u ∧ Dp K H' u (lastT t ps)) ⟨none, none, [], [], v, rfl, sL, hL0, rfl, .nil, rfl, rfl, dpM sL hv⟩ ?_ ?_ ?_
    · rintro i σ H' _ ⟨o3, o4, ws, ps, u, _, s2, _⟩
      exact same_seqT s2 ha
    · rintro i x σ H2 hx ⟨o3, o4, ws, ps, u, rfl, s2, hL2, lw, hws, hst, hu2, hdu⟩
      have hi : i < us.length := (List.getElem?_eq_some_iff.mp hx).1
      obtain ⟨lwf, pwf⟩ := lastT_wf hw hst
      refine ⟨_, rfl, 1, rfl, L, v :: ws, -1, u, rfl, rfl, SqL.of hL2, at_lastL (by rw [lw]; exact hu2), u, m, lastT t ps, rfl, hdu, lwf, fun H3 G qs zs s3 nG hG hq hz l36 _ => ?_⟩
      have s13 := s2.trans s3
      obtain ⟨k, hk⟩ := hu x (List.mem_of_getElem? hx)
      have lp : (partsOf (lastT t ps)).length = zs.length := by rw [← dpl_len hz, List.length_map]
      have lq : qs.length = zs.length := hq.length
      have refuse : ∀ hs : stepV (lastT t ps) x = none, ∃ _ : True, ∀ {H4 : Hp}, Same H H4 → ∀ d, H4 d = none → E (.ref C) (some d) (upd H4 d (.xd [("spot", .ref a)])) := fun hs => ⟨trivial, fun s4 d nd => hbad (steps_bad hst hx hs) _ _ (same_new s4 nd) upd_same⟩
      refine ⟨_, rfl, x, k, rfl, hk.mono s13, _, rfl, ite2 (fun c1 => ?_) (fun c1 => ?_)⟩
      · obtain ⟨_, no⟩ := refuse (by
          cases hk <;> first | rfl | (exact absurd c1 (by decide)))
        exact ⟨_, rfl, _, rfl, fun d nd => no s13 d nd⟩
      have hki : k = "int" := by
        by_cases z : k = "int"
        · exact z
        · exact absurd (by rw [decide_eq_false z]; rfl) c1
      obtain ⟨z, rfl⟩ := ty_int hk hki
      refine ⟨_, rfl, _, _, rfl, rfl, _, rfl, ?_⟩
      by_cases z0 : 0 ≤ z
      · rw [decide_eq_true z0]
        refine iteT ⟨_, rfl, G, _, rfl, .inl (SqL.of hG), _, _, rfl, rfl, _, rfl, ite2 (fun c2 => ?_) (fun c2 => ?_)⟩
        · obtain ⟨_, no⟩ := refuse (by
            show (if 0 ≤ z then (partsOf (lastT t ps))[z.toNat]? else none) = none
            rw [if_pos z0]
            refine List.getElem?_eq_none ?_
            by_cases y : z < ((qs.map V.ref).length : Nat)
            · rw [decide_eq_true y] at c2
              cases c2
            · rw [List.length_map] at y
              omega)
          exact ⟨_, rfl, _, rfl, fun d nd => no s13 d nd⟩
        · have y : z < ((qs.map V.ref).length : Nat) := by
            by_cases y : z < ((qs.map V.ref).length : Nat)
            · exact y
            · exact absurd (by rw [decide_eq_false y]; rfl) c2
          rw [List.length_map] at y
          obtain ⟨zn, rfl⟩ : ∃ zn : Nat, z = zn := ⟨z.toNat, by omega⟩
          have hzn : zn < zs.length := by omega
          obtain ⟨q, hq1, hq2⟩ := paired_at hq (List.getElem?_eq_getElem hzn)
          obtain ⟨p, hp1, hp2⟩ := dpl_get hz (i := zn) (v := zs[zn].2) (by rw [List.getElem?_map, List.getElem?_eq_getElem hzn]; rfl)
          have hsv : stepV (lastT t ps) (.int (zn : Nat)) = some p := by
            show (if (0 : Int) ≤ (zn : Nat) then (partsOf (lastT t ps))[((zn : Nat) : Int).toNat]? else none) = some p
            rw [if_pos z0]
            exact hp1
          have hL3 : H3 L = some (.lst (v :: ws)) := s3 _ _ hL2
          refine nx_run ?_
          refine ⟨_, rfl, .inl ⟨rfl, _, SqL.of hL3⟩, _, rfl, _, rfl, G, qs.map V.ref, (zn : Nat), .ref q, rfl, rfl, SqL.of hG, at_nat (by rw [List.getElem?_map, hq1]; rfl), q, [.str zs[zn].1, zs[zn].2], 1, zs[zn].2, rfl, rfl, SqT.of hq2, at_nat (n := 1) rfl, L, v :: ws, zs[zn].2, rfl, rfl, hL3, small1000 (by rw [List.length_cons]; omega), ?_⟩
          have hgs := steps_good hst hx hsv
          refine ⟨_, _, ws ++ [zs[zn].2], ps ++ [p], zs[zn].2, rfl, same_put s13 nL, by rw [upd_same]; rfl, by rw [List.length_append, lw]; rfl, ?_, hgs, ?_, ?_⟩
          · exact dpl_app (dps_put hL3 (dpAllM s3 hws) (noLs_all fun d hd => noL_wf (pwf d hd))) (.cons (dp_put hL3 (dpM s3 hp2) (noL_wf (parts_wf lwf p (List.mem_of_getElem? hp1)))) .nil)
          · rw [← lw, ← List.cons_append, List.getElem?_append_right (by simp)]
            simp
          · rw [lastT_snoc]
            exact dp_put hL3 (dpM s3 hp2) (noL_wf (parts_wf lwf p (List.mem_of_getElem? hp1)))
      · rw [decide_eq_false z0]
        obtain ⟨_, no⟩ := refuse (by
          show (if 0 ≤ z then (partsOf (lastT t ps))[z.toNat]? else none) = none
          rw [if_neg z0])
        exact iteF ⟨_, rfl, ite2 (fun _ => ⟨_, rfl, _, rfl, fun d nd => no s13 d nd⟩) (fun h => absurd rfl h)⟩
    · rintro σ Hz ⟨o3, o4, ws, ps, u, rfl, s2, hL2, lw, hws, hst, hu2, hdu⟩
      rw [List.take_length] at hst
      exact ⟨_, rfl, hgood ps hst Hz L ws s2 nL hL2 hws⟩
end
end Toy


namespace Toy
open PySem PySem.Spec L2 PyProof.Rows PySem.W
theorem SpotA.imp {K : PySem.W.Frag} {C : Addr} {t : PyData} {sp : V} {H : Hp} {E : XK} {R R' : List V → List PyData → Prop} (h : SpotA K C t sp H E R) (k : ∀ us ps, us.length ≤ 900 → stepsV t us = some ps → R us ps → R' us ps) : SpotA K C t sp H E R' := by
  obtain ⟨nm, h1, h2, h3⟩ := h
  exact ⟨nm, h1, h2, fun e => by
    obtain ⟨a, us, g1, g2, g3, g4, g5, g6⟩ := h3 e
    exact ⟨a, us, g1, g2, g3, g4, g5, fun ps hp => k us ps g3 hp (g6 ps hp)⟩⟩
theorem last_dp {K : PySem.W.Frag} {H : Hp} : ∀ {ws : List V} {ps : List PyData} {v : V} {t : PyData}, Dp K H v t → DpAll K H ws ps → ∃ u, (v :: ws)[ws.length]? = some u ∧ Dp K H u (lastT t ps)
  | [], [], v, t, h, _ => ⟨v, rfl, h⟩
  | w :: ws, p :: ps, v, t, h, a => by
    cases a with
    | cons a1 a2 =>
      obtain ⟨u, h1, h2⟩ := last_dp a1 a2
      exact ⟨u, by rw [List.length_cons, List.getElem?_cons_succ]; exact h1, h2⟩
  | [], _ :: _, _, _, _, a => by cases a
  | _ :: _, [], _, _, _, a => by cases a
def spPA (K : PySem.W.Frag) (C : Addr) : Sp := fun vs H Q E => ∃ (v sp : V) (n : Nat) (t : PyData), vs = [v, sp] ∧ Dp K H v t ∧ wf n t = true ∧
  SpotA K C t sp H E (fun us ps => ∀ H' u, Same H H' → Dp K H' u (lastT t ps) → Q u H')
abbrev sPA : Stmt := top 20
section
variable {P : Program} {w : World} {K : PySem.W.Frag} {mg : Str → Option Value} {base : Heap}
theorem scPA : FnScope ["term", "spot"] ["term", "spot"] (defScope sPA) := ⟨rfl, rfl, rfl, by decide +kernel, rfl, by decide +kernel, by decide +kernel⟩
theorem ok_pa {f C fP : Addr} {fd fdP : FuncData} (F : Fun K "part_at_spot" "part_at_spot" sPA f fd) (GP : FnOk P w K mg base (L2.CX P w) 3 fP fdP ["term", "spot"] (spPs K C)) (mP : mg "_passed" = some (.ref fP)) (kP : PySem.W.keepIn K (.ref fP) = true) (bP : Binds K fdP ["term", "spot"] []) :
    FnOk P w K mg base (L2.CX P w) 4 f fd ["term", "spot"] (spPA K C) := by
  refine F.okX (k := 3) scPA (fun vs H Q E h => ?_) (fun cdv A outer s H vs Q E hr h => ?_)
  · obtain ⟨v, sp, n, t, rfl, _⟩ := h
    rfl
  · obtain ⟨v, sp, n, t, rfl, hv, hw, hA⟩ := h
    refine ⟨_, pss_one (ps_ret (pe_ix ix_list (pe_call (E := E) GP hr (by rfl) mP kP bP .nil (passes_call (takes_of rfl rfl rfl rfl) fun cls d _ H h => h) (pa_cons (pv 0) (pa_cons (pv 1) pa_nil))) (pe_un un_neg pe_int) (fun _ _ => rfl))), ?_⟩
    refine ⟨_, rfl, _, rfl, v, sp, n, t, rfl, hv, hw, hA.imp fun us ps _ hst q => fun H' L ws s nL hL hws => ?_⟩
    obtain ⟨u, h1, h2⟩ := last_dp (dpM s hv) hws
    exact ⟨1, rfl, L, v :: ws, -1, u, rfl, rfl, SqL.of hL, at_lastL h1, q H' u s h2⟩
end
end Toy


namespace Toy
open PySem PySem.Spec PyProof.Rows L2 RZ
/-! zip of a tuple and a list, and of a list and a tuple -/
section
variable {prog : Program} {w : World} {A : Around} {E : Value → Shared → Prop} {s : Shared}
abbrev zipTL1 (h : Heap) (l1 : Addr) : Heap := h.push { cls := .type "tuple_iterator", data := .fields #[.ref l1, .int 0 0] }
abbrev zipTL2 (h : Heap) (l1 l2 : Addr) : Heap := (zipTL1 h l1).push { cls := .type "list_iterator", data := .fields #[.ref l2, .int 0 0] }
abbrev zipTL3 (h : Heap) (l1 l2 : Addr) : Heap := (zipTL2 h l1 l2).push { cls := .type "tuple", data := .seq #[.ref h.objs.size, .ref (zipTL1 h l1).objs.size] }
abbrev zipTL4 (h : Heap) (l1 l2 : Addr) : Heap := (zipTL3 h l1 l2).push { cls := .type "tuple", data := .seq #[.none, .none] }
abbrev zipTL5 (h : Heap) (l1 l2 : Addr) : Heap := (zipTL4 h l1 l2).push { cls := .type "zip", data := .fields #[.none, .bool false, .bool false, .ref (zipTL2 h l1 l2).objs.size, .ref (zipTL3 h l1 l2).objs.size] }
theorem meets_zipTL (l1 l2 : Addr) (xs ys : Array Value) :
    Meets (Builtin.«zip.__new__» ⟨[.type "zip", .ref l1, .ref l2], []⟩) (fun _ R s => s.heap.IsTuple l1 xs ∧ s.heap.IsList l2 ys ∧
      R (.ok (.ret (.ref (zipTL4 s.heap l1 l2).objs.size))) { s with heap := zipTL5 s.heap l1 l2 }) :=
  .of_wp fun prog w A R s h => by
    obtain ⟨hp, g, d, tk, os⟩ := s; obtain ⟨hl1, hl2, h⟩ := h
    have hsub := sub_zip
    have hL2 : Heap.IsList (Shared.heap ⟨hp.push { cls := .type "tuple_iterator", data := .fields #[.ref l1, .int 0 0] }, g, d, tk, os⟩) l2 ys := Heap.IsList.push hl2 _
    wp_walk using wpAny_pyIter_tuple hl1, wpAny_pyIter_list hL2
    exact ⟨_, rfl, h⟩
theorem call_zipTL {l1 l2 : Addr} {xs ys : Array Value} {Q : Value → Shared → Prop} (hl1 : s.heap.IsTuple l1 xs) (hl2 : s.heap.IsList l2 ys)
    (h : ∀ h', IsZip h' (s.heap.objs.size + 4) (s.heap.objs.size + 2) (s.heap.objs.size + 3) .none → IsPair h' (s.heap.objs.size + 2) (.ref s.heap.objs.size) (.ref (s.heap.objs.size + 1)) →
      IsPair h' (s.heap.objs.size + 3) .none .none → h'.IsTupleIter s.heap.objs.size l1 0 → h'.IsListIter (s.heap.objs.size + 1) l2 0 → h'.objs.size = s.heap.objs.size + 5 →
      (∀ c o, s.heap.get? c = some o → h'.get? c = some o) → Q (.ref (s.heap.objs.size + 4)) { s with heap := h' }) :
    wpAny (model prog w) A (call (.type "zip") [.ref l1, .ref l2]) Q E s := by
  refine callType_new F.called_zip (by decide) (F.typeCall_zip_2 _ _) (F.newCall_zip_2 _ _) (fun obj => F.args_object_init_3 obj _ _) F.entry_zip_new
    (meets_zipTL l1 l2 xs ys) ⟨hl1, hl2, ?_⟩
  have z1 : (zipTL1 s.heap l1).objs.size = s.heap.objs.size + 1 := Heap.size_push ..
  have z2 : (zipTL2 s.heap l1 l2).objs.size = s.heap.objs.size + 2 := by rw [Heap.size_push, z1]
  have z3 : (zipTL3 s.heap l1 l2).objs.size = s.heap.objs.size + 3 := by rw [Heap.size_push, z2]
  have z4 : (zipTL4 s.heap l1 l2).objs.size = s.heap.objs.size + 4 := by rw [Heap.size_push, z3]
  have z5 : (zipTL5 s.heap l1 l2).objs.size = s.heap.objs.size + 5 := by rw [Heap.size_push, z4]
  have g5 : (zipTL5 s.heap l1 l2).get? (zipTL4 s.heap l1 l2).objs.size = some _ := Heap.get?_push_size _ rfl
  have g4 : (zipTL5 s.heap l1 l2).get? (zipTL3 s.heap l1 l2).objs.size = some _ := Heap.get?_push_of_some _ (Heap.get?_push_size _ rfl)
  have g3 : (zipTL5 s.heap l1 l2).get? (zipTL2 s.heap l1 l2).objs.size = some _ := Heap.get?_push_of_some _ (Heap.get?_push_of_some _ (Heap.get?_push_size _ rfl))
  have g2 : (zipTL5 s.heap l1 l2).get? (zipTL1 s.heap l1).objs.size = some _ := Heap.get?_push_of_some _ (Heap.get?_push_of_some _ (Heap.get?_push_of_some _ (Heap.get?_push_size _ rfl)))
  have g1 : (zipTL5 s.heap l1 l2).get? s.heap.objs.size = some _ := Heap.get?_push_of_some _ (Heap.get?_push_of_some _ (Heap.get?_push_of_some _ (Heap.get?_push_of_some _ (Heap.get?_push_size _ rfl))))
  show _ ∧ _
  rw [z2, z3, z4] at g5
  rw [z1, z2] at g3
  rw [z3] at g4
  rw [z1] at g2
  rw [z4]
  exact ⟨⟨_, g5, rfl⟩, h _ g5 g3 g4 ⟨_, g1, rfl, rfl⟩ ⟨_, g2, rfl, rfl⟩ z5 fun c o x =>
    Heap.get?_push_of_some _ (Heap.get?_push_of_some _ (Heap.get?_push_of_some _ (Heap.get?_push_of_some _ (Heap.get?_push_of_some _ x))))⟩
abbrev zipLT1 (h : Heap) (l1 : Addr) : Heap := h.push { cls := .type "list_iterator", data := .fields #[.ref l1, .int 0 0] }
abbrev zipLT2 (h : Heap) (l1 l2 : Addr) : Heap := (zipLT1 h l1).push { cls := .type "tuple_iterator", data := .fields #[.ref l2, .int 0 0] }
abbrev zipLT3 (h : Heap) (l1 l2 : Addr) : Heap := (zipLT2 h l1 l2).push { cls := .type "tuple", data := .seq #[.ref h.objs.size, .ref (zipLT1 h l1).objs.size] }
abbrev zipLT4 (h : Heap) (l1 l2 : Addr) : Heap := (zipLT3 h l1 l2).push { cls := .type "tuple", data := .seq #[.none, .none] }
abbrev zipLT5 (h : Heap) (l1 l2 : Addr) : Heap := (zipLT4 h l1 l2).push { cls := .type "zip", data := .fields #[.none, .bool false, .bool false, .ref (zipLT2 h l1 l2).objs.size, .ref (zipLT3 h l1 l2).objs.size] }
theorem meets_zipLT (l1 l2 : Addr) (xs ys : Array Value) :
    Meets (Builtin.«zip.__new__» ⟨[.type "zip", .ref l1, .ref l2], []⟩) (fun _ R s => s.heap.IsList l1 xs ∧ s.heap.IsTuple l2 ys ∧
      R (.ok (.ret (.ref (zipLT4 s.heap l1 l2).objs.size))) { s with heap := zipLT5 s.heap l1 l2 }) :=
  .of_wp fun prog w A R s h => by
    obtain ⟨hp, g, d, tk, os⟩ := s; obtain ⟨hl1, hl2, h⟩ := h
    have hsub := sub_zip
    have hL2 : Heap.IsTuple (Shared.heap ⟨hp.push { cls := .type "list_iterator", data := .fields #[.ref l1, .int 0 0] }, g, d, tk, os⟩) l2 ys := Heap.IsTuple.push hl2 _
    wp_walk using wpAny_pyIter_list hl1, wpAny_pyIter_tuple hL2
    exact ⟨_, rfl, h⟩
theorem call_zipLT {l1 l2 : Addr} {xs ys : Array Value} {Q : Value → Shared → Prop} (hl1 : s.heap.IsList l1 xs) (hl2 : s.heap.IsTuple l2 ys)
    (h : ∀ h', IsZip h' (s.heap.objs.size + 4) (s.heap.objs.size + 2) (s.heap.objs.size + 3) .none → IsPair h' (s.heap.objs.size + 2) (.ref s.heap.objs.size) (.ref (s.heap.objs.size + 1)) →
      IsPair h' (s.heap.objs.size + 3) .none .none → h'.IsListIter s.heap.objs.size l1 0 → h'.IsTupleIter (s.heap.objs.size + 1) l2 0 → h'.objs.size = s.heap.objs.size + 5 →
      (∀ c o, s.heap.get? c = some o → h'.get? c = some o) → Q (.ref (s.heap.objs.size + 4)) { s with heap := h' }) :
    wpAny (model prog w) A (call (.type "zip") [.ref l1, .ref l2]) Q E s := by
  refine callType_new F.called_zip (by decide) (F.typeCall_zip_2 _ _) (F.newCall_zip_2 _ _) (fun obj => F.args_object_init_3 obj _ _) F.entry_zip_new
    (meets_zipLT l1 l2 xs ys) ⟨hl1, hl2, ?_⟩
  have z1 : (zipLT1 s.heap l1).objs.size = s.heap.objs.size + 1 := Heap.size_push ..
  have z2 : (zipLT2 s.heap l1 l2).objs.size = s.heap.objs.size + 2 := by rw [Heap.size_push, z1]
  have z3 : (zipLT3 s.heap l1 l2).objs.size = s.heap.objs.size + 3 := by rw [Heap.size_push, z2]
  have z4 : (zipLT4 s.heap l1 l2).objs.size = s.heap.objs.size + 4 := by rw [Heap.size_push, z3]
  have z5 : (zipLT5 s.heap l1 l2).objs.size = s.heap.objs.size + 5 := by rw [Heap.size_push, z4]
  have g5 : (zipLT5 s.heap l1 l2).get? (zipLT4 s.heap l1 l2).objs.size = some _ := Heap.get?_push_size _ rfl
  have g4 : (zipLT5 s.heap l1 l2).get? (zipLT3 s.heap l1 l2).objs.size = some _ := Heap.get?_push_of_some _ (Heap.get?_push_size _ rfl)
  have g3 : (zipLT5 s.heap l1 l2).get? (zipLT2 s.heap l1 l2).objs.size = some _ := Heap.get?_push_of_some _ (Heap.get?_push_of_some _ (Heap.get?_push_size _ rfl))
  have g2 : (zipLT5 s.heap l1 l2).get? (zipLT1 s.heap l1).objs.size = some _ := Heap.get?_push_of_some _ (Heap.get?_push_of_some _ (Heap.get?_push_of_some _ (Heap.get?_push_size _ rfl)))
  have g1 : (zipLT5 s.heap l1 l2).get? s.heap.objs.size = some _ := Heap.get?_push_of_some _ (Heap.get?_push_of_some _ (Heap.get?_push_of_some _ (Heap.get?_push_of_some _ (Heap.get?_push_size _ rfl))))
  show _ ∧ _
  rw [z2, z3, z4] at g5
  rw [z1, z2] at g3
  rw [z3] at g4
  rw [z1] at g2
  rw [z4]
  exact ⟨⟨_, g5, rfl⟩, h _ g5 g3 g4 ⟨_, g1, rfl, rfl⟩ ⟨_, g2, rfl, rfl⟩ z5 fun c o x =>
    Heap.get?_push_of_some _ (Heap.get?_push_of_some _ (Heap.get?_push_of_some _ (Heap.get?_push_of_some _ (Heap.get?_push_of_some _ x))))⟩
end
/-- what stands at a and at b, turn by turn, in new pairs -/
def ItzTL (K : PySem.W.Frag) (a b : Addr) : It :=
  ⟨fun i H => ∃ (xs ys : List V), SqT K H a xs ∧ SqL K H b ys ∧ i < xs.length ∧ i < ys.length,
    fun i H v H' => ∃ T x y, v = .ref T ∧ H T = none ∧ H' = upd H T (.tup [x, y]) ∧ (∀ xs, SqT K H a xs → xs[i]? = some x) ∧ ∀ ys, SqL K H b ys → ys[i]? = some y,
    fun i H => ∃ xs ys : List V, SqT K H a xs ∧ SqL K H b ys ∧ i ≤ xs.length ∧ i ≤ ys.length ∧ (i = xs.length ∨ i = ys.length)⟩
theorem turn_zipTL {P : Program} {w : World} {K : PySem.W.Frag} {elts : List Expr} {kk : Nat} {tpos : Pos} {a b z TI TO i1 i2 : Addr} (D : ZipApart z TI TO i1 i2 a b) :
    Turn P w K (.Tuple elts kk tpos) (ItzTL K a b) [z, TI, TO, i1, i2] z (fun i h => IsZip h z TI TO .none ∧ IsPair h TI (.ref i1) (.ref i2) ∧ (∃ x y, IsPair h TO x y) ∧ h.IsTupleIter i1 a i ∧ h.IsListIter i2 b i) where
  mem := by simp
  obj := fun i h st c hc => by
    obtain ⟨hz, hTI, ⟨x, y, hTO⟩, ⟨o1, e1, _, d1⟩, ⟨o2, e2, _, d2⟩⟩ := st
    have e' : c = z ∨ c = TI ∨ c = TO ∨ c = i1 ∨ c = i2 := by simpa using hc
    rcases e' with q | q | q | q | q
    · rw [q]; exact ⟨_, hz, fun v q => nomatch q⟩
    · rw [q]; exact ⟨_, hTI, fun v q => nomatch q⟩
    · rw [q]; exact ⟨_, hTO, fun v q => nomatch q⟩
    · rw [q]; exact ⟨o1, e1, fun v q => by rw [d1] at q; cases q⟩
    · rw [q]; exact ⟨o2, e2, fun v q => by rw [d2] at q; cases q⟩
  keep := fun i h h' st k => by
    obtain ⟨hz, hTI, ⟨x, y, hTO⟩, h1, h2⟩ := st
    exact ⟨k z (by simp) _ hz, k TI (by simp) _ hTI, ⟨x, y, k TO (by simp) _ hTO⟩, h1.at fun o q => k i1 (by simp) o q, h2.at fun o q => k i2 (by simp) o q⟩
  item := by
    intro X hP hw hK hc i pins s σ H E I hf st hg
    subst hP hw hK
    obtain ⟨hz, hTI, ⟨x0, y0, hTO⟩, h1, h2⟩ := st
    obtain ⟨xs, ys, hqx, hqy, hix, hiy⟩ := hg
    obtain ⟨its, rv, p1, _⟩ := I.tuple hqx
    obtain ⟨its2, rv2, p2, _⟩ := I.list hqy
    have hl1 := rv.length
    have hl2 := rv2.length
    have hzl : z < s.heap.objs.size := Heap.lt_size hz
    have hh : X.A.in1.handled = none := I.ok.hd hc
    refine wpAny_pyNext_zipD2_item (a1 := x0) (a2 := y0) (St1 := fun i h => h.IsTupleIter i1 a i ∧ h.IsTuple a its.toArray) (St2 := fun i h => h.IsListIter i2 b i ∧ h.IsList b its2.toArray)
      ⟨D.TIz, D.TOz, D.TITO, D.TIi1, by simp, by simp [D.i1z.symm, D.l1z.symm], by simp [D.TOi1, D.l1TO.symm], D.TIi2, by simp, by simp [D.i2z.symm, D.l2z.symm], by simp [D.TOi2, D.l2TO.symm], by simp [D.i12, D.l2i1.symm], by simp [D.i12.symm, D.l1i2.symm]⟩
      (drawsTuple hh i1 a D.l1i1 its.toArray) (Draws.list hh i2 b D.l2i2 its2.toArray) hz hTI hTO ⟨h1, p1⟩ ⟨h2, p2.isList⟩ (by simp; omega) (by simp; omega) fun u1 u2 h' tk P1 P2 z' TO' h1' h2' hT hsz hk => ?_
    have hx : xs[i]? = some xs[i] := List.getElem?_eq_getElem hix
    have hy : ys[i]? = some ys[i] := List.getElem?_eq_getElem hiy
    obtain ⟨v1, hv1, ru1⟩ := rv.get hx
    obtain ⟨v2, hv2, ru2⟩ := rv2.get hy
    obtain rfl : v1 = u1 := by
      have : its.toArray[i]? = some u1 := P1
      rw [show its.toArray[i]? = its[i]? by simp, hv1] at this
      exact Option.some.inj this
    obtain rfl : v2 = u2 := by
      have : its2.toArray[i]? = some u2 := P2
      rw [show its2.toArray[i]? = its2[i]? by simp, hv2] at this
      exact Option.some.inj this
    refine ⟨_, rfl, wpAny_letOwnedTupleGo_zip (s := { s with heap := h', toks := tk }) z' fun h'' z'' sb => ?_⟩
    have hT2 : h''.get? s.heap.objs.size = some { cls := .type "tuple", data := .seq #[v1, v2] } := (sb.2 _ (Nat.ne_of_gt hzl)).trans hT
    have new : ObjOk X.prog X.w (upd H s.heap.objs.size (.tup [xs[i], ys[i]])) h'' s.heap.objs.size (.tup [xs[i], ys[i]]) :=
      ⟨by show 2 ≤ sizeLine; decide, [v1, v2], .cons ru1 (.cons ru2 .nil), ⟨_, hT2, rfl, _, rfl⟩⟩
    have I1 : Inv X pins σ (upd H s.heap.objs.size (.tup [xs[i], ys[i]])) { s with heap := h'', toks := tk } :=
      I.turnedNew (t' := tk) (ch := [z, TI, TO, i1, i2]) (fun c o hb q => (sb.2 c (fun q' => hb (by simp [q']))).trans (hk c o (fun q' => hb (by simp [q'])) (fun q' => hb (by simp [q'])) (fun q' => hb (by simp [q'])) (fun q' => hb (by simp [q'])) q)) hf (Nat.le_refl _) new
    refine ⟨.ref s.heap.objs.size, _, I1, rfl, ⟨_, xs[i], ys[i], rfl, I.hok.fresh (Nat.le_refl _), rfl, fun l hl => by rw [I.tuple_inj hl hqx]; exact hx, fun l hl => by rw [I.list_inj hl hqy]; exact hy⟩, ⟨z'', ?_, ⟨v1, v2, ?_⟩, ?_, ?_⟩, fun c hcm => ?_⟩
    · exact (sb.2 _ D.TIz).trans (hk _ _ D.TIz D.TITO D.TIi1 D.TIi2 hTI)
    · exact (sb.2 _ D.TOz).trans TO'
    · exact h1'.1.at fun o q => (sb.2 _ D.i1z).trans q
    · exact h2'.1.at fun o q => (sb.2 _ D.i2z).trans q
    · have hlt : c < s.heap.objs.size := by
        have e' : c = z ∨ c = TI ∨ c = TO ∨ c = i1 ∨ c = i2 := by simpa using hcm
        rcases e' with q | q | q | q | q
        · rw [q]; exact hzl
        · rw [q]; exact Heap.lt_size hTI
        · rw [q]; exact Heap.lt_size hTO
        · rw [q]; obtain ⟨_, e1, _⟩ := h1; exact Heap.lt_size e1
        · rw [q]; obtain ⟨_, e2, _⟩ := h2; exact Heap.lt_size e2
      rw [upd_ne (Nat.ne_of_lt hlt)]
      exact (hf c hcm).1
  done := by
    intro X hP hw hK hc i pins s σ H E I hf st hg
    subst hP hw hK
    obtain ⟨hz, hTI, ⟨x0, y0, hTO⟩, h1, h2⟩ := st
    obtain ⟨xs, ys, hqx, hqy, hlx, hly, hend⟩ := hg
    obtain ⟨its, rv, p1, _⟩ := I.tuple hqx
    obtain ⟨its2, rv2, p2, _⟩ := I.list hqy
    have hl1 := rv.length
    have hl2 := rv2.length
    have hh : X.A.in1.handled = none := I.ok.hd hc
    refine wpAny_pyNext_zipD2_end (a1 := x0) (a2 := y0) (St1 := fun i h => h.IsTupleIter i1 a i ∧ h.IsTuple a its.toArray) (St2 := fun i h => h.IsListIter i2 b i ∧ h.IsList b its2.toArray)
      ⟨D.TIz, D.TOz, D.TITO, D.TIi1, by simp, by simp [D.i1z.symm, D.l1z.symm], by simp [D.TOi1, D.l1TO.symm], D.TIi2, by simp, by simp [D.i2z.symm, D.l2z.symm], by simp [D.TOi2, D.l2TO.symm], by simp [D.i12, D.l2i1.symm], by simp [D.i12.symm, D.l1i2.symm]⟩
      (drawsTuple hh i1 a D.l1i1 its.toArray) (Draws.list hh i2 b D.l2i2 its2.toArray) hz hTI hTO ⟨h1, p1⟩ ⟨h2, p2.isList⟩ (by simp; omega) (by simp; omega) (by simp; omega) fun h' tk hk => ?_
    exact ⟨rfl, I.turnedL (t' := tk) (ch := [z, TI, TO, i1, i2]) (fun c o hb q =>
      hk c o (fun q' => hb (by simp [q'])) (fun q' => hb (by simp [q'])) (fun q' => hb (by simp [q'])) (fun q' => hb (by simp [q'])) q) hf⟩
  self := fun A i s Q E st h => wpAny_pyIter_zip st.1 h
def iZipTL (K : PySem.W.Frag) (ta : TA) : TI := fun σ H R => ta σ H fun vs H1 => ∃ (a b : Addr) (xs ys : List V), vs = [.ref a, .ref b] ∧ SqT K H1 a xs ∧ SqL K H1 b ys ∧ R (ItzTL K a b) H1
theorem pi_zipTL {X : Cx} {e e2 : Expr} {ta : TA} {p pos tpos : Pos} {elts : List Expr} {kk : Nat} (hg : Gl X "zip") (hm : X.mg "zip" = none) (ha : PA X [e, e2] ta)
    (hs : starEach [e, e2] X.env = (false, eval e X.env) :: starEach [e2] X.env := by rfl) (hpl : (backTo pos (starEach [e2] X.env)).any (·.1) = false := by rfl) :
    PI X (.Tuple elts kk tpos) (.Call (.Name "zip" p) [e, e2] [] pos) (iZipTL X.K ta) := by
  refine ⟨fun pins s σ H R I h => ?_⟩
  refine Call_ (ld_blt I hg hm PyProof.Rows.boot_zip (PyProof.Rows.callWith_type1 (thn (ha.run pos pins s σ H _ I h) fun us s1 ⟨vs, H1, I1, r1, q1⟩ => ?_) hs hpl))
  obtain ⟨a, b, xs, ys, ex, hqx, hqy, q⟩ := q1
  subst ex
  cases r1 with
  | cons r rr =>
    cases rr with
    | cons r' rr =>
      cases rr
      cases r
      cases r'
      have fresh5 : ∀ c, c ∈ [s1.heap.objs.size + 4, s1.heap.objs.size + 2, s1.heap.objs.size + 3, s1.heap.objs.size, s1.heap.objs.size + 1] → FpOk X pins H1 c := fun c hcm => by
        have e' : c = s1.heap.objs.size + 4 ∨ c = s1.heap.objs.size + 2 ∨ c = s1.heap.objs.size + 3 ∨ c = s1.heap.objs.size ∨ c = s1.heap.objs.size + 1 := by simpa using hcm
        have hle : s1.heap.objs.size ≤ c := by
          rcases e' with z | z | z | z | z
          · rw [z]; exact Nat.le_add_right _ _
          · rw [z]; exact Nat.le_add_right _ _
          · rw [z]; exact Nat.le_add_right _ _
          · rw [z]; exact Nat.le_refl _
          · rw [z]; exact Nat.le_add_right _ _
        exact I1.fpOk hle (I1.hok.fresh hle)
      obtain ⟨its, rv, p1, _⟩ := I1.tuple hqx
      obtain ⟨its2, rv2, p2, _⟩ := I1.list hqy
      refine call_zipTL p1 p2.isList fun h' hz hTI hTO h1 h2 hsz hk => wpAny_pyIter_zip hz ?_
      have I2 : Inv X pins σ H1 { s1 with heap := h' } := I1.kept (t' := s1.toks) hk
      exact ⟨s1.heap.objs.size + 4, [s1.heap.objs.size + 4, s1.heap.objs.size + 2, s1.heap.objs.size + 3, s1.heap.objs.size, s1.heap.objs.size + 1], _, _, H1, rfl, I2, turn_zipTL (PySem.W.ktu_apart s1.heap.objs.size a b p1.lt p2.lt), ⟨hz, hTI, ⟨_, _, hTO⟩, h1, h2⟩, fresh5, q⟩
/-- what stands at a and at b, turn by turn, in new pairs -/
def ItzLT (K : PySem.W.Frag) (a b : Addr) : It :=
  ⟨fun i H => ∃ (xs ys : List V), SqL K H a xs ∧ SqT K H b ys ∧ i < xs.length ∧ i < ys.length,
    fun i H v H' => ∃ T x y, v = .ref T ∧ H T = none ∧ H' = upd H T (.tup [x, y]) ∧ (∀ xs, SqL K H a xs → xs[i]? = some x) ∧ ∀ ys, SqT K H b ys → ys[i]? = some y,
    fun i H => ∃ xs ys : List V, SqL K H a xs ∧ SqT K H b ys ∧ i ≤ xs.length ∧ i ≤ ys.length ∧ (i = xs.length ∨ i = ys.length)⟩
theorem turn_zipLT {P : Program} {w : World} {K : PySem.W.Frag} {elts : List Expr} {kk : Nat} {tpos : Pos} {a b z TI TO i1 i2 : Addr} (D : ZipApart z TI TO i1 i2 a b) :
    Turn P w K (.Tuple elts kk tpos) (ItzLT K a b) [z, TI, TO, i1, i2] z (fun i h => IsZip h z TI TO .none ∧ IsPair h TI (.ref i1) (.ref i2) ∧ (∃ x y, IsPair h TO x y) ∧ h.IsListIter i1 a i ∧ h.IsTupleIter i2 b i) where
  mem := by simp
  obj := fun i h st c hc => by
    obtain ⟨hz, hTI, ⟨x, y, hTO⟩, ⟨o1, e1, _, d1⟩, ⟨o2, e2, _, d2⟩⟩ := st
    have e' : c = z ∨ c = TI ∨ c = TO ∨ c = i1 ∨ c = i2 := by simpa using hc
    rcases e' with q | q | q | q | q
    · rw [q]; exact ⟨_, hz, fun v q => nomatch q⟩
    · rw [q]; exact ⟨_, hTI, fun v q => nomatch q⟩
    · rw [q]; exact ⟨_, hTO, fun v q => nomatch q⟩
    · rw [q]; exact ⟨o1, e1, fun v q => by rw [d1] at q; cases q⟩
    · rw [q]; exact ⟨o2, e2, fun v q => by rw [d2] at q; cases q⟩
  keep := fun i h h' st k => by
    obtain ⟨hz, hTI, ⟨x, y, hTO⟩, h1, h2⟩ := st
    exact ⟨k z (by simp) _ hz, k TI (by simp) _ hTI, ⟨x, y, k TO (by simp) _ hTO⟩, h1.at fun o q => k i1 (by simp) o q, h2.at fun o q => k i2 (by simp) o q⟩
  item := by
    intro X hP hw hK hc i pins s σ H E I hf st hg
    subst hP hw hK
    obtain ⟨hz, hTI, ⟨x0, y0, hTO⟩, h1, h2⟩ := st
    obtain ⟨xs, ys, hqx, hqy, hix, hiy⟩ := hg
    obtain ⟨its, rv, p1, _⟩ := I.list hqx
    obtain ⟨its2, rv2, p2, _⟩ := I.tuple hqy
    have hl1 := rv.length
    have hl2 := rv2.length
    have hzl : z < s.heap.objs.size := Heap.lt_size hz
    have hh : X.A.in1.handled = none := I.ok.hd hc
    refine wpAny_pyNext_zipD2_item (a1 := x0) (a2 := y0) (St1 := fun i h => h.IsListIter i1 a i ∧ h.IsList a its.toArray) (St2 := fun i h => h.IsTupleIter i2 b i ∧ h.IsTuple b its2.toArray)
      ⟨D.TIz, D.TOz, D.TITO, D.TIi1, by simp, by simp [D.i1z.symm, D.l1z.symm], by simp [D.TOi1, D.l1TO.symm], D.TIi2, by simp, by simp [D.i2z.symm, D.l2z.symm], by simp [D.TOi2, D.l2TO.symm], by simp [D.i12, D.l2i1.symm], by simp [D.i12.symm, D.l1i2.symm]⟩
      (Draws.list hh i1 a D.l1i1 its.toArray) (drawsTuple hh i2 b D.l2i2 its2.toArray) hz hTI hTO ⟨h1, p1.isList⟩ ⟨h2, p2⟩ (by simp; omega) (by simp; omega) fun u1 u2 h' tk P1 P2 z' TO' h1' h2' hT hsz hk => ?_
    have hx : xs[i]? = some xs[i] := List.getElem?_eq_getElem hix
    have hy : ys[i]? = some ys[i] := List.getElem?_eq_getElem hiy
    obtain ⟨v1, hv1, ru1⟩ := rv.get hx
    obtain ⟨v2, hv2, ru2⟩ := rv2.get hy
    obtain rfl : v1 = u1 := by
      have : its.toArray[i]? = some u1 := P1
      rw [show its.toArray[i]? = its[i]? by simp, hv1] at this
      exact Option.some.inj this
    obtain rfl : v2 = u2 := by
      have : its2.toArray[i]? = some u2 := P2
      rw [show its2.toArray[i]? = its2[i]? by simp, hv2] at this
      exact Option.some.inj this
    refine ⟨_, rfl, wpAny_letOwnedTupleGo_zip (s := { s with heap := h', toks := tk }) z' fun h'' z'' sb => ?_⟩
    have hT2 : h''.get? s.heap.objs.size = some { cls := .type "tuple", data := .seq #[v1, v2] } := (sb.2 _ (Nat.ne_of_gt hzl)).trans hT
    have new : ObjOk X.prog X.w (upd H s.heap.objs.size (.tup [xs[i], ys[i]])) h'' s.heap.objs.size (.tup [xs[i], ys[i]]) :=
      ⟨by show 2 ≤ sizeLine; decide, [v1, v2], .cons ru1 (.cons ru2 .nil), ⟨_, hT2, rfl, _, rfl⟩⟩
    have I1 : Inv X pins σ (upd H s.heap.objs.size (.tup [xs[i], ys[i]])) { s with heap := h'', toks := tk } :=
      I.turnedNew (t' := tk) (ch := [z, TI, TO, i1, i2]) (fun c o hb q => (sb.2 c (fun q' => hb (by simp [q']))).trans (hk c o (fun q' => hb (by simp [q'])) (fun q' => hb (by simp [q'])) (fun q' => hb (by simp [q'])) (fun q' => hb (by simp [q'])) q)) hf (Nat.le_refl _) new
    refine ⟨.ref s.heap.objs.size, _, I1, rfl, ⟨_, xs[i], ys[i], rfl, I.hok.fresh (Nat.le_refl _), rfl, fun l hl => by rw [I.list_inj hl hqx]; exact hx, fun l hl => by rw [I.tuple_inj hl hqy]; exact hy⟩, ⟨z'', ?_, ⟨v1, v2, ?_⟩, ?_, ?_⟩, fun c hcm => ?_⟩
    · exact (sb.2 _ D.TIz).trans (hk _ _ D.TIz D.TITO D.TIi1 D.TIi2 hTI)
    · exact (sb.2 _ D.TOz).trans TO'
    · exact h1'.1.at fun o q => (sb.2 _ D.i1z).trans q
    · exact h2'.1.at fun o q => (sb.2 _ D.i2z).trans q
    · have hlt : c < s.heap.objs.size := by
        have e' : c = z ∨ c = TI ∨ c = TO ∨ c = i1 ∨ c = i2 := by simpa using hcm
        rcases e' with q | q | q | q | q
        · rw [q]; exact hzl
        · rw [q]; exact Heap.lt_size hTI
        · rw [q]; exact Heap.lt_size hTO
        · rw [q]; obtain ⟨_, e1, _⟩ := h1; exact Heap.lt_size e1
        · rw [q]; obtain ⟨_, e2, _⟩ := h2; exact Heap.lt_size e2
      rw [upd_ne (Nat.ne_of_lt hlt)]
      exact (hf c hcm).1
  done := by
    intro X hP hw hK hc i pins s σ H E I hf st hg
    subst hP hw hK
    obtain ⟨hz, hTI, ⟨x0, y0, hTO⟩, h1, h2⟩ := st
    obtain ⟨xs, ys, hqx, hqy, hlx, hly, hend⟩ := hg
    obtain ⟨its, rv, p1, _⟩ := I.list hqx
    obtain ⟨its2, rv2, p2, _⟩ := I.tuple hqy
    have hl1 := rv.length
    have hl2 := rv2.length
    have hh : X.A.in1.handled = none := I.ok.hd hc
    refine wpAny_pyNext_zipD2_end (a1 := x0) (a2 := y0) (St1 := fun i h => h.IsListIter i1 a i ∧ h.IsList a its.toArray) (St2 := fun i h => h.IsTupleIter i2 b i ∧ h.IsTuple b its2.toArray)
      ⟨D.TIz, D.TOz, D.TITO, D.TIi1, by simp, by simp [D.i1z.symm, D.l1z.symm], by simp [D.TOi1, D.l1TO.symm], D.TIi2, by simp, by simp [D.i2z.symm, D.l2z.symm], by simp [D.TOi2, D.l2TO.symm], by simp [D.i12, D.l2i1.symm], by simp [D.i12.symm, D.l1i2.symm]⟩
      (Draws.list hh i1 a D.l1i1 its.toArray) (drawsTuple hh i2 b D.l2i2 its2.toArray) hz hTI hTO ⟨h1, p1.isList⟩ ⟨h2, p2⟩ (by simp; omega) (by simp; omega) (by simp; omega) fun h' tk hk => ?_
    exact ⟨rfl, I.turnedL (t' := tk) (ch := [z, TI, TO, i1, i2]) (fun c o hb q =>
      hk c o (fun q' => hb (by simp [q'])) (fun q' => hb (by simp [q'])) (fun q' => hb (by simp [q'])) (fun q' => hb (by simp [q'])) q) hf⟩
  self := fun A i s Q E st h => wpAny_pyIter_zip st.1 h
def iZipLT (K : PySem.W.Frag) (ta : TA) : TI := fun σ H R => ta σ H fun vs H1 => ∃ (a b : Addr) (xs ys : List V), vs = [.ref a, .ref b] ∧ SqL K H1 a xs ∧ SqT K H1 b ys ∧ R (ItzLT K a b) H1
theorem pi_zipLT {X : Cx} {e e2 : Expr} {ta : TA} {p pos tpos : Pos} {elts : List Expr} {kk : Nat} (hg : Gl X "zip") (hm : X.mg "zip" = none) (ha : PA X [e, e2] ta)
    (hs : starEach [e, e2] X.env = (false, eval e X.env) :: starEach [e2] X.env := by rfl) (hpl : (backTo pos (starEach [e2] X.env)).any (·.1) = false := by rfl) :
    PI X (.Tuple elts kk tpos) (.Call (.Name "zip" p) [e, e2] [] pos) (iZipLT X.K ta) := by
  refine ⟨fun pins s σ H R I h => ?_⟩
  refine Call_ (ld_blt I hg hm PyProof.Rows.boot_zip (PyProof.Rows.callWith_type1 (thn (ha.run pos pins s σ H _ I h) fun us s1 ⟨vs, H1, I1, r1, q1⟩ => ?_) hs hpl))
  obtain ⟨a, b, xs, ys, ex, hqx, hqy, q⟩ := q1
  subst ex
  cases r1 with
  | cons r rr =>
    cases rr with
    | cons r' rr =>
      cases rr
      cases r
      cases r'
      have fresh5 : ∀ c, c ∈ [s1.heap.objs.size + 4, s1.heap.objs.size + 2, s1.heap.objs.size + 3, s1.heap.objs.size, s1.heap.objs.size + 1] → FpOk X pins H1 c := fun c hcm => by
        have e' : c = s1.heap.objs.size + 4 ∨ c = s1.heap.objs.size + 2 ∨ c = s1.heap.objs.size + 3 ∨ c = s1.heap.objs.size ∨ c = s1.heap.objs.size + 1 := by simpa using hcm
        have hle : s1.heap.objs.size ≤ c := by
          rcases e' with z | z | z | z | z
          · rw [z]; exact Nat.le_add_right _ _
          · rw [z]; exact Nat.le_add_right _ _
          · rw [z]; exact Nat.le_add_right _ _
          · rw [z]; exact Nat.le_refl _
          · rw [z]; exact Nat.le_add_right _ _
        exact I1.fpOk hle (I1.hok.fresh hle)
      obtain ⟨its, rv, p1, _⟩ := I1.list hqx
      obtain ⟨its2, rv2, p2, _⟩ := I1.tuple hqy
      refine call_zipLT p1.isList p2 fun h' hz hTI hTO h1 h2 hsz hk => wpAny_pyIter_zip hz ?_
      have I2 : Inv X pins σ H1 { s1 with heap := h' } := I1.kept (t' := s1.toks) hk
      exact ⟨s1.heap.objs.size + 4, [s1.heap.objs.size + 4, s1.heap.objs.size + 2, s1.heap.objs.size + 3, s1.heap.objs.size, s1.heap.objs.size + 1], _, _, H1, rfl, I2, turn_zipLT (PySem.W.ktu_apart s1.heap.objs.size a b p1.lt p2.lt), ⟨hz, hTI, ⟨_, _, hTO⟩, h1, h2⟩, fresh5, q⟩
end Toy


namespace Toy
open PySem PySem.Spec L2 PyProof.Rows PySem.W
theorem wpF_snoc : ∀ {ks : List Str} {fs : List PyData} {ps : List PyData} {i : Nat} {k : Str} {f : PyData}, ks[i]? = some k → fs[i]? = some f →
    wpF (ks.take (i + 1)) (fs.take (i + 1)) ps = wpF (ks.take i) (fs.take i) ps ++ [wpK k f ((ps.drop (partsF (ks.take i) (fs.take i)).length).take (partsK k f).length)]
  | k :: ks, f :: fs, ps, 0, _, _, h1, h2 => by
    cases h1
    cases h2
    simp [wpF, partsF]
  | k :: ks, f :: fs, ps, i + 1, _, _, h1, h2 => by
    have ih := wpF_snoc (ks := ks) (fs := fs) (ps := ps.drop (partsK k f).length) (i := i) (by simpa using h1) (by simpa using h2)
    simp only [List.take_succ_cons, wpF, partsF]
    rw [ih, List.cons_append, List.length_append, List.drop_drop]
  | [], _, _, _, _, _, h1, _ => by simp at h1
  | _ :: _, [], _, _, _, _, _, h2 => by simp at h2
theorem partsF_le : ∀ (ks : List Str) (fs : List PyData) (j : Nat), (partsF (ks.take j) (fs.take j)).length ≤ (partsF ks fs).length
  | _, _, 0 => by simp [partsF]
  | [], _, _ + 1 => by simp [partsF]
  | _ :: _, [], _ + 1 => by simp [partsF]
  | k :: ks, f :: fs, j + 1 => by
    simp only [List.take_succ_cons, partsF, List.length_append]
    have := partsF_le ks fs j
    omega
theorem noLs_snoc : ∀ {ds : List PyData} {d : PyData}, noLs ds = true → noL d = true → noLs (ds ++ [d]) = true
  | [], d, _, h => by simp only [List.nil_append, noLs, h, Bool.and_true]
  | x :: ds, d, a, h => by
    simp only [noLs, Bool.and_eq_true] at a
    simp only [List.cons_append, noLs, Bool.and_eq_true]
    exact ⟨a.1, noLs_snoc a.2 h⟩
theorem cut_mid {xs : List V} {i j : Nat} (h : i + j ≤ xs.length) : cutV xs (some (i : Int)) (some ((i : Int) + (j : Int))) = (xs.drop i).take j := by
  unfold cutV
  rw [show HT.sIx xs.length 0 (some (i : Int)) = min i xs.length from HT.sIx_nat _ _ i, show ((i : Int) + (j : Int)) = ((i + j : Nat) : Int) by omega, show HT.sIx xs.length xs.length (some ((i + j : Nat) : Int)) = min (i + j) xs.length from HT.sIx_nat _ _ (i + j)]
  rw [Nat.min_eq_left h, Nat.min_eq_left (show i ≤ xs.length by omega)]
  congr 1
  omega
theorem dpl_cut {K : PySem.W.Frag} {H : Hp} : ∀ {us : List V} {ps : List PyData} (i j : Nat), DpAll K H us ps → DpAll K H ((us.drop i).take j) ((ps.drop i).take j)
  | [], [], i, j, _ => by simp; exact .nil
  | u :: us, p :: ps, 0, 0, _ => by simp; exact .nil
  | u :: us, p :: ps, 0, j + 1, .cons a b => by
    have := dpl_cut 0 j b
    simp only [List.drop_zero] at this
    simp only [List.drop_zero, List.take_succ_cons]
    exact .cons a this
  | u :: us, p :: ps, i + 1, j, .cons a b => by
    simp only [List.drop_succ_cons]
    exact dpl_cut i j b
theorem noLs_mem : ∀ {ds : List PyData} {d : PyData}, noLs ds = true → d ∈ ds → noL d = true
  | [], _, _, h => by cases h
  | x :: ds, d, a, h => by
    simp only [noLs, Bool.and_eq_true] at a
    rcases List.mem_cons.mp h with rfl | h
    · exact a.1
    · exact noLs_mem a.2 h
theorem noLs_take {ds : List PyData} (i : Nat) (h : noLs ds = true) : noLs (ds.take i) = true := noLs_all fun _ hd => noLs_mem h (List.mem_of_mem_take hd)
theorem zipE_get : ∀ {es ps : List PyData} {i : Nat} {e p : PyData}, es[i]? = some e → ps[i]? = some p → (zipE es ps)[i]? = some (.tuple [fstD e, p])
  | e :: es, p :: ps, 0, _, _, h1, h2 => by
    cases h1
    cases h2
    rfl
  | e :: es, p :: ps, i + 1, _, _, h1, h2 => by
    simp only [zipE, List.getElem?_cons_succ] at h1 h2 ⊢
    exact zipE_get h1 h2
  | [], _, _, _, _, h1, _ => by simp at h1
  | _ :: _, [], _, _, _, _, h2 => by simp at h2
/-- over zip of a tuple and a list -/
theorem lc_zipTL {K : PySem.W.Frag} {a b : Addr} {xs ys : List V} {g : TG} {tt : TT} {te : TE} {vs : List Nat} {σ : L2.St} {H1 : Hp} {D : Addr} {Qd : Hp → Prop} (hlen : xs.length = ys.length) (Pv : Nat → Hp → Prop) (h0 : Pv 0 (upd H1 D (.lst []))) (hl : ∀ i H, Pv i H → SqT K H a xs ∧ SqL K H b ys)
    (hs : ∀ i x y T H, xs[i]? = some x → ys[i]? = some y → Pv i H → H T = none → g (.ref T) (wipe σ vs) (upd H T (.tup [x, y])) fun σ2 H2 => wipe σ2 vs = wipe σ vs ∧ tt σ2 H2 fun b H3 =>
      if b = true then te σ2 H3 fun y H4 => ∃ acc, H4 D = some (.lst acc) ∧ acc.length < sizeLine ∧ Pv (i + 1) (upd H4 D (.lst (acc ++ [y]))) else Pv (i + 1) H3) (hd : ∀ H, Pv xs.length H → Qd H) :
    ∃ W : Nat → Nat → Hp → Prop, (∃ m, W 0 m (upd H1 D (.lst []))) ∧ ∀ i m H, W i m H →
      ((ItzTL K a b).stop i H ∧ Qd H) ∨ ((ItzTL K a b).go i H ∧ ∃ Nx : Hp → Prop, (∀ H', Nx H' → ∃ m', m' < m ∧ W (i + 1) m' H') ∧ ∀ x H', (ItzTL K a b).yld i H x H' → g x (wipe σ vs) H' fun σ2 H2 => wipe σ2 vs = wipe σ vs ∧ tt σ2 H2 fun b H3 =>
        if b = true then te σ2 H3 fun y H4 => ∃ acc, H4 D = some (.lst acc) ∧ acc.length < sizeLine ∧ Nx (upd H4 D (.lst (acc ++ [y]))) else Nx H3) := by
  refine ⟨fun i m H => m = xs.length - i ∧ i ≤ xs.length ∧ Pv i H, ⟨xs.length, by simp, Nat.zero_le _, h0⟩, ?_⟩
  rintro i m H ⟨rfl, hi, p⟩
  obtain ⟨q1, q2⟩ := hl i H p
  by_cases hlt : i < xs.length
  · refine .inr ⟨⟨xs, ys, q1, q2, hlt, by omega⟩, Pv (i + 1), fun H' p' => ⟨xs.length - (i + 1), by omega, rfl, hlt, p'⟩, fun x H' y => ?_⟩
    obtain ⟨T, x0, y0, e, nT, e2, g1, g2⟩ := y
    subst e e2
    exact hs i _ _ T H (g1 xs q1) (g2 ys q2) p nT
  · have e : i = xs.length := by omega
    subst e
    exact .inl ⟨⟨xs, ys, q1, q2, Nat.le_refl _, by omega, .inl rfl⟩, hd H p⟩
def spWP (K : PySem.W.Frag) : Sp := fun vs H Q _ => ∃ (v : V) (p : Addr) (us : List V) (n m : Nat) (t : PyData) (ps : List PyData), vs = [v, .ref p] ∧ Dp K H v t ∧ wf (n + 1) t = true ∧ n ≤ m ∧ H p = some (.lst us) ∧ DpAll K H us ps ∧ ps.length = (partsOf t).length ∧ (∀ q ∈ ps, wf m q = true) ∧
  ∀ H' u, Same H H' → Dp K H' u (wpT t ps) → Q u H'
abbrev sWP : Stmt := top 11
abbrev NWP : List Str := ["term", "parts", "fields", "begin", "kind", "field", "further", "entry", "part"]
section
variable {P : Program} {w : World} {K : PySem.W.Frag} {mg : Str → Option Value} {base : Heap}
theorem scWP : FnScope NWP ["term", "parts"] (defScope sWP) := ⟨rfl, rfl, rfl, by decide +kernel, rfl, by decide +kernel, by decide +kernel⟩
theorem ok_wp {f aF aP : Addr} {fd : FuncData} (F : Fun K "with_parts" "with_parts" sWP f fd) (mFo : mg "FORMS" = some (.ref aF)) (FK : FormsK K w aF) (mPK : mg "PART_KINDS" = some (.ref aP)) (PKK : TupK K aP kinds4)
    (mZip : mg "zip" = none) (mLen : mg "len" = none) (mTup : mg "tuple" = none) : FnOk P w K mg base CX0 1 f fd ["term", "parts"] (spWP K) := by
  refine F.ok (k := 0) scWP (fun vs H Q E h => ?_) (fun cdv A outer s H vs Q E hr h => ?_)
  · obtain ⟨v, p, us, n, m, t, ps, rfl, _⟩ := h
    rfl
  · obtain ⟨v, p, us, n, m, t, ps, rfl, hv, hw, hnm, hp, hus, hlen, hpw, q⟩ := h
    obtain ⟨wd, fs, ks, rfl, hk, hf⟩ := wf_cases hw
    refine ⟨_, pss_cons (ps_set (i := 2) scWP.nd rfl (Or.inl rfl) (pe_lst pa_nil))
      (pss_cons (ps_set (i := 3) scWP.nd rfl (Or.inl rfl) pe_int)
      (pss_cons (ps_for PassesOwn.never rfl (RZ.pi_zipA (by rfl) mZip (pa_cons (pe_ix ix_kdict (pe_glob (v := .ref aF) (by rfl) mFo rfl) (pe_ix ix_tup (pv 0) pe_int (fun _ _ => rfl)) (fun _ _ => rfl)) (pa_cons (pe_slice sl_tup (pv 0) (po_some pe_int) po_none) pa_nil)))
        (pg_tup (by rfl) (pgs_cons (pg_name (i := 4) scWP.nd rfl (.inl rfl)) (pgs_cons (pg_name (i := 5) scWP.nd rfl (.inl rfl)) pgs_nil)))
        (pss_one (ps_if (pt_cmpR op_in_seq (pv 4) (pe_glob (v := .ref aP) (by rfl) mPK rfl) (by rfl))
          (pss_cons (ps_expr (pe_bm PySem.F.plainAttrs_list PySem.F.slot_list_append PySem.F.type_list_append mt_append (pv 2) (pa_cons (pe_ix ix_list (pv 1) (pv 3) (fun _ _ => rfl)) pa_nil)))
            (pss_one (ps_aug (i := 3) scWP.nd rfl (Or.inl rfl) pe_int ip_add)))
          (pss_one (ps_if (pt_cmpR op_eq (pv 4) pe_str (nomark _))
            (pss_cons (ps_expr (pe_bm PySem.F.plainAttrs_list PySem.F.slot_list_append PySem.F.type_list_append mt_append (pv 2) (pa_cons (pe_callTy call_tuple_of (by rfl) mTup (by decide +kernel) (pa_cons (pe_slice sl_list (pv 1) (po_some (pv 3)) (po_some (pe_op op_add (pv 3) (pe_callB call_len_seq (by rfl) mLen PySem.boot_len (pa_cons (pv 5) pa_nil))))) pa_nil)) pa_nil)))
              (pss_one (ps_aug (i := 3) scWP.nd rfl (Or.inl rfl) (pe_callB call_len_seq (by rfl) mLen PySem.boot_len (pa_cons (pv 5) pa_nil)) ip_add)))
            (pss_one (ps_if (pt_cmpR op_eq (pv 4) pe_str (nomark _))
              (pss_cons (ps_set (i := 6) scWP.nd rfl (Or.inl rfl) (pe_slice sl_list (pv 1) (po_some (pv 3)) (po_some (pe_op op_add (pv 3) (pe_callB call_len_seq (by rfl) mLen PySem.boot_len (pa_cons (pv 5) pa_nil))))))
              (pss_cons (ps_expr (pe_bm PySem.F.plainAttrs_list PySem.F.slot_list_append PySem.F.type_list_append mt_append (pv 2) (pa_cons (pe_callTy call_tuple_of (by rfl) mTup (by decide +kernel) (pa_cons (pe_lc (own := [("entry", 7), ("part", 8)]) (g := gTup K 2 (gCons (gName 7) (gCons (gName 8) gNil))) (te := tTup (tCons (tOp (rIxT K) (tVar 7) (tC (.int 0))) (tCons (tVar 8) tNil))) (by rfl) scWP.nd (pi_zipTL (by rfl) mZip (pa_cons (pv 5) (pa_cons (pv 6) pa_nil)))
                  (blkOk_by (own := [("entry", 7), ("part", 8)]) (N := NWP) (sc := defScope sWP) (by decide +kernel)) (fun _ _ _ _ _ => by exact (pg_tup rfl (pgs_cons (by exact (pg_name (i := 7) scWP.nd rfl (Or.inl rfl))) (pgs_cons (by exact (pg_name (i := 8) scWP.nd rfl (Or.inl rfl))) pgs_nil)))) (fun _ _ _ _ _ => pts_nil)
                  (fun _ _ _ _ _ => pe_tup (pa_cons (pe_ix ix_tup (pv 7) pe_int (fun _ _ => rfl)) (pa_cons (pv 8) pa_nil)))) pa_nil)) pa_nil)))
              (pss_one (ps_aug (i := 3) scWP.nd rfl (Or.inl rfl) (pe_callB call_len_seq (by rfl) mLen PySem.boot_len (pa_cons (pv 5) pa_nil)) ip_add))))
              (pss_one (ps_expr (pe_bm PySem.F.plainAttrs_list PySem.F.slot_list_append PySem.F.type_list_append mt_append (pv 2) (pa_cons (pv 5) pa_nil)))))))))))
      (pss_one (ps_ret (pe_tup (pa_cons (pe_ix ix_tup (pv 0) pe_int (fun _ _ => rfl)) (StX.pa_star (pv 2) pa_nil))))))), ?_⟩
    cases hv with
    | @tup av xs _ hseq hall =>
    cases hall with
    | @cons v0 vs d0 ds h0 hvs =>
    cases h0
    have hkl := flds_len hf
    have hvl := dpl_len hvs
    have hvl : vs.length = fs.length := hvl
    have hmem := lookup_mem hk
    rw [partsOf_node (fs := fs) hk] at hlen
    have hle := partsF_le ks fs
    obtain ⟨aK, hK1, hK2⟩ := FK _ hmem
    have k4 : ks.length ≤ 4 := forms_len _ hmem
    refine ⟨few (by show 0 ≤ 1000; decide), fun L nL => ?_⟩
    have sL : Same H (upd H L (.lst [])) := same_new same_id nL
    have q1 : SqT K (upd H L (.lst [])) av (.str wd :: vs) := same_seqT sL hseq
    have hL0 : (upd H L (.lst [])) L = some (.lst []) := upd_same
    generalize upd H L (.lst []) = H1 at sL q1 hL0 ⊢
    refine ⟨_, rfl, av, _, 0, _, rfl, rfl, q1, at_0 _ _, aF, wd, _, rfl, rfl, hK1, _, rfl, 1, rfl, av, _, rfl, q1, cut_1w _ _, fun B nB => ?_⟩
    rw [cut_1]
    have nLB : L ≠ B := ne_of_none hL0 nB
    have hB : (upd H1 B (.tup vs)) B = some (.tup vs) := upd_same
    have hLB : (upd H1 B (.tup vs)) L = some (.lst []) := (upd_ne nLB).trans hL0
    have sHB : Same H (upd H1 B (.tup vs)) := same_new sL nB
    generalize upd H1 B (.tup vs) = H4 at hB hLB sHB ⊢
    refine ⟨aK, B, ks.map V.str, vs, rfl, .inr ⟨hK2 H4, SqT.of hB, ?_⟩⟩
    refine RZ.for_zipT (K := K) (a := aK) (b := B) (xs := ks.map V.str) (ys := vs) (by rw [List.length_map]; omega) (fun i σ H' => ∃ (ws : List V) (a b c : Option V), σ = [some (.ref av), some (.ref p), some (.ref L), some (.int ((partsF (ks.take i) (fs.take i)).length : Nat)), a, b, c, none, none] ∧ Same H H' ∧ H' L = some (.lst ws) ∧ H' B = some (.tup vs) ∧ DpAll K H' ws (wpF (ks.take i) (fs.take i) ps) ∧ noLs (wpF (ks.take i) (fs.take i) ps) = true ∧ ws.length = i)
      ⟨[], none, none, none, by simp [partsF]; rfl, sHB, hLB, hB, by simp [wpF]; exact .nil, by simp [wpF, noLs], rfl⟩ ?_ ?_ ?_
    · rintro i σ H' ⟨ws, a, b, c, _, _, _, e, _⟩
      exact ⟨hK2 H', SqT.of e⟩
    · rintro i k y T σ H5 hk5 hy ⟨ws, a, b, c, rfl, s5, hM, hB5, hws, hnl, hwl⟩ nT
      have hi : i < vs.length := by
        rcases Nat.lt_or_ge i vs.length with z | z
        · exact z
        · rw [List.getElem?_eq_none z] at hy
          cases hy
      obtain ⟨f0, hf0, hyf⟩ := dpl_get hvs hy
      have hki : ks[i]? = some ks[i] := List.getElem?_eq_getElem (by omega)
      generalize ks[i] = k0 at hki
      have ek : k = .str k0 := by
        rw [List.getElem?_map, hki] at hk5
        exact (Option.some.inj hk5).symm
      subst ek
      have hfo := flds_get hf hki hf0
      have hpt' := partsF_take ks fs i hki hf0
      have hsn := wpF_snoc (ps := ps) hki hf0
      have hb1 := hle (i + 1)
      rw [hpt', List.length_append] at hb1
      generalize hbg : (partsF (ks.take i) (fs.take i)).length = bg at hsn hb1 ⊢
      have hmid : (List.take (partsK k0 f0).length (List.drop bg ps)).length = (partsK k0 f0).length := by
        rw [List.length_take, List.length_drop]
        omega
      have hmw : ∀ q ∈ List.take (partsK k0 f0).length (List.drop bg ps), wf m q = true := fun q hq => hpw q (List.mem_of_mem_drop (List.mem_of_mem_take hq))
      have hwk := wpK_ok hnm hfo hmid hmw
      have hno := noL_fld (fun t => noL_wf (n := m)) hwk
      have hcu : DpAll K H ((us.drop bg).take (partsK k0 f0).length) ((ps.drop bg).take (partsK k0 f0).length) := dpl_cut _ _ hus
      have lus := dpl_len hus
      have nMT : L ≠ T := ne_of_none hM nT
      have nBT : B ≠ T := ne_of_none hB5 nT
      have sT1 : Same H5 (upd H5 T (.tup [.str k0, y])) := same_new same_id nT
      have sT : Same H (upd H5 T (.tup [.str k0, y])) := same_new s5 nT
      have hMT : (upd H5 T (.tup [.str k0, y])) L = some (.lst ws) := (upd_ne nMT).trans hM
      have hBT : (upd H5 T (.tup [.str k0, y])) B = some (.tup vs) := (upd_ne nBT).trans hB5
      have hwT := dpAllM sT1 hws
      refine ⟨T, _, rfl, SqT.of upd_same, rfl, _, _, rfl, _, _, rfl, rfl, ?_⟩
      generalize upd H5 T (.tup [.str k0, y]) = H6 at sT hMT hBT hwT ⊢
      have fin : ∀ (x : V) (H7 : Hp) (a b c : Option V), Same H6 H7 → Dp K H7 x (wpK k0 f0 ((ps.drop bg).take (partsK k0 f0).length)) →
          ∃ (ws' : List V) (a' b' c' : Option V), [some (V.ref av), some (.ref p), some (.ref L), some (.int ((bg + (partsK k0 f0).length : Nat) : Int)), a, b, c, none, none] = [some (.ref av), some (.ref p), some (.ref L), some (.int ((partsF (ks.take (i+1)) (fs.take (i+1))).length : Nat)), a', b', c', none, none] ∧ Same H (upd H7 L (.lst (ws ++ [x]))) ∧ (upd H7 L (.lst (ws ++ [x]))) L = some (.lst ws') ∧ (upd H7 L (.lst (ws ++ [x]))) B = some (.tup vs) ∧ DpAll K (upd H7 L (.lst (ws ++ [x]))) ws' (wpF (ks.take (i+1)) (fs.take (i+1)) ps) ∧ noLs (wpF (ks.take (i+1)) (fs.take (i+1)) ps) = true ∧ ws'.length = i + 1 := by
        intro x H7 a b c s7 hx
        have hL7 := s7 _ _ hMT
        refine ⟨ws ++ [x], a, b, c, ?_, same_put (sT.trans s7) nL, upd_same, ?_, ?_, ?_, ?_⟩
        · rw [hpt', List.length_append, hbg]
        · rw [upd_ne (ne_of (s7 _ _ hBT) hL7 (by intro e; cases e))]
          exact s7 _ _ hBT
        · rw [hsn]
          exact dpl_app (dps_put hL7 (dpAllM s7 hwT) hnl) (.cons (dp_put hL7 hx hno) .nil)
        · rw [hsn]
          exact noLs_snoc hnl hno
        · rw [List.length_append, List.length_singleton, hwl]
      refine ⟨_, rfl, aP, _, rfl, .inr (PKK H6), rfl, flat_strs kinds4, _, rfl, ?_⟩
      have ein : inV (V.str k0) (kinds4.map V.str) = PK k0 := inV_strs k0 kinds4
      show (if inV (V.str k0) (kinds4.map V.str) = true then _ else _)
      rw [ein]
      refine ite2 (fun c1 => ?_) (fun c1 => ?_)
      · have ep : partsK k0 f0 = [f0] := by unfold partsK; rw [if_pos c1]
        have e1 : (partsK k0 f0).length = 1 := by rw [ep]; rfl
        have hp0 : bg < us.length := by
          rw [e1] at hb1
          omega
        have hg : us[bg]? = some us[bg] := List.getElem?_eq_getElem hp0
        obtain ⟨p0, hp1, hq0⟩ := dpl_get hus hg
        generalize us[bg] = u0 at hg hq0
        refine ⟨_, rfl, .inl ⟨rfl, _, SqL.of hMT⟩, _, rfl, _, rfl, p, us, bg, u0, rfl, rfl, SqL.of (sT _ _ hp), at_nat hg, L, ws, u0, rfl, rfl, hMT, small1000 (by omega), _, rfl, _, _, rfl, rfl, ?_⟩
        have := fin u0 H6 (some (.str k0)) (some y) c same_id (by
          have ew : wpK k0 f0 ((ps.drop bg).take (partsK k0 f0).length) = p0 := by
            rw [e1]
            unfold wpK
            rw [if_pos c1, List.headD_eq_head?_getD, List.head?_take, List.head?_drop, hp1]
            rfl
          rw [ew]
          exact dpM sT hq0)
        rw [e1] at this
        exact this
      have hPn := c1
      refine ⟨_, rfl, rfl, _, rfl, ite2 (fun c2 => ?_) (fun c2 => ?_)⟩
      · have hE : k0 = "filters" := V.str.inj (of_decide_eq_true c2)
        subst hE
        obtain ⟨gs, rfl, g8, gall⟩ := tupAll_cases (fld_f hfo)
        cases hyf with
        | @tup ay zs _ hzq hza =>
        have zl := dpl_len hza
        have ep : partsK "filters" (.tuple gs) = gs := by
          unfold partsK
          rw [if_neg hPn, if_pos rfl]
          rfl
        rw [ep] at fin hcu hb1
        refine ⟨_, rfl, .inl ⟨rfl, _, SqL.of hMT⟩, _, rfl, _, rfl, _, rfl, _, rfl, _, rfl, ay, zs, rfl, .inr (same_seqT sT hzq), _, _, rfl, rfl, _, rfl, p, us, rfl, SqL.of (sT _ _ hp), fun S nS => ?_⟩
        rw [zl, cut_mid (by omega)]
        refine ⟨S, _, rfl, .inl ⟨SqL.of upd_same, fun T2 nT2 => ?_⟩⟩
        have s6 : Same H6 (upd (upd H6 S (.lst ((us.drop bg).take gs.length))) T2 (.tup ((us.drop bg).take gs.length))) := same_new (same_new same_id nS) nT2
        have q2 : SqT K (upd (upd H6 S (.lst ((us.drop bg).take gs.length))) T2 (.tup ((us.drop bg).take gs.length))) T2 ((us.drop bg).take gs.length) := SqT.of upd_same
        generalize upd (upd H6 S (.lst ((us.drop bg).take gs.length))) T2 (.tup ((us.drop bg).take gs.length)) = H7 at s6 q2 ⊢
        refine ⟨L, ws, .ref T2, rfl, rfl, s6 _ _ hMT, small1000 (by omega), _, rfl, _, rfl, ay, zs, rfl, .inr ?_, _, _, rfl, rfl, ?_⟩
        · exact seqT_put (same_seqT (sT.trans s6) hzq) (s6 _ _ hMT)
        · rw [zl]
          refine fin (.ref T2) H7 _ _ _ s6 ?_
          have ew : wpK "filters" (.tuple gs) ((ps.drop bg).take gs.length) = .tuple ((ps.drop bg).take gs.length) := by
            unfold wpK
            rw [if_neg hPn, if_pos rfl]
          rw [ew]
          exact .tup q2 (dpAllM (sT.trans s6) hcu)
      refine ⟨_, rfl, rfl, _, rfl, ite2 (fun c3 => ?_) (fun c3 => ?_)⟩
      · have hE : k0 = "entries" := V.str.inj (of_decide_eq_true c3)
        subst hE
        obtain ⟨gs, rfl, g8, gall⟩ := tupAll_cases (fld_e hfo)
        cases hyf with
        | @tup ay zs _ hzq hza =>
        have zl := dpl_len hza
        have ep : (partsK "entries" (.tuple gs)).length = gs.length := by
          unfold partsK
          rw [if_neg hPn, if_neg (by decide +kernel), if_pos rfl]
          simp [itemsD]
        rw [ep] at fin hcu hb1 hno
        have ew : wpK "entries" (.tuple gs) ((ps.drop bg).take gs.length) = .tuple (zipE gs ((ps.drop bg).take gs.length)) := by
          unfold wpK
          rw [if_neg hPn, if_neg (by decide +kernel), if_pos rfl]
          rfl
        rw [ew] at fin hno
        have hno' : noLs (zipE gs ((ps.drop bg).take gs.length)) = true := hno
        have lA : ((us.drop bg).take gs.length).length = gs.length := by
          rw [List.length_take, List.length_drop]
          omega
        have lAp := (dpl_len hcu).symm.trans lA
        generalize hA : (us.drop bg).take gs.length = us' at hcu lA
        generalize (ps.drop bg).take gs.length = ps' at hcu lAp fin hno'
        refine ⟨_, rfl, _, rfl, _, rfl, _, rfl, _, rfl, ay, zs, rfl, .inr (same_seqT sT hzq), _, _, rfl, rfl, _, rfl, p, us, rfl, SqL.of (sT _ _ hp), fun S nS => ?_⟩
        rw [zl, cut_mid (by omega), hA]
        have s6 : Same H6 (upd H6 S (.lst us')) := same_new same_id nS
        have hS : (upd H6 S (.lst us')) S = some (.lst us') := upd_same
        generalize upd H6 S (.lst us') = H7 at s6 hS ⊢
        refine ⟨_, rfl, .inl ⟨rfl, _, SqL.of (s6 _ _ hMT)⟩, _, rfl, _, rfl, ay, S, zs, us', rfl, same_seqT (sT.trans s6) hzq, SqL.of hS, fun D nD => ?_⟩
        refine lc_zipTL (K := K) (a := ay) (b := S) (xs := zs) (ys := us') (by omega) (fun j H' => ∃ (rs : List V), Same H7 H' ∧ H' D = some (.lst rs) ∧ DpAll K H' rs ((zipE gs ps').take j) ∧ rs.length = j) ⟨[], same_new same_id nD, upd_same, by simp; exact .nil, rfl⟩ ?_ ?_ ?_
        · rintro j H' ⟨rs, s8, _⟩
          exact ⟨same_seqT ((sT.trans s6).trans s8) hzq, SqL.of (s8 _ _ hS)⟩
        · rintro j z y0 T0 H' hz hy0 ⟨rs, s8, hD, hrs, lrs⟩ nT0
          obtain ⟨g0, hg0, hzg⟩ := dpl_get hza hz
          obtain ⟨p0, hp0, hyp⟩ := dpl_get hcu hy0
          have hze := zipE_get hg0 hp0
          obtain ⟨kx, g', rfl, _, _⟩ := isEnt_cases (List.all_eq_true.mp gall g0 (List.mem_of_getElem? hg0))
          cases hzg with
          | @tup az es _ heq hea =>
          cases hea with
          | @cons e0 es1 _ _ k0' hea1 =>
          have s9 : Same H' (upd H' T0 (.tup [.ref az, y0])) := same_new same_id nT0
          have hT0 : (upd H' T0 (.tup [.ref az, y0])) T0 = some (.tup [.ref az, y0]) := upd_same
          generalize upd H' T0 (.tup [.ref az, y0]) = H9 at s9 hT0 ⊢
          have s79 := s8.trans s9
          refine ⟨T0, _, rfl, SqT.of hT0, rfl, _, _, rfl, _, _, rfl, rfl, rfl, _, rfl, az, _, 0, _, rfl, rfl, same_seqT ((sT.trans s6).trans s79) heq, at_0 _ _, _, rfl, few (by show 2 ≤ 1000; decide), fun T2 nT2 => ?_⟩
          have s10 : Same H9 (upd H9 T2 (.tup [e0, y0])) := same_new same_id nT2
          have hT2 : (upd H9 T2 (.tup [e0, y0])) T2 = some (.tup [e0, y0]) := upd_same
          generalize upd H9 T2 (.tup [e0, y0]) = H10 at s10 hT2 ⊢
          have hD10 := s10 _ _ (s9 _ _ hD)
          have hj := (List.getElem?_eq_some_iff.mp hz).1
          have hfu : zipE gs ps' = (zipE gs ps').take j ++ (zipE gs ps').drop j := (List.take_append_drop _ _).symm
          have htk : (zipE gs ps').take (j + 1) = (zipE gs ps').take j ++ [.tuple [.str kx, p0]] := by
            rw [List.take_add_one, hze]
            rfl
          refine ⟨rs, hD10, small1000 (by omega), rs ++ [.ref T2], ?_, upd_same, ?_, by rw [List.length_append, List.length_singleton, lrs]⟩
          · intro b' o ho
            rw [upd_ne (ne_of_none ho nD)]
            exact s10 _ _ (s79 _ _ ho)
          · rw [htk]
            refine dpl_app (dps_put hD10 (dpAllM (s9.trans s10) hrs) (noLs_take _ hno')) (.cons (dp_put hD10 (.tup (SqT.of hT2) (.cons ?_ (.cons ?_ .nil))) (noLs_mem hno' (List.mem_of_getElem? hze))) .nil)
            · exact dpM (((sT.trans s6).trans s79).trans s10) k0'
            · exact dpM (((sT.trans s6).trans s79).trans s10) hyp
        · rintro H8 ⟨rs, s8, hD, hrs, lrs⟩
          have lz : (zipE gs ps').length = zs.length := by rw [zipE_len (by omega), zl]
          rw [List.take_of_length_le (by omega)] at hrs
          refine ⟨D, rs, rfl, .inl ⟨SqL.of hD, fun T2 nT2 => ?_⟩⟩
          have s9 : Same H8 (upd H8 T2 (.tup rs)) := same_new same_id nT2
          have hT2 : SqT K (upd H8 T2 (.tup rs)) T2 rs := SqT.of upd_same
          generalize upd H8 T2 (.tup rs) = H9 at s9 hT2 ⊢
          have s69 := (s6.trans s8).trans s9
          refine ⟨L, ws, .ref T2, rfl, rfl, s69 _ _ hMT, small1000 (by omega), _, rfl, _, rfl, ay, zs, rfl, .inr ?_, _, _, rfl, rfl, ?_⟩
          · exact seqT_put (same_seqT (sT.trans s69) hzq) (s69 _ _ hMT)
          · rw [zl]
            exact fin (.ref T2) H9 _ _ _ s69 (.tup hT2 (dpAllM s9 hrs))
      · have n1 : ¬ k0 = "entries" := fun z => c3 (by rw [z]; exact decide_eq_true rfl)
        have n2 : ¬ k0 = "filters" := fun z => c2 (by rw [z]; exact decide_eq_true rfl)
        have ep : partsK k0 f0 = [] := by
          unfold partsK
          rw [if_neg hPn, if_neg n2, if_neg n1]
        have e0 : (partsK k0 f0).length = 0 := by rw [ep]; rfl
        refine ⟨_, rfl, .inl ⟨rfl, _, SqL.of hMT⟩, _, rfl, L, ws, y, rfl, rfl, hMT, small1000 (by omega), ?_⟩
        have := fin y H6 (some (.str k0)) (some y) c same_id (by
          have ew : wpK k0 f0 ((ps.drop bg).take (partsK k0 f0).length) = f0 := by
            unfold wpK
            rw [if_neg hPn, if_neg n2, if_neg n1]
          rw [ew]
          exact dpM sT hyf)
        rw [e0] at this
        exact this
    · rintro σ H8 ⟨ws, a, b, c, rfl, s8, hL8, hB8, hws, hnl, hwl⟩
      rw [List.length_map, List.take_length, List.take_of_length_le (by omega)] at hws
      refine ⟨_, rfl, av, _, 0, _, rfl, rfl, same_seqT s8 hseq, at_0 _ _, _, rfl, L, ws, rfl, .inr (SqL.of hL8), few ?_, fun R nR => q _ _ (same_new s8 nR) ?_⟩
      · rw [List.length_map] at hwl
        simp only [List.append_nil, List.length_cons]
        omega
      · rw [wpT_node hk, List.append_nil]
        exact .tup (SqT.of upd_same) (.cons (.str _) (dpAllM (same_new same_id nR) hws))
end
end Toy


/-! list(zip(x, y)) of any two that are drawn from, of one length -/
namespace PySem
open Sem (wp)
section
variable {prog : Program} {w : World} {A : Around} {E : Value → Shared → Prop} {s : Shared}
theorem alive_rule {a : Addr} {o : Obj} {Q : Option Obj → Shared → Prop} (ho : s.heap.get? a = some o) (h : Q (some o) s) : wpAny (model prog w) A (loadIfAlive a) Q E s := fun Γ p _ => by
  show Sem.wp _ Γ (.loadIfAlive a .pure) _ _ p s
  rw [Sem.wp_loadIfAlive, ho]
  exact h
abbrev ZipAt (h : Heap) (z TI TO T : Addr) (b : Bool) : Prop := h.get? z = some { cls := .type "zip", dict := none, data := .fields #[rawInt T, .bool b, .bool false, .ref TI, .ref TO], slots := #[] }
/-- h' keeps all of h but at z, and is as large -/
def ButAt (z : Addr) (h h' : Heap) : Prop := (∀ c o, c ≠ z → h.get? c = some o → h'.get? c = some o) ∧ h'.objs.size = h.objs.size
theorem owned_lives {z TI TO T : Addr} {b : Bool} {oT : Obj} {Q : Bool → Shared → Prop} (hz : ZipAt s.heap z TI TO T b) (hT : s.heap.get? T = some oT)
    (h : ∀ h', ZipAt h' z TI TO T true → ButAt z s.heap h' → Q false { s with heap := h' }) : wpAny (model prog w) A (Builtin.SmallTypes.ownedTupleIsFree (.ref z)) Q E s := by
  unfold Builtin.SmallTypes.ownedTupleIsFree
  refine wpAny_bind (wpAny_field hz rfl (x := rawInt T) rfl ?_)
  show wpAny _ _ (loadIfAlive ((T : Int)).toNat >>= _) _ _ _
  rw [Int.toNat_natCast]
  refine wpAny_bind (alive_rule hT ?_)
  simp only [Option.isNone_some, Bool.false_eq_true, if_false]
  refine wpAny_bind ?_
  refine wpAny_field hz rfl (x := .bool b) rfl ?_
  cases b with
  | true => exact wpAny_pure (h s.heap hz ⟨fun _ _ _ e => e, rfl⟩)
  | false =>
    show wpAny _ _ (setField (.ref z) 1 (.bool true) >>= _) _ _ _
    refine wpAny_bind (wpAny_setField_rec hz (by simp) fun h' hz' hs => wpAny_pure (h h' hz' ⟨fun c o n e => hs.extBut c o n e, hs.1⟩))
end
section
variable {prog : Program} {w : World} {A : Around} {E : Value → Shared → Prop} {s : Shared} {z TI TO i1 i2 T : Addr} {fp1 fp2 : List Addr} {n i : Nat} {P1 P2 : Nat → Value → Prop} {St1 St2 : Nat → Heap → Prop} {b0 : Bool} {oT : Obj}
theorem zipD_more {Q : Value → Shared → Prop} (S : ZipSep2 z TI TO i1 i2 fp1 fp2) (D1 : Draws prog w A i1 fp1 n P1 St1) (D2 : Draws prog w A i2 fp2 n P2 St2) (hz : ZipAt s.heap z TI TO T b0) (hTz : s.heap.get? T = some oT)
    (hTI : IsPair s.heap TI (.ref i1) (.ref i2)) (st1 : St1 i s.heap) (st2 : St2 i s.heap) (hi : i < n)
    (hQ : ∀ x y h' tk, P1 i x → P2 i y → ZipAt h' z TI TO T true → St1 (i + 1) h' → St2 (i + 1) h' → IsPair h' s.heap.objs.size x y → h'.objs.size = s.heap.objs.size + 1 →
      (∀ c o, c ≠ z → c ≠ i1 → c ≠ i2 → s.heap.get? c = some o → h'.get? c = some o) → Q (.ref s.heap.objs.size) { s with heap := h', toks := tk }) :
    wpAny (model prog w) A (Builtin.«zip.__next__» ⟨[.ref z], []⟩) (fun fin s' => ∃ v, fin = .done (.ret v) ∧ Q v s') E s := by
  have i1z : i1 ≠ z := fun e => S.zf1 (e ▸ S.mem1)
  have i2z : i2 ≠ z := fun e => S.zf2 (e ▸ S.mem2)
  show wpAny _ _ (field (.ref z) 2 >>= _) _ _ _
  refine wpAny_bind (wpAny_field hz rfl (x := .bool false) rfl ?_)
  show wpAny _ _ (field (.ref z) 3 >>= _) _ _ _
  refine wpAny_bind (wpAny_field hz rfl (x := .ref TI) rfl ?_)
  refine wpAny_bind (wpAny_seqItems hTI rfl ?_)
  show wpAny _ _ (Builtin.SmallTypes.ownedTupleIsFree (.ref z) >>= _) _ _ _
  refine wpAny_bind (owned_lives hz hTz fun g1 gz1 b1 => ?_)
  simp only [Bool.false_eq_true, if_false]
  refine wpAny_bind ?_
  rw [← Array.forIn_toList]
  simp only [List.forIn_cons, List.forIn_nil]
  have up1 : ∀ c o, c ≠ z → s.heap.get? c = some o → g1.get? c = some o := b1.1
  refine wpAny_bind (wpAny_bind (wpAny_holding ?_))
  show wpAny _ _ (Builtin.SmallTypes.nextOf (.ref i1) >>= _) _ _ _
  refine wpAny_bind (D1.item i _ _ _ hi (D1.frame _ _ _ st1 fun b hb o e => up1 b o (fun q => S.zf1 (q ▸ hb)) e) fun x g2 tk2 px j1 b2 => wpAny_pure ?_)
  replace b2 : Heap.SameBut i1 g1 g2 := b2
  refine wpAny_pure ?_
  refine wpAny_bind (wpAny_bind (wpAny_holding ?_))
  show wpAny _ _ (Builtin.SmallTypes.nextOf (.ref i2) >>= _) _ _ ⟨g2, s.gens, s.drawn, tk2, s.os⟩
  refine wpAny_bind (D2.item i ⟨g2, s.gens, s.drawn, tk2, s.os⟩ _ _ hi (D2.frame _ _ _ (D2.frame _ _ _ st2 fun b hb o e => up1 b o (fun q => S.zf2 (q ▸ hb)) e) fun b hb o e => b2.extBut _ _ (fun q => S.sep1_2 (q ▸ hb)) e) fun y g3 tk3 py j2 b3 => wpAny_pure ?_)
  replace b3 : Heap.SameBut i2 g2 g3 := b3
  refine wpAny_pure (wpAny_pure ?_)
  refine wpAny_bind (wpAny_newTuple ?_ (by show 2 ≤ sizeLine; decide))
  have size : g3.objs.size = s.heap.objs.size := by rw [b3.1, b2.1]; exact b1.2
  have up3 : ∀ c o, c ≠ z → c ≠ i1 → c ≠ i2 → s.heap.get? c = some o → g3.get? c = some o := fun c o c1 c2 c3 e => b3.extBut _ _ c3 (b2.extBut _ _ c2 (up1 _ _ c1 e))
  have gz3 : ZipAt g3 z TI TO T true := b3.extBut _ _ i2z.symm (b2.extBut _ _ i1z.symm gz1)
  have j13 : St1 (i + 1) g3 := D1.frame _ _ _ j1 fun b hb o e => b3.extBut _ _ (fun q => S.sep2_1 (q ▸ hb)) e
  refine wpAny_pure ⟨_, rfl, ?_⟩
  show Q (.ref g3.objs.size) { s with heap := g3.push { cls := .type "tuple", data := .seq #[x, y] }, toks := tk3 }
  have push : ∀ c o, g3.get? c = some o → (g3.push { cls := .type "tuple", data := .seq #[x, y] }).get? c = some o := fun c o e => Heap.get?_push_of_some _ e
  have new : IsPair (g3.push { cls := .type "tuple", data := .seq #[x, y] }) g3.objs.size x y := Heap.get?_push_size _ rfl
  have big : (g3.push { cls := .type "tuple", data := .seq #[x, y] }).objs.size = s.heap.objs.size + 1 := by rw [Heap.size_push, size]
  rw [size] at new ⊢
  exact hQ x y _ tk3 px py (push _ _ gz3) (D1.frame _ _ _ j13 fun b _ o e => push _ o e) (D2.frame _ _ _ j2 fun b _ o e => push _ o e) new big fun c o c1 c2 c3 e => push _ _ (up3 c o c1 c2 c3 e)
theorem zipD_more_end {Q : Fin → Shared → Prop} (S : ZipSep2 z TI TO i1 i2 fp1 fp2) (D1 : Draws prog w A i1 fp1 n P1 St1) (hz : ZipAt s.heap z TI TO T b0) (hTz : s.heap.get? T = some oT)
    (hTI : IsPair s.heap TI (.ref i1) (.ref i2)) (st1 : St1 n s.heap)
    (hE : ∀ h' e, (∀ c o, c ≠ z → c ≠ i1 → c ≠ i2 → s.heap.get? c = some o → h'.get? c = some o) → (∃ o, h'.get? e = some o ∧ o.cls = .type "StopIteration") → E (.ref e) { s with heap := h' }) :
    wpAny (model prog w) A (Builtin.«zip.__next__» ⟨[.ref z], []⟩) Q E s := by
  show wpAny _ _ (field (.ref z) 2 >>= _) _ _ _
  refine wpAny_bind (wpAny_field hz rfl (x := .bool false) rfl ?_)
  show wpAny _ _ (field (.ref z) 3 >>= _) _ _ _
  refine wpAny_bind (wpAny_field hz rfl (x := .ref TI) rfl ?_)
  refine wpAny_bind (wpAny_seqItems hTI rfl ?_)
  show wpAny _ _ (Builtin.SmallTypes.ownedTupleIsFree (.ref z) >>= _) _ _ _
  refine wpAny_bind (owned_lives hz hTz fun g1 gz1 b1 => ?_)
  simp only [Bool.false_eq_true, if_false]
  refine wpAny_bind ?_
  rw [← Array.forIn_toList]
  simp only [List.forIn_cons, List.forIn_nil]
  have up1 : ∀ c o, c ≠ z → s.heap.get? c = some o → g1.get? c = some o := b1.1
  refine wpAny_bind (wpAny_bind (wpAny_holding ?_))
  show wpAny _ _ (Builtin.SmallTypes.nextOf (.ref i1) >>= _) _ _ _
  exact wpAny_bind (D1.done _ _ _ (D1.frame _ _ _ st1 fun b hb o e => up1 b o (fun q => S.zf1 (q ▸ hb)) e) fun g2 e b2 he => hE g2 e (fun c o c1 c2 c3 q => b2 _ _ c2 (up1 _ _ c1 q)) he)
theorem pyNextD_more {Q : Option Value → Shared → Prop} (S : ZipSep2 z TI TO i1 i2 fp1 fp2) (D1 : Draws prog w A.in1 i1 fp1 n P1 St1) (D2 : Draws prog w A.in1 i2 fp2 n P2 St2) (hz : ZipAt s.heap z TI TO T b0) (hTz : s.heap.get? T = some oT)
    (hTI : IsPair s.heap TI (.ref i1) (.ref i2)) (st1 : St1 i s.heap) (st2 : St2 i s.heap) (hi : i < n)
    (hQ : ∀ x y h' tk, P1 i x → P2 i y → ZipAt h' z TI TO T true → St1 (i + 1) h' → St2 (i + 1) h' → IsPair h' s.heap.objs.size x y → h'.objs.size = s.heap.objs.size + 1 →
      (∀ c o, c ≠ z → c ≠ i1 → c ≠ i2 → s.heap.get? c = some o → h'.get? c = some o) → Q (some (.ref s.heap.objs.size)) { s with heap := h', toks := tk }) :
    wpAny (model prog w) A (pyNext (.ref z)) Q E s := by
  have ty : s.TypeIs (.ref z) "zip" := ⟨_, hz, rfl⟩
  unfold pyNext
  refine wpAny_bind (wpAny_attempt (wpAny_callSpecial?_slot (name := Str.ofString "__next__") ty F.slot_zip_next (wpAny_call_entry F.slot_zip_next ty F.entry_zip_next ?_ (F.args_zip_next_1 _))))
  exact zipD_more S D1 D2 hz hTz hTI st1 st2 hi fun x y h' tk p1 p2 a1 a2 a3 a4 a5 a6 => wpAny_pure (hQ x y h' tk p1 p2 a1 a2 a3 a4 a5 a6)
theorem pyNextD_more_end {Q : Option Value → Shared → Prop} (S : ZipSep2 z TI TO i1 i2 fp1 fp2) (D1 : Draws prog w A.in1 i1 fp1 n P1 St1) (hz : ZipAt s.heap z TI TO T b0) (hTz : s.heap.get? T = some oT)
    (hTI : IsPair s.heap TI (.ref i1) (.ref i2)) (st1 : St1 n s.heap)
    (hQ : ∀ h', (∀ c o, c ≠ z → c ≠ i1 → c ≠ i2 → s.heap.get? c = some o → h'.get? c = some o) → Q none { s with heap := h' }) : wpAny (model prog w) A (pyNext (.ref z)) Q E s := by
  have ty : s.TypeIs (.ref z) "zip" := ⟨_, hz, rfl⟩
  unfold pyNext
  refine wpAny_bind (wpAny_attempt (wpAny_callSpecial?_slot (name := Str.ofString "__next__") ty F.slot_zip_next (wpAny_call_entry F.slot_zip_next ty F.entry_zip_next ?_ (F.args_zip_next_1 _))))
  refine zipD_more_end S D1 hz hTz hTI st1 fun h' e kp he => ?_
  obtain ⟨o, ho, hc⟩ := he
  exact wpAny_bind (wpAny_isInstance (T := "StopIteration") (b := true) ⟨o, ho, hc⟩ isSubtype_stop (wpAny_pure (hQ _ kp)))
end
/-- the tuples that came so far: all new behind n0, one behind the other -/
def Got (h : Heap) (n0 : Nat) (bad : List Addr) (P1 P2 : Nat → Value → Prop) (acc : Array Value) (i : Nat) : Prop := acc.size = i ∧ (∀ (j : Nat) (v : Value), acc[j]? = some v → ∃ (T : Addr) (x y : Value), v = .ref T ∧ n0 ≤ T ∧ T ∉ bad ∧ P1 j x ∧ P2 j y ∧ IsPair h T x y) ∧
  ∀ (j k : Nat) (T U : Addr), j < k → acc[j]? = some (.ref T) → acc[k]? = some (.ref U) → T < U
theorem Got.keep {h h' : Heap} {n0 : Nat} {bad : List Addr} {P1 P2 : Nat → Value → Prop} {acc : Array Value} {i : Nat} (g : Got h n0 bad P1 P2 acc i) (k : ∀ c o, c ∉ bad → h.get? c = some o → h'.get? c = some o) : Got h' n0 bad P1 P2 acc i := ⟨g.1, fun j v e => by
  obtain ⟨T, x, y, h1, h0, h2, h3, h4, h5⟩ := g.2.1 j v e
  exact ⟨T, x, y, h1, h0, h2, h3, h4, k _ _ h2 h5⟩, g.2.2⟩
theorem Got.push {h : Heap} {n0 : Nat} {bad : List Addr} {P1 P2 : Nat → Value → Prop} {acc : Array Value} {i : Nat} {T : Addr} {x y : Value} (g : Got h n0 bad P1 P2 acc i) (n : T ∉ bad) (h0 : n0 ≤ T) (hx : P1 i x) (hy : P2 i y) (hT : IsPair h T x y) (hl : ∀ (j : Nat) (U : Addr), acc[j]? = some (.ref U) → U < T) : Got h n0 bad P1 P2 (acc.push (.ref T)) (i + 1) := by
  refine ⟨by rw [Array.size_push, g.1], fun j v e => ?_, fun j k A B hjk e1 e2 => ?_⟩
  · rw [Array.getElem?_push] at e
    split at e
    · rename_i q
      rw [g.1] at q
      cases e
      subst q
      exact ⟨T, x, y, rfl, h0, n, hx, hy, hT⟩
    · exact g.2.1 j v e
  · have hk : k < (acc.push (.ref T)).size := (Array.getElem?_eq_some_iff.mp e2).1
    rw [Array.size_push] at hk
    have e1' : acc[j]? = some (.ref A) := by
      rw [Array.getElem?_push, if_neg (by omega)] at e1
      exact e1
    rw [Array.getElem?_push] at e2
    split at e2
    · cases e2
      exact hl j A e1'
    · exact g.2.2 j k A B hjk e1' e2
theorem Got.low {h : Heap} {n0 : Nat} {bad : List Addr} {P1 P2 : Nat → Value → Prop} {acc : Array Value} {i : Nat} (g : Got h n0 bad P1 P2 acc i) (j : Nat) (U : Addr) (e : acc[j]? = some (.ref U)) : U < h.objs.size := by
  obtain ⟨T, x, y, h1, _, _, _, _, h5⟩ := g.2.1 j _ e
  cases h1
  exact Heap.lt_size h5
/-- the zip as it stands ahead of a pull -/
def ZipGo (h : Heap) (z TI TO i1 i2 : Addr) : Prop := IsZip h z TI TO .none ∨ ∃ T b oT, ZipAt h z TI TO T b ∧ h.get? T = some oT ∧ T ≠ z ∧ T ≠ TO ∧ T ≠ i1 ∧ T ≠ i2
structure ZSt (h : Heap) (z TI TO i1 i2 : Addr) (St1 St2 : Nat → Heap → Prop) (i : Nat) : Prop where
  go : ZipGo h z TI TO i1 i2
  ti : IsPair h TI (.ref i1) (.ref i2)
  to : ∃ a b, IsPair h TO a b
  j1 : St1 i h
  j2 : St2 i h
section
variable {prog : Program} {w : World} {A : Around} {E : Value → Shared → Prop} {s : Shared} {z TI TO i1 i2 : Addr} {fp1 fp2 : List Addr} {n i : Nat} {P1 P2 : Nat → Value → Prop} {St1 St2 : Nat → Heap → Prop}
theorem zD_lts {B : Around} (D1 : Draws prog w B i1 fp1 n P1 St1) (D2 : Draws prog w B i2 fp2 n P2 St2) (st : ZSt s.heap z TI TO i1 i2 St1 St2 i) : z < s.heap.objs.size ∧ TO < s.heap.objs.size ∧ i1 < s.heap.objs.size ∧ i2 < s.heap.objs.size := by
  obtain ⟨go, _, ⟨a, b, to⟩, j1, j2⟩ := st
  obtain ⟨o1, e1⟩ := D1.live _ _ j1
  obtain ⟨o2, e2⟩ := D2.live _ _ j2
  refine ⟨?_, Heap.lt_size to, Heap.lt_size e1, Heap.lt_size e2⟩
  rcases go with q | ⟨T, b, oT, q, _⟩
  · exact Heap.lt_size q
  · exact Heap.lt_size q
theorem zD_pull {Q : Option Value → Shared → Prop} (S : ZipSep2 z TI TO i1 i2 fp1 fp2) (D1 : Draws prog w A.in1 i1 fp1 n P1 St1) (D2 : Draws prog w A.in1 i2 fp2 n P2 St2) (st : ZSt s.heap z TI TO i1 i2 St1 St2 i) (hi : i < n)
    (hQ : ∀ x y h' tk, P1 i x → P2 i y → ZSt h' z TI TO i1 i2 St1 St2 (i + 1) → IsPair h' s.heap.objs.size x y → h'.objs.size = s.heap.objs.size + 1 → (∀ c o, c ≠ z → c ≠ TO → c ≠ i1 → c ≠ i2 → s.heap.get? c = some o → h'.get? c = some o) → Q (some (.ref s.heap.objs.size)) { s with heap := h', toks := tk }) :
    wpAny (model prog w) A (pyNext (.ref z)) Q E s := by
  obtain ⟨lz, lTO, li1, li2⟩ := zD_lts D1 D2 st
  obtain ⟨go, ti, ⟨a, b, to⟩, j1, j2⟩ := st
  have TOi1 : TO ≠ i1 := fun e => S.Tf1 (e ▸ S.mem1)
  have TOi2 : TO ≠ i2 := fun e => S.Tf2 (e ▸ S.mem2)
  rcases go with q | ⟨T, b0, oT, q, hT, n1, n2, n3, n4⟩
  · refine wpAny_pyNext_zipD2_item S D1 D2 q ti to j1 j2 hi hi fun x y h' tk p1 p2 a1 a2 a3 a4 a5 a6 kp => ?_
    exact hQ x y h' tk p1 p2 ⟨.inr ⟨s.heap.objs.size, false, _, a1, a5, Nat.ne_of_gt lz, Nat.ne_of_gt lTO, Nat.ne_of_gt li1, Nat.ne_of_gt li2⟩, kp _ _ S.TIz S.TITO S.TIi1 S.TIi2 ti, ⟨_, _, a2⟩, a3, a4⟩ a5 a6 kp
  · refine pyNextD_more S D1 D2 q hT ti j1 j2 hi fun x y h' tk p1 p2 a1 a2 a3 a4 a5 kp => ?_
    exact hQ x y h' tk p1 p2 ⟨.inr ⟨T, true, oT, a1, kp _ _ n1 n3 n4 hT, n1, n2, n3, n4⟩, kp _ _ S.TIz S.TIi1 S.TIi2 ti, ⟨a, b, kp _ _ S.TOz TOi1 TOi2 to⟩, a2, a3⟩ a4 a5 fun c o c1 _ c3 c4 e => kp c o c1 c3 c4 e
theorem zD_stop {Q : Option Value → Shared → Prop} (S : ZipSep2 z TI TO i1 i2 fp1 fp2) (D1 : Draws prog w A.in1 i1 fp1 n P1 St1) (D2 : Draws prog w A.in1 i2 fp2 n P2 St2) (st : ZSt s.heap z TI TO i1 i2 St1 St2 n)
    (hQ : ∀ h' tk, (∀ c o, c ≠ z → c ≠ TO → c ≠ i1 → c ≠ i2 → s.heap.get? c = some o → h'.get? c = some o) → Q none { s with heap := h', toks := tk }) : wpAny (model prog w) A (pyNext (.ref z)) Q E s := by
  obtain ⟨go, ti, ⟨a, b, to⟩, j1, j2⟩ := st
  rcases go with q | ⟨T, b0, oT, q, hT, n1, n2, n3, n4⟩
  · exact wpAny_pyNext_zipD2_end S D1 D2 q ti to j1 j2 (Nat.le_refl _) (Nat.le_refl _) (.inl rfl) hQ
  · exact pyNextD_more_end S D1 q hT ti j1 fun h' kp => hQ h' s.toks fun c o c1 _ c3 c4 e => kp c o c1 c3 c4 e
theorem ZSt.keep {B : Around} {h h' : Heap} {L : Addr} (S : ZipSep2 z TI TO i1 i2 fp1 fp2) (D1 : Draws prog w B i1 fp1 n P1 St1) (D2 : Draws prog w B i2 fp2 n P2 St2) (st : ZSt h z TI TO i1 i2 St1 St2 i) (nS : L ∉ [z, TI, TO] ∧ L ∉ fp1 ∧ L ∉ fp2) (k : ∀ c o, c ≠ L → h.get? c = some o → h'.get? c = some o) (hS : ∃ o, h'.get? L = some o) : ZSt h' z TI TO i1 i2 St1 St2 i := by
  obtain ⟨m0, f1, f2⟩ := nS
  simp only [List.mem_cons, List.not_mem_nil, or_false, not_or] at m0
  obtain ⟨m1, m2, m3⟩ := m0
  obtain ⟨go, ti, ⟨a, b, to⟩, j1, j2⟩ := st
  refine ⟨?_, k _ _ (Ne.symm m2) ti, ⟨a, b, k _ _ (Ne.symm m3) to⟩, D1.frame _ _ _ j1 fun b hb o e => k b o (fun q => f1 (q ▸ hb)) e, D2.frame _ _ _ j2 fun b hb o e => k b o (fun q => f2 (q ▸ hb)) e⟩
  rcases go with q | ⟨T, b0, oT, q, hT, n⟩
  · exact .inl (k _ _ (Ne.symm m1) q)
  · by_cases e : T = L
    · obtain ⟨o, ho⟩ := hS
      exact .inr ⟨T, b0, o, k _ _ (Ne.symm m1) q, e ▸ ho, n⟩
    · exact .inr ⟨T, b0, oT, k _ _ (Ne.symm m1) q, k _ _ e hT, n⟩
theorem zD_loop {R : Result → Shared → Prop} (S : ZipSep2 z TI TO i1 i2 fp1 fp2) (D1 : Draws prog w A.in1.in1 i1 fp1 n P1 St1) (D2 : Draws prog w A.in1.in1 i2 fp2 n P2 St2) (hn : n ≤ sizeLine) (L : Addr) (nS : L ∉ [z, TI, TO] ∧ L ∉ fp1 ∧ L ∉ fp2) (res : Value) (n0 : Nat) :
    ∀ (k i : Nat) (s : Shared) (acc : Array Value) (c : Nat), n - i = k → i ≤ n → ZSt s.heap z TI TO i1 i2 St1 St2 i → s.heap.get? L = some { cls := .type "list", dict := none, data := .seq acc c, slots := #[] } → n0 ≤ s.heap.objs.size → Got s.heap n0 [z, TO, i1, i2, L] P1 P2 acc i →
    (∀ h' tk acc' c', (∀ c o, c ∉ [z, TO, i1, i2, L] → s.heap.get? c = some o → h'.get? c = some o) → h'.get? L = some { cls := .type "list", dict := none, data := .seq acc' c', slots := #[] } → Got h' n0 [z, TO, i1, i2, L] P1 P2 acc' n → R (.ok (.ret res)) { s with heap := h', toks := tk }) →
    codeAny (model prog w) A (.builtin "list.extend.loop" ⟨[.ref L, .ref z, res], []⟩) R s := by
  have nS' := nS
  obtain ⟨m0, f1, f2⟩ := nS'
  simp only [List.mem_cons, List.not_mem_nil, or_false, not_or] at m0
  obtain ⟨m1, m2, m3⟩ := m0
  have m4 : L ≠ i1 := fun e => f1 (e ▸ S.mem1)
  have m5 : L ≠ i2 := fun e => f2 (e ▸ S.mem2)
  have four : ∀ c : Addr, c ∉ [z, TO, i1, i2, L] → c ≠ z ∧ c ≠ TO ∧ c ≠ i1 ∧ c ≠ i2 ∧ c ≠ L := fun c hc => by
    simpa only [List.mem_cons, List.not_mem_nil, or_false, not_or] using hc
  intro k
  induction k with
  | zero =>
    intro i s acc c hk hi st hS hn0 got hR
    obtain rfl : i = n := by omega
    refine codeAny_builtin F.entry_extend_loop ?_
    rw [Around.under_plainId F.plain_extend_loop _]
    show wpAny _ A.in1 (pyNext (.ref z) >>= _) _ _ s
    refine wpAny_bind (zD_stop S D1 D2 st fun h' tk kp => ?_)
    have kp' : ∀ c o, c ∉ [z, TO, i1, i2, L] → s.heap.get? c = some o → h'.get? c = some o := fun c o hc e => by
      obtain ⟨c1, c2, c3, c4, _⟩ := four c hc
      exact kp c o c1 c2 c3 c4 e
    exact wpAny_pure (hR h' tk acc c kp' (kp _ _ m1 m3 m4 m5 hS) (got.keep kp'))
  | succ k ih =>
    intro i s acc c hk hi st hS hn0 got hR
    have ix : i < n := by omega
    refine codeAny_builtin F.entry_extend_loop ?_
    rw [Around.under_plainId F.plain_extend_loop _]
    show wpAny _ A.in1 (pyNext (.ref z) >>= _) _ _ s
    obtain ⟨lz, lTO, li1, li2⟩ := zD_lts D1 D2 st
    have lS := Heap.lt_size hS
    refine wpAny_bind (zD_pull S D1 D2 st ix fun x y h' tk px py st' hT size kp => ?_)
    have kp' : ∀ c o, c ∉ [z, TO, i1, i2, L] → s.heap.get? c = some o → h'.get? c = some o := fun c o hc e => by
      obtain ⟨c1, c2, c3, c4, _⟩ := four c hc
      exact kp c o c1 c2 c3 c4 e
    have hS' := kp _ _ m1 m3 m4 m5 hS
    have nT : s.heap.objs.size ∉ [z, TO, i1, i2, L] := by
      simp only [List.mem_cons, List.not_mem_nil, or_false, not_or]
      exact ⟨Nat.ne_of_gt lz, Nat.ne_of_gt lTO, Nat.ne_of_gt li1, Nat.ne_of_gt li2, Nat.ne_of_gt lS⟩
    have got' := (got.keep kp').push nT hn0 px py hT got.low
    show wpAny _ A.in1 (updateSeq L (·.push (.ref s.heap.objs.size)) >>= _) _ _ _
    refine wpAny_bind ?_
    refine wpAny_updateSeq hS' rfl (wpAny_pure ⟨plainId_quiet F.plain_extend_loop _, ?_⟩) (by rw [got.1]; omega) (by show (acc.push (.ref s.heap.objs.size)).size ≤ sizeLine + 1; rw [Array.size_push, got.1]; omega)
    have up : ∀ b o, b ≠ L → h'.get? b = some o → (h'.update L (Obj.mapSeq (·.push (.ref s.heap.objs.size)))).get? b = some o := fun b o hb e => (Heap.get?_update_other _ _ (fun h : L = b => hb h.symm)).trans e
    refine ih (i + 1) { s with heap := h'.update L (Obj.mapSeq (·.push (.ref s.heap.objs.size))), toks := tk } (acc.push (.ref s.heap.objs.size)) _ (by omega) ix (st'.keep S D1 D2 nS up ⟨_, Heap.get?_update_self _ hS' rfl⟩) (Heap.get?_update_self _ hS' rfl) (Nat.le_trans hn0 (Nat.le_of_lt (Heap.lt_size (up _ _ (Nat.ne_of_gt lS) hT)))) (got'.keep fun b o hb e => up b o (four b hb).2.2.2.2 e) fun h'' tk'' acc'' c'' kp'' hS'' got'' => ?_
    exact hR h'' tk'' acc'' c'' (fun b o hb e => kp'' b o hb (up b o (four b hb).2.2.2.2 (kp' b o hb e))) hS'' got''
theorem zip_no_len : typeLookup (.type "zip") "__len__" = pure none := by rw [typeLookup_type, builtinLookup_eq_fast]; kernel_rfl
theorem zip_no_hint : typeLookup (.type "zip") "__length_hint__" = pure none := by rw [typeLookup_type, builtinLookup_eq_fast]; kernel_rfl
theorem extendD_zip {R : Result → Shared → Prop} (S : ZipSep2 z TI TO i1 i2 fp1 fp2) (D1 : Draws prog w A.in1.in1 i1 fp1 n P1 St1) (D2 : Draws prog w A.in1.in1 i2 fp2 n P2 St2) (hn : n ≤ sizeLine) (hz0 : IsZip s.heap z TI TO .none) (st : ZSt s.heap z TI TO i1 i2 St1 St2 0) (L : Addr) (nS : L ∉ [z, TI, TO] ∧ L ∉ fp1 ∧ L ∉ fp2) (c0 : Nat)
    (hS : s.heap.get? L = some { cls := .type "list", data := .seq #[] c0 }) (n0 : Nat) (hn0 : n0 ≤ s.heap.objs.size) (res : Value)
    (hR : ∀ h' tk acc c', (∀ c o, c ∉ [z, TO, i1, i2, L] → s.heap.get? c = some o → h'.get? c = some o) → h'.get? L = some { cls := .type "list", dict := none, data := .seq acc c', slots := #[] } → Got h' n0 [z, TO, i1, i2, L] P1 P2 acc n → R (.ok (.ret res)) { s with heap := h', toks := tk }) :
    wpAny (model prog w) A.in1 (Builtin.List.listExtendWith (.ref L) (.ref z) res)
      (fun fin s' => match fin with | .done f => R (.ok f) s' | .again c' => c'.quiet = true ∧ codeAny (model prog w) A c' R s') (fun e s' => R (.error e) s') s := by
  have nz : L ≠ z := fun e => nS.1 (by rw [e]; exact List.mem_cons_self)
  have ty : s.TypeIs (.ref z) "zip" := ⟨_, hz0, rfl⟩
  unfold Builtin.List.listExtendWith
  refine wpAny_bind (wpAny_typeOf ty ?_)
  have n1 : Builtin.List.listSameRef (.ref L) (.ref z) = false := by simp [Builtin.List.listSameRef, nz]
  have n2 : (Value.type "zip" == Value.type "list") = false := by decide
  have n3 : (Value.type "zip" == Value.type "tuple") = false := by decide
  simp only [n1, n2, n3, Bool.or_false, Bool.false_eq_true, if_false]
  refine wpAny_bind (wpAny_pyIter_zip hz0 ?_)
  refine wpAny_bind (wpAny_holding ?_)
  unfold Builtin.List.listLengthHint
  refine wpAny_bind (wpAny_specialOf ty zip_no_len ?_)
  show wpAny _ A.in1 (specialOf (Value.ref z) (Str.ofString "__length_hint__") >>= _) _ _ _
  refine wpAny_bind (wpAny_specialOf ty zip_no_hint ?_)
  refine wpAny_pure ?_
  show wpAny _ A.in1 (rule "list.extend.makes-room" >>= fun _ => Builtin.List.listTouch (.ref L) >>= fun _ =>
    again (.builtin "list.extend.loop" ⟨[.ref L, .ref z, res], []⟩)) _ _ _
  refine wpAny_bind (wpAny_rule ?_)
  refine wpAny_bind ?_
  show wpAny _ A.in1 (updateSeq L (·.push .none) >>= fun _ => updateSeq L (·.pop)) _ _ _
  refine wpAny_bind (wpAny_updateSeq hS rfl ?_)
  have at2 := Heap.get?_update_self (Obj.mapSeq (·.push Value.none)) hS rfl
  refine wpAny_updateSeq at2 rfl ?_
  have at3 := Heap.get?_update_self (Obj.mapSeq (·.pop)) at2 rfl
  have oth : ∀ b o, b ≠ L → s.heap.get? b = some o → ((s.heap.update L (Obj.mapSeq (·.push Value.none))).update L (Obj.mapSeq (·.pop))).get? b = some o :=
    fun b o hb e => (Heap.get?_update_other _ _ (Ne.symm hb)).trans ((Heap.get?_update_other _ _ (Ne.symm hb)).trans e)
  have big : s.heap.objs.size ≤ ((s.heap.update L (Obj.mapSeq (·.push Value.none))).update L (Obj.mapSeq (·.pop))).objs.size := by
    simp [Heap.size_update]
  refine wpAny_pure ⟨plainId_quiet F.plain_extend_loop _, zD_loop (i := 0) (s := { s with heap := ((s.heap.update L (Obj.mapSeq (·.push Value.none))).update L (Obj.mapSeq (·.pop))) })
    S D1 D2 hn L nS res n0 n #[] _ rfl (Nat.zero_le _) (st.keep S D1 D2 nS oth ⟨_, at3⟩) at3 (Nat.le_trans hn0 big) ⟨rfl, (fun j v e => by simp at e), fun j k T U _ e => by simp at e⟩ fun h' tk acc' c' kp hS got => ?_⟩
  exact hR h' tk acc' c' (fun c o hc e => kp c o hc (oth c o (fun q => hc (by simp [q])) e)) hS got
theorem listD_init_zip {R : Result → Shared → Prop} (S : ZipSep2 z TI TO i1 i2 fp1 fp2) (D1 : Draws prog w A.in1.in1 i1 fp1 n P1 St1) (D2 : Draws prog w A.in1.in1 i2 fp2 n P2 St2) (hn : n ≤ sizeLine) (hz0 : IsZip s.heap z TI TO .none) (st : ZSt s.heap z TI TO i1 i2 St1 St2 0) (L : Addr) (nS : L ∉ [z, TI, TO] ∧ L ∉ fp1 ∧ L ∉ fp2)
    (hS : s.heap.get? L = some { cls := .type "list", data := .seq #[] }) (n0 : Nat) (hn0 : n0 ≤ s.heap.objs.size)
    (hR : ∀ h' tk acc c', (∀ c o, c ∉ [z, TO, i1, i2, L] → s.heap.get? c = some o → h'.get? c = some o) → h'.get? L = some { cls := .type "list", dict := none, data := .seq acc c', slots := #[] } → Got h' n0 [z, TO, i1, i2, L] P1 P2 acc n → R (.ok (.ret .none)) { s with heap := h', toks := tk }) :
    wpAny (model prog w) A.in1 (Builtin.«list.__init__» ⟨[.ref L, .ref z], []⟩)
      (fun fin s' => match fin with | .done f => R (.ok f) s' | .again c' => c'.quiet = true ∧ codeAny (model prog w) A c' R s') (fun e s' => R (.error e) s') s := by
  have nz : L ≠ z := fun e => nS.1 (by rw [e]; exact List.mem_cons_self)
  show wpAny _ _ (do let old ← Builtin.List.listItems (.ref L); Builtin.List.listUpdate (.ref L) (fun _ => #[]); letGo old.toList.reverse; Builtin.List.listExtendWith (.ref L) (.ref z) .none) _ _ s
  refine wpAny_bind ?_
  unfold Builtin.List.listItems
  refine wpAny_bind (wpAny_seqItems hS rfl (wpAny_pure ?_))
  show wpAny _ _ (updateSeq L (fun _ => #[]) >>= fun _ => letGo (#[] : Array Value).toList.reverse >>= fun _ => Builtin.List.listExtendWith (.ref L) (.ref z) .none) _ _ s
  refine wpAny_bind (wpAny_updateSeq hS rfl ?_)
  have hS₂ := Heap.get?_update_self (Obj.mapSeq (fun _ => (#[] : Array Value))) hS rfl
  have oth : ∀ b o, b ≠ L → s.heap.get? b = some o → (s.heap.update L (Obj.mapSeq (fun _ => (#[] : Array Value)))).get? b = some o :=
    fun b o hb e => (Heap.get?_update_other _ _ (Ne.symm hb)).trans e
  refine wpAny_bind (wpAny_letGo ?_)
  have big : s.heap.objs.size ≤ (s.heap.update L (Obj.mapSeq (fun _ => (#[] : Array Value)))).objs.size := by
    simp [Heap.size_update]
  refine extendD_zip (s := { s with heap := s.heap.update L (Obj.mapSeq (fun _ => (#[] : Array Value))) }) S D1 D2 hn (oth z _ nz.symm hz0) (st.keep S D1 D2 nS oth ⟨_, hS₂⟩) L nS _ hS₂ n0 (Nat.le_trans hn0 big) .none fun h' tk acc c' kp hS' got => ?_
  exact hR h' tk acc c' (fun c o hc e => kp c o hc (oth c o (fun q => hc (by simp [q])) e)) hS' got
theorem callD_list_zip {Q : Value → Shared → Prop} (S : ZipSep2 z TI TO i1 i2 fp1 fp2) (D1 : Draws prog w A.in1.in1.in1 i1 fp1 n P1 St1) (D2 : Draws prog w A.in1.in1.in1 i2 fp2 n P2 St2) (hn : n ≤ sizeLine) (hz0 : IsZip s.heap z TI TO .none) (st : ZSt s.heap z TI TO i1 i2 St1 St2 0)
    (far : ∀ b ∈ fp1 ++ fp2, b < s.heap.objs.size)
    (hQ : ∀ h' tk acc c', (∀ c o, c ≠ z → c ≠ TO → c ≠ i1 → c ≠ i2 → s.heap.get? c = some o → h'.get? c = some o) → h'.get? s.heap.objs.size = some { cls := .type "list", dict := none, data := .seq acc c', slots := #[] } → Got h' s.heap.objs.size [z, TO, i1, i2, s.heap.objs.size] P1 P2 acc n → Q (.ref s.heap.objs.size) { s with heap := h', toks := tk }) :
    wpAny (model prog w) A (call (.type "list") [.ref z]) Q E s := by
  have old : ∀ c o, s.heap.get? c = some o → c ≠ s.heap.objs.size := fun c o e => Nat.ne_of_lt (Heap.lt_size e)
  have nS : s.heap.objs.size ∉ [z, TI, TO] ∧ s.heap.objs.size ∉ fp1 ∧ s.heap.objs.size ∉ fp2 := by
    obtain ⟨lz, lTO, li1, li2⟩ := zD_lts D1 D2 st
    obtain ⟨_, ti, _⟩ := st
    refine ⟨?_, fun h => Nat.lt_irrefl _ (far _ (List.mem_append_left _ h)), fun h => Nat.lt_irrefl _ (far _ (List.mem_append_right _ h))⟩
    simp only [List.mem_cons, List.not_mem_nil, or_false, not_or]
    exact ⟨Nat.ne_of_gt lz, (old _ _ ti).symm, Nat.ne_of_gt lTO⟩
  refine callType_codes (Q₁ := fun obj s₁ => obj = .ref s.heap.objs.size ∧ s₁ = { s with heap := s.heap.push { cls := .type "list", data := .seq #[] } }) F.called_list (F.typeCall_list_1 _) F.entry_list_init
    (code_list_new _ ⟨rfl, rfl⟩) fun obj s₁ h₁ => ?_
  obtain ⟨rfl, rfl⟩ := h₁
  have hS : (s.heap.push { cls := .type "list", data := .seq #[] }).get? s.heap.objs.size = some { cls := .type "list", data := .seq #[] } := Heap.get?_push_size _ rfl
  have up : ∀ c o, s.heap.get? c = some o → (s.heap.push { cls := .type "list", data := .seq #[] }).get? c = some o := fun c o e => Heap.get?_push_of_some _ e
  refine ⟨⟨_, hS, rfl⟩, F.args_list_init_2 _ _, listD_init_zip (A := A.in1) (s := { s with heap := s.heap.push { cls := .type "list", data := .seq #[] } }) S D1 D2 hn (up _ _ hz0) (st.keep S D1 D2 nS (fun c o _ e => up c o e) ⟨_, hS⟩) s.heap.objs.size nS hS s.heap.objs.size (Nat.le_of_lt (Heap.lt_size hS)) fun h' tk acc c' kp hS' got => ?_⟩
  refine ⟨rfl, hQ h' tk acc c' (fun c o c1 c2 c3 c4 e => kp c o ?_ (up c o e)) hS' got⟩
  simp only [List.mem_cons, List.not_mem_nil, or_false, not_or]
  exact ⟨c1, c2, c3, c4, old c o e⟩
end
end PySem


namespace L2
open PySem PySem.Spec PyProof.Rows
/-! tuple(zip(xs, ys)), list(zip(xs, ys)), in the hand layer: the pairs are new, and tracked -/
def layT : List (Addr × (V × V)) → Hp → Hp
  | [], H => H
  | p :: r, H => layT r (upd H p.1 (.tup [p.2.1, p.2.2]))
theorem layT_out : ∀ (l : List (Addr × (V × V))) (H : Hp) (c : Addr), c ∉ l.map (·.1) → layT l H c = H c
  | [], _, _, _ => rfl
  | p :: r, H, c, h => by
    simp only [List.map_cons, List.mem_cons, not_or] at h
    show layT r (upd H p.1 (.tup [p.2.1, p.2.2])) c = H c
    rw [layT_out r _ c h.2, upd_ne h.1]
theorem layT_in : ∀ (l : List (Addr × (V × V))) (H : Hp), (l.map (·.1)).Nodup → ∀ p ∈ l, layT l H p.1 = some (.tup [p.2.1, p.2.2])
  | [], _, _, _, h => nomatch h
  | q :: r, H, nd, p, h => by
    rw [List.map_cons, List.nodup_cons] at nd
    show layT r (upd H q.1 (.tup [q.2.1, q.2.2])) p.1 = _
    rcases List.mem_cons.mp h with e | e
    · rw [e, layT_out r _ _ nd.1, upd_same]
    · exact layT_in r _ nd.2 p e
/-- the pairs of xs and ys stand in H2 at ts, all new -/
def ZipNew (H1 H2 : Hp) (xs ys : List V) (ts : List Addr) : Prop := Same H1 H2 ∧ Paired (fun (T : Addr) (p : V × V) => H1 T = none ∧ H2 T = some (.tup [p.1, p.2])) ts (xs.zip ys)
/-- the signs of a text -/
def signs (x : Str) : List V := x.cps.toList.map fun c => V.str ⟨#[c]⟩
def rZipS (K : PySem.W.Frag) (vs : List V) (H1 : Hp) (Q : VK) : Prop := ∃ (x : Str) (b : Addr) (ys : List V), vs = [.str x, .ref b] ∧ x.cps.all (· < 128) = true ∧ SqT K H1 b ys ∧ x.cps.size = ys.length ∧ ys.length ≤ 1000 ∧
  ∀ H2 ts t, ZipNew H1 H2 (signs x) ys ts → H1 t = none → H2 t = some (.lst (ts.map V.ref)) → Q (.ref t) H2
def tLstZipS (K : PySem.W.Frag) (ta : TA) : TE := fun σ H Q => ta σ H fun vs H1 => rZipS K vs H1 Q
theorem refsZ : ∀ (l : List Value), (∀ v ∈ l, ∃ T : Addr, v = .ref T) → ∃ ts : List Addr, l = ts.map Value.ref
  | [], _ => ⟨[], rfl⟩
  | v :: l, h => by
    obtain ⟨T, rfl⟩ := h v List.mem_cons_self
    obtain ⟨ts, e⟩ := refsZ l fun u hu => h u (List.mem_cons_of_mem _ hu)
    exact ⟨T :: ts, by rw [e]; rfl⟩
theorem valsZ : ∀ ts : List Addr, Vals (ts.map V.ref) (ts.map Value.ref)
  | [] => .nil
  | t :: ts => .cons rfl (valsZ ts)
theorem zipped_map {ts : List Addr} {ps : List (V × V)} (h : ts.length = ps.length) : (ts.zip ps).map (·.1) = ts := List.map_fst_zip (Nat.le_of_eq h)
section
variable {X : Cx} {pins : List (Addr × Obj)} {σ : St} {H1 : Hp} {s1 : Shared}
/-- behind a zip that was told whole: the pairs are tracked -/
theorem track_zip (I1 : Inv X pins σ H1 s1) {xs ys : List V} {P1 P2 : Nat → Value → Prop} (rv : ∀ j v, P1 j v → ∃ x, xs[j]? = some x ∧ RelV x v) (rv2 : ∀ j v, P2 j v → ∃ x, ys[j]? = some x ∧ RelV x v) (hl : xs.length = ys.length) (hn : xs.length ≤ 1000) {h3 : Heap} {tk n0 : Nat} {bad : List Addr} {acc : Array Value} {t : Addr} {u : List Addr → HO}
    (n1 : s1.heap.objs.size ≤ n0) (got : Got h3 n0 bad P1 P2 acc xs.length) (k : ∀ b o, s1.heap.get? b = some o → h3.get? b = some o) (ht : s1.heap.objs.size ≤ t) (htb : ∀ (j : Nat) (T : Addr), acc[j]? = some (.ref T) → T ≠ t)
    (hu : ∀ (ts : List Addr) (H2 : Hp), acc.toList = ts.map Value.ref → ts.length = xs.length → ObjOk X.prog X.w H2 h3 t (u ts)) :
    ∃ (ts : List Addr) (H2 : Hp), Inv X pins σ H2 { s1 with heap := h3, toks := tk } ∧ ZipNew H1 H2 xs ys ts ∧ H1 t = none ∧ H2 t = some (u ts) := by
  obtain ⟨g1, g2, g3⟩ := got
  have at_ : ∀ (j : Nat) (v : Value), acc.toList[j]? = some v → acc[j]? = some v := fun j v e => by rw [← Array.getElem?_toList]; exact e
  obtain ⟨ts, ets⟩ := refsZ acc.toList fun v hv => by
    obtain ⟨j, hj⟩ := List.mem_iff_getElem?.mp hv
    obtain ⟨T, _, _, e, _⟩ := g2 j v (at_ j v hj)
    exact ⟨T, e⟩
  have lts : ts.length = xs.length := by
    have z : acc.toList.length = ts.length := by rw [ets, List.length_map]
    rw [← z, Array.length_toList, g1]
  have lz : (xs.zip ys).length = xs.length := by rw [List.length_zip]; omega
  have acc_at : ∀ (j : Nat) (T : Addr), ts[j]? = some T → acc[j]? = some (.ref T) := fun j T e => at_ j _ (by rw [ets, List.getElem?_map, e]; rfl)
  have nd : ts.Nodup := by
    rw [List.Nodup, List.pairwise_iff_getElem]
    intro i j hi hj hij
    exact Nat.ne_of_lt (g3 i j _ _ hij (acc_at i _ (List.getElem?_eq_getElem hi)) (acc_at j _ (List.getElem?_eq_getElem hj)))
  have emap : (ts.zip (xs.zip ys)).map (·.1) = ts := zipped_map (by rw [lz, lts])
  have big : ∀ T ∈ ts, s1.heap.objs.size ≤ T ∧ T ≠ t := fun T hT => by
    obtain ⟨j, hj⟩ := List.mem_iff_getElem?.mp hT
    obtain ⟨T', _, _, e, h0, _⟩ := g2 j _ (acc_at j T hj)
    cases e
    exact ⟨Nat.le_trans n1 h0, htb j T (acc_at j T hj)⟩
  have out1 : ∀ c, c ∉ ts → layT (ts.zip (xs.zip ys)) H1 c = H1 c := fun c hc => layT_out _ _ c (by rw [emap]; exact hc)
  have in1 : ∀ p ∈ ts.zip (xs.zip ys), layT (ts.zip (xs.zip ys)) H1 p.1 = some (.tup [p.2.1, p.2.2]) := layT_in _ _ (by rw [emap]; exact nd)
  have old : ∀ c, c < s1.heap.objs.size → c ∉ ts ∧ c ≠ t := fun c hc => ⟨fun hm => Nat.lt_irrefl _ (Nat.lt_of_lt_of_le hc (big c hm).1), fun e => Nat.lt_irrefl _ (Nat.lt_of_lt_of_le hc (e ▸ ht))⟩
  have keep1 : ∀ c, c < s1.heap.objs.size → upd (layT (ts.zip (xs.zip ys)) H1) t (u ts) c = H1 c := fun c hc => by
    rw [upd_ne (old c hc).2, out1 c (old c hc).1]
  have tracked : ∀ c o, H1 c = some o → c < s1.heap.objs.size := fun c o e => I1.hok.lt e
  have same : ∀ c o, H1 c = some o → upd (layT (ts.zip (xs.zip ys)) H1) t (u ts) c = some o := fun c o e => (keep1 c (tracked c o e)).trans e
  refine ⟨ts, upd (layT (ts.zip (xs.zip ys)) H1) t (u ts), ?_, ⟨same, ?_⟩, I1.hok.fresh ht, upd_same⟩
  · refine I1.un (t' := tk) ⟨fun b o q _ _ _ => k b o q, fun b o q _ _ _ => ⟨o.slots, k b o q⟩, fun b o q n _ => (keep1 b (Heap.lt_size q)).trans n, fun b o q _ => ⟨o, k b o q⟩, fun b xs q => same b _ q, fun b o u q => same b _ q, fun b ps q => ⟨#[], by rw [same b _ q]; simp⟩⟩ fun c o e => ?_
    by_cases hc : c = t
    · subst hc
      rw [upd_same] at e
      cases e
      exact hu ts _ ets lts
    · rw [upd_ne hc] at e
      by_cases hm : c ∈ ts
      · obtain ⟨j, hj⟩ := List.mem_iff_getElem?.mp hm
        have hjl : j < ts.length := (List.getElem?_eq_some_iff.mp hj).1
        obtain ⟨T', x, y, e1, _, _, hx, hy, hp⟩ := g2 j _ (acc_at j c hj)
        cases e1
        have mx : xs[j]? = some xs[j] := List.getElem?_eq_getElem (by omega)
        have my : ys[j]? = some ys[j] := List.getElem?_eq_getElem (by omega)
        have mz : (c, (xs[j], ys[j])) ∈ ts.zip (xs.zip ys) := by
          refine List.mem_iff_getElem?.mpr ⟨j, ?_⟩
          rw [List.getElem?_zip_eq_some, List.getElem?_zip_eq_some]
          exact ⟨hj, mx, my⟩
        rw [in1 _ mz] at e
        cases e
        obtain ⟨u1, hu1, ru1⟩ := rv j x hx
        obtain ⟨u2, hu2, ru2⟩ := rv2 j y hy
        have ex : u1 = xs[j] := Option.some.inj (hu1.symm.trans mx)
        have ey : u2 = ys[j] := Option.some.inj (hu2.symm.trans my)
        exact ⟨by show 2 ≤ sizeLine; decide, [x, y], .cons (ex ▸ ru1) (.cons (ey ▸ ru2) .nil), ⟨_, hp, rfl, _, rfl⟩⟩
      · rw [out1 c hm] at e
        exact (I1.hok c o e).stay (fun b v _ q => k b v q) (fun b q => same b _ q) fun b xs q => same b _ q
  · have pw : ∀ (l : List Addr) (ps : List (V × V)), l.length = ps.length → (∀ p ∈ l.zip ps, H1 p.1 = none ∧ upd (layT (ts.zip (xs.zip ys)) H1) t (u ts) p.1 = some (.tup [p.2.1, p.2.2])) →
        Paired (fun (T : Addr) (p : V × V) => H1 T = none ∧ upd (layT (ts.zip (xs.zip ys)) H1) t (u ts) T = some (.tup [p.1, p.2])) l ps := by
      intro l
      induction l with
      | nil => intro ps hl _; cases ps with
        | nil => exact .nil
        | cons p ps => simp at hl
      | cons T l ih => intro ps hl h; cases ps with
        | nil => simp at hl
        | cons p ps => exact .cons (h (T, p) (by simp)) (ih ps (by simpa using hl) fun q hq => h q (by simp [hq]))
    refine pw ts (xs.zip ys) (by rw [lz, lts]) fun p hp => ?_
    have hT : p.1 ∈ ts := by
      have := List.mem_map_of_mem (f := fun x : Addr × (V × V) => x.1) hp
      rw [emap] at this
      exact this
    refine ⟨I1.hok.fresh (big _ hT).1, ?_⟩
    rw [upd_ne (big _ hT).2]
    exact in1 p hp
variable {e e2 : Expr} {ta : TA} {p p2 q pos : Pos}
theorem pe_lstZipS (hc : X.calm = true) (hg : Gl X "list") (hm : X.mg "list" = none) (hg2 : Gl X "zip") (hm2 : X.mg "zip" = none) (ha : PA X [e, e2] ta)
    (hs : starEach [e, e2] X.env = (false, eval e X.env) :: starEach [e2] X.env := by rfl) (hpl : (backTo q (starEach [e2] X.env)).any (·.1) = false := by rfl)
    (na : starEach [.Call (.Name "zip" p2) [e, e2] [] q] X.env = (false, eval (.Call (.Name "zip" p2) [e, e2] [] q) X.env) :: starEach [] X.env := by rfl) :
    PE X (.Call (.Name "list" p) [.Call (.Name "zip" p2) [e, e2] [] q] [] pos) (tLstZipS X.K ta) := by
  refine ⟨fun pins s σ H Q I h => ?_⟩
  refine Call_ (ld_blt I hg hm boot_list (PyProof.Rows.callWith_type1 (PyProof.Rows.args_cons ?_ na) na rfl))
  refine Call_ (ld_blt I hg2 hm2 PyProof.Rows.boot_zip (PyProof.Rows.callWith_type1 (thn (ha.run q pins s σ H _ I h) fun us s1 ⟨vs, H1, I1, r1, q1⟩ => ?_) hs hpl))
  obtain ⟨x, b, ys, ex, hax, hqy, hl, hn, fin⟩ := q1
  subst ex
  cases r1 with
  | cons r rr =>
    cases rr with
    | cons r' rr =>
      cases rr
      obtain ⟨t, rfl⟩ := r
      cases r'
      obtain ⟨its2, rv2, p2, _⟩ := I1.tuple hqy
      have ly := rv2.length
      have p2lt := p2.lt
      refine Toy.call_zipS hax p2 fun h' hz hTI hTO h1 h2 hsz hk => PyProof.Rows.args_nil ?_
      have D := PySem.W.ktu_apart s1.heap.objs.size b b p2lt p2lt
      have SS : ZipSep2 (s1.heap.objs.size + 4) (s1.heap.objs.size + 2) (s1.heap.objs.size + 3) s1.heap.objs.size (s1.heap.objs.size + 1) [s1.heap.objs.size] [s1.heap.objs.size + 1, b] :=
        ⟨D.TIz, D.TOz, D.TITO, D.TIi1, by simp, by simp [D.i1z.symm], by simp [D.TOi1], D.TIi2, by simp, by simp [D.i2z.symm, D.l2z.symm], by simp [D.TOi2, D.l2TO.symm], by simp [D.i12, D.l2i1.symm], by simp [D.i12.symm]⟩
      have hh : X.A.in1.in1.in1.handled = none := I1.ok.hd hc
      have D2 := Toy.drawsTuple (prog := X.prog) (w := X.w) hh (s1.heap.objs.size + 1) b D.l2i2 its2.toArray
      have e2 : its2.toArray.size = x.cps.size := by simp; omega
      rw [e2] at D2
      have st : ZSt h' (s1.heap.objs.size + 4) (s1.heap.objs.size + 2) (s1.heap.objs.size + 3) s1.heap.objs.size (s1.heap.objs.size + 1) (fun i h => h.IsStrIter s1.heap.objs.size "str_ascii_iterator" x t i) (fun i h => h.IsTupleIter (s1.heap.objs.size + 1) b i ∧ h.IsTuple b its2.toArray) 0 :=
        ⟨.inl hz, hTI, ⟨_, _, hTO⟩, h1, h2, by
          obtain ⟨o, e, r⟩ := p2
          exact ⟨o, hk _ o e, r⟩⟩
      refine callD_list_zip (s := { s1 with heap := h' }) SS (Draws.strAscii hh s1.heap.objs.size x t) D2 (Nat.le_of_lt (small1000 (by omega))) hz st (fun c hc' => ?_) fun h3 tk acc c' kp hS got => ?_
      · simp only [List.cons_append, List.nil_append, List.mem_cons, List.not_mem_nil, or_false] at hc'
        have hsz' : ({ s1 with heap := h' } : Shared).heap.objs.size = s1.heap.objs.size + 5 := hsz
        rw [hsz']
        have := p2lt
        rcases hc' with rfl | rfl | rfl
        · exact Nat.lt_add_of_pos_right (by decide)
        · exact Nat.add_lt_add_left (by decide) _
        · exact Nat.lt_of_lt_of_le p2lt (Nat.le_add_right _ _)
      have lsx : (signs x).length = x.cps.size := by unfold signs; simp
      have far : ∀ b o, s1.heap.get? b = some o → h3.get? b = some o := fun b o e => by
        have lt := Heap.lt_size e
        exact kp b o (Nat.ne_of_lt (Nat.lt_of_lt_of_le lt (Nat.le_add_right _ _))) (Nat.ne_of_lt (Nat.lt_of_lt_of_le lt (Nat.le_add_right _ _))) (Nat.ne_of_lt lt) (Nat.ne_of_lt (Nat.lt_of_lt_of_le lt (Nat.le_add_right _ _))) (hk b o e)
      have big5 : s1.heap.objs.size ≤ h'.objs.size := by
        have : h'.objs.size = s1.heap.objs.size + 5 := hsz
        rw [this]
        exact Nat.le_add_right _ _
      obtain ⟨ts, H2, I2, zn, t0, t2⟩ := track_zip (P1 := fun i v => ∃ c u, x.cps[i]? = some c ∧ v = Value.str ⟨#[c]⟩ u) (P2 := fun i v => its2.toArray[i]? = some v) (u := fun ts => .lst (ts.map V.ref)) (t := h'.objs.size) (tk := tk) (xs := signs x) (ys := ys) I1 (fun j v ⟨c, u, hc1, hv⟩ => ⟨.str ⟨#[c]⟩, by unfold signs; rw [List.getElem?_map, Array.getElem?_toList, hc1]; rfl, by rw [hv]; exact ⟨u, rfl⟩⟩)
        (fun j v hv => by
          have hv' : its2[j]? = some v := by simpa using hv
          have hj : j < ys.length := by
            have := (List.getElem?_eq_some_iff.mp hv').1
            omega
          obtain ⟨u, hu, ru⟩ := rv2.get (List.getElem?_eq_getElem hj)
          rw [hv'] at hu
          cases hu
          exact ⟨_, List.getElem?_eq_getElem hj, ru⟩) (by omega) (by omega) big5 (by rw [lsx]; exact got) far big5 (fun j T e z => by
          obtain ⟨T', _, _, e1, _, nb, _⟩ := got.2.1 j _ e
          cases e1
          exact nb (by simp [z]))
        (fun ts H2 ets lts => ⟨by rw [List.length_map, lts]; exact Nat.le_of_lt (small1000 (by omega)), ts.map Value.ref, c', valsZ ts, by rw [← ets]; simpa using hS⟩)
      exact ⟨.ref h'.objs.size, H2, I2, rfl, fin H2 ts _ zn t0 t2⟩
end
end L2


namespace L2
open PySem PySem.Spec PyProof.Rows RZ
section
variable {X : Cx} {e e2 : Expr} {ta : TA} {p p2 q pos : Pos}
def rZipLT (K : PySem.W.Frag) (vs : List V) (H1 : Hp) (Q : VK) : Prop := ∃ (a b : Addr) (xs ys : List V), vs = [.ref a, .ref b] ∧ SqL K H1 a xs ∧ SqT K H1 b ys ∧ xs.length = ys.length ∧ ys.length ≤ 1000 ∧
  ∀ H2 ts t, ZipNew H1 H2 xs ys ts → H1 t = none → H2 t = some (.lst (ts.map V.ref)) → Q (.ref t) H2
def tLstZipLT (K : PySem.W.Frag) (ta : TA) : TE := fun σ H Q => ta σ H fun vs H1 => rZipLT K vs H1 Q
theorem pe_lstZipLT (hc : X.calm = true) (hg : Gl X "list") (hm : X.mg "list" = none) (hg2 : Gl X "zip") (hm2 : X.mg "zip" = none) (ha : PA X [e, e2] ta)
    (hs : starEach [e, e2] X.env = (false, eval e X.env) :: starEach [e2] X.env := by rfl) (hpl : (backTo q (starEach [e2] X.env)).any (·.1) = false := by rfl)
    (na : starEach [.Call (.Name "zip" p2) [e, e2] [] q] X.env = (false, eval (.Call (.Name "zip" p2) [e, e2] [] q) X.env) :: starEach [] X.env := by rfl) :
    PE X (.Call (.Name "list" p) [.Call (.Name "zip" p2) [e, e2] [] q] [] pos) (tLstZipLT X.K ta) := by
  refine ⟨fun pins s σ H Q I h => ?_⟩
  refine Call_ (ld_blt I hg hm boot_list (PyProof.Rows.callWith_type1 (PyProof.Rows.args_cons ?_ na) na rfl))
  refine Call_ (ld_blt I hg2 hm2 PyProof.Rows.boot_zip (PyProof.Rows.callWith_type1 (thn (ha.run q pins s σ H _ I h) fun us s1 ⟨vs, H1, I1, r1, q1⟩ => ?_) hs hpl))
  obtain ⟨a, b, xs, ys, ex, hqx, hqy, hl, hn, fin⟩ := q1
  subst ex
  cases r1 with
  | cons r rr =>
    cases rr with
    | cons r' rr =>
      cases rr
      cases r
      cases r'
      obtain ⟨its, rv, p1, _⟩ := I1.list hqx
      obtain ⟨its2, rv2, p2, _⟩ := I1.tuple hqy
      have lx := rv.length
      have ly := rv2.length
      have p1lt := p1.lt
      have p2lt := p2.lt
      refine Toy.call_zipLT p1.isList p2 fun h' hz hTI hTO h1 h2 hsz hk => PyProof.Rows.args_nil ?_
      have D := PySem.W.ktu_apart s1.heap.objs.size a b p1lt p2lt
      have SS : ZipSep2 (s1.heap.objs.size + 4) (s1.heap.objs.size + 2) (s1.heap.objs.size + 3) s1.heap.objs.size (s1.heap.objs.size + 1) [s1.heap.objs.size, a] [s1.heap.objs.size + 1, b] :=
        ⟨D.TIz, D.TOz, D.TITO, D.TIi1, by simp, by simp [D.i1z.symm, D.l1z.symm], by simp [D.TOi1, D.l1TO.symm], D.TIi2, by simp, by simp [D.i2z.symm, D.l2z.symm], by simp [D.TOi2, D.l2TO.symm], by simp [D.i12, D.l2i1.symm], by simp [D.i12.symm, D.l1i2.symm]⟩
      have hh : X.A.in1.in1.in1.handled = none := I1.ok.hd hc
      have D1 := Draws.list (prog := X.prog) (w := X.w) hh s1.heap.objs.size a D.l1i1 its.toArray
      have D2 := Toy.drawsTuple (prog := X.prog) (w := X.w) hh (s1.heap.objs.size + 1) b D.l2i2 its2.toArray
      have e1 : its.toArray.size = xs.length := by simp; omega
      have e2 : its2.toArray.size = xs.length := by simp; omega
      rw [e1] at D1
      rw [e2] at D2
      have st : ZSt h' (s1.heap.objs.size + 4) (s1.heap.objs.size + 2) (s1.heap.objs.size + 3) s1.heap.objs.size (s1.heap.objs.size + 1) (fun i h => h.IsListIter s1.heap.objs.size a i ∧ h.IsList a its.toArray) (fun i h => h.IsTupleIter (s1.heap.objs.size + 1) b i ∧ h.IsTuple b its2.toArray) 0 :=
        ⟨.inl hz, hTI, ⟨_, _, hTO⟩, ⟨h1, p1.isList.at fun o e => hk _ o e⟩, h2, by
          obtain ⟨o, e, r⟩ := p2
          exact ⟨o, hk _ o e, r⟩⟩
      refine callD_list_zip (s := { s1 with heap := h' }) SS D1 D2 (Nat.le_of_lt (small1000 (by omega))) hz st (fun c hc' => ?_) fun h3 tk acc c' kp hS got => ?_
      · simp only [List.cons_append, List.nil_append, List.mem_cons, List.not_mem_nil, or_false] at hc'
        have hsz' : ({ s1 with heap := h' } : Shared).heap.objs.size = s1.heap.objs.size + 5 := hsz
        rw [hsz']
        rcases hc' with rfl | rfl | rfl | rfl
        · exact Nat.lt_add_of_pos_right (by decide)
        · exact Nat.lt_of_lt_of_le p1lt (Nat.le_add_right _ _)
        · exact Nat.add_lt_add_left (by decide) _
        · exact Nat.lt_of_lt_of_le p2lt (Nat.le_add_right _ _)
      have far : ∀ b o, s1.heap.get? b = some o → h3.get? b = some o := fun b o e => by
        have lt := Heap.lt_size e
        exact kp b o (Nat.ne_of_lt (Nat.lt_of_lt_of_le lt (Nat.le_add_right _ _))) (Nat.ne_of_lt (Nat.lt_of_lt_of_le lt (Nat.le_add_right _ _))) (Nat.ne_of_lt lt) (Nat.ne_of_lt (Nat.lt_of_lt_of_le lt (Nat.le_add_right _ _))) (hk b o e)
      have big5 : s1.heap.objs.size ≤ h'.objs.size := by
        have : h'.objs.size = s1.heap.objs.size + 5 := hsz
        rw [this]
        exact Nat.le_add_right _ _
      have rel : ∀ {zs : List V} {is : List Value}, Vals zs is → ∀ (j : Nat) (v : Value), is.toArray[j]? = some v → ∃ x, zs[j]? = some x ∧ RelV x v := fun {zs is} r j v hv => by
        have hv' : is[j]? = some v := by simpa using hv
        have hj : j < zs.length := by
          have := (List.getElem?_eq_some_iff.mp hv').1
          have := r.length
          omega
        obtain ⟨u, hu, ru⟩ := r.get (List.getElem?_eq_getElem hj)
        rw [hv'] at hu
        cases hu
        exact ⟨_, List.getElem?_eq_getElem hj, ru⟩
      obtain ⟨ts, H2, I2, zn, t0, t2⟩ := track_zip (P1 := fun i v => its.toArray[i]? = some v) (P2 := fun i v => its2.toArray[i]? = some v) (u := fun ts => .lst (ts.map V.ref)) (t := h'.objs.size) (tk := tk) (xs := xs) (ys := ys) I1 (rel rv) (rel rv2) (by omega) (by omega) big5 got far big5 (fun j T e z => by
          obtain ⟨T', _, _, e1, _, nb, _⟩ := got.2.1 j _ e
          cases e1
          exact nb (by simp [z]))
        (fun ts H2 ets lts => ⟨by rw [List.length_map, lts]; exact Nat.le_of_lt (small1000 (by omega)), ts.map Value.ref, c', valsZ ts, by rw [← ets]; simpa using hS⟩)
      exact ⟨.ref h'.objs.size, H2, I2, rfl, fin H2 ts _ zn t0 t2⟩
end
end L2


namespace Toy
open PySem PySem.Spec L2 PyProof.Rows PySem.W
/-! ### another part at a spot -/
abbrev natV (i : Nat) : V := V.int (i : Nat)
theorem steps_nat : ∀ {us : List V} {t : PyData} {ps : List PyData}, stepsV t us = some ps → ∃ ns : List Nat, us = ns.map natV
  | [], _, _, _ => ⟨[], rfl⟩
  | u :: us, t, ps, h => by
    rw [stepsV] at h
    cases h1 : stepV t u with
    | none => rw [h1] at h; cases h
    | some p =>
      rw [h1] at h
      cases h2 : stepsV p us with
      | none => simp only [h2] at h; cases h
      | some qs =>
        obtain ⟨ns, rfl⟩ := steps_nat h2
        unfold stepV at h1
        split at h1
        · rename_i i
          by_cases hi : 0 ≤ i
          · refine ⟨i.toNat :: ns, ?_⟩
            rw [List.map_cons]
            congr 1
            show V.int i = V.int (i.toNat : Nat)
            rw [Int.toNat_of_nonneg hi]
          · rw [if_neg hi] at h1
            cases h1
        · cases h1
theorem stepV_nat (t : PyData) (k : Nat) : stepV t (natV k) = (partsOf t)[k]? := by
  show (if (0 : Int) ≤ (k : Nat) then (partsOf t)[(k : Int).toNat]? else none) = _
  rw [if_pos (Int.natCast_nonneg k), Int.toNat_natCast]
theorem steps_at : ∀ {ns : List Nat} {t : PyData} {ps : List PyData} {j k : Nat}, stepsV t (ns.map natV) = some ps → ns[j]? = some k → (partsOf (lastT t (ps.take j)))[k]? = some (lastT t (ps.take (j + 1)))
  | [], _, _, _, _, _, h => by simp at h
  | x :: ns, t, ps, j, k, h, hj => by
    rw [List.map_cons, stepsV, stepV_nat] at h
    cases h1 : (partsOf t)[x]? with
    | none => rw [h1] at h; cases h
    | some p =>
      rw [h1] at h
      cases h2 : stepsV p (ns.map natV) with
      | none => simp only [h2] at h; cases h
      | some qs =>
        simp only [h2] at h
        cases h
        cases j with
        | zero =>
          rw [List.getElem?_cons_zero] at hj
          cases hj
          exact h1
        | succ j =>
          rw [List.getElem?_cons_succ] at hj
          show (partsOf (lastT p (qs.take j)))[k]? = some (lastT p (qs.take (j + 1)))
          exact steps_at h2 hj
theorem steps_wf {n : Nat} : ∀ {ns : List Nat} {t : PyData} {ps : List PyData} (j : Nat), wf n t = true → stepsV t (ns.map natV) = some ps → wf n (lastT t (ps.take j)) = true
  | [], t, ps, j, hw, h => by
    cases h
    simp only [List.take_nil, lastT]
    exact hw
  | x :: ns, t, ps, j, hw, h => by
    rw [List.map_cons, stepsV, stepV_nat] at h
    cases h1 : (partsOf t)[x]? with
    | none => rw [h1] at h; cases h
    | some p =>
      rw [h1] at h
      cases h2 : stepsV p (ns.map natV) with
      | none => simp only [h2] at h; cases h
      | some qs =>
        simp only [h2] at h
        cases h
        cases j with
        | zero => exact hw
        | succ j =>
          rw [List.take_succ_cons, lastT]
          cases n with
          | zero => cases hw
          | succ n => exact steps_wf j (wf_mono (parts_wf hw p (List.mem_of_getElem? h1)) (Nat.le_succ _)) h2
theorem at_dp {K : PySem.W.Frag} {H : Hp} : ∀ {ws : List V} {ps : List PyData} {v : V} {t : PyData} (j : Nat), j ≤ ws.length → Dp K H v t → DpAll K H ws ps → ∃ u, (v :: ws)[j]? = some u ∧ Dp K H u (lastT t (ps.take j))
  | _, _, v, t, 0, _, h, _ => ⟨v, rfl, h⟩
  | w :: ws, p :: ps, v, t, j + 1, hj, h, a => by
    cases a with
    | cons a1 a2 =>
      obtain ⟨u, h1, h2⟩ := at_dp j (by simpa using hj) a1 a2
      exact ⟨u, h1, h2⟩
  | [], _, _, _, j + 1, hj, _, _ => by simp at hj
  | _ :: _, [], _, _, _, _, _, a => by cases a
theorem putT_drop {t t' o : PyData} {ns : List Nat} {j k : Nat} (hk : ns[j]? = some k) (h : (partsOf t)[k]? = some t') : putT t (ns.drop j) o = wpT t ((partsOf t).set k (putT t' (ns.drop (j + 1)) o)) := by
  obtain ⟨hj, e⟩ := List.getElem?_eq_some_iff.mp hk
  rw [List.drop_eq_getElem_cons hj, e, putT, h]
theorem dpl_set {K : PySem.W.Frag} {H : Hp} : ∀ {us : List V} {ps : List PyData} {u : V} {p : PyData} (k : Nat), DpAll K H us ps → Dp K H u p → DpAll K H (us.set k u) (ps.set k p)
  | [], [], _, _, _, _, _ => .nil
  | _ :: us, _ :: ps, u, p, 0, .cons a b, h => .cons h b
  | _ :: us, _ :: ps, u, p, k + 1, .cons a b, h => .cons a (dpl_set k b h)
theorem sIx_m1 (n d : Nat) : HT.sIx n d (some (-1)) = n - 1 := by
  show (if (-1 : Int) < 0 then ((-1 : Int) + (n : Int)).toNat else min (-1 : Int).toNat n) = n - 1
  rw [if_pos (by decide)]
  omega
theorem cut_but (xs : List V) : cutV xs none (some (-1)) = xs.take (xs.length - 1) := by
  unfold cutV
  rw [sIx_m1, HT.sIx_none, List.drop_zero, Nat.sub_zero]
theorem paired_get {α β : Type} {F : α → β → Prop} {xs : List α} {ys : List β} (h : Paired F xs ys) {i : Nat} {x : α} (e : xs[i]? = some x) : ∃ y, ys[i]? = some y ∧ F x y := by
  induction h generalizing i with
  | nil => simp at e
  | cons a _ ih =>
    cases i with
    | zero =>
      rw [List.getElem?_cons_zero] at e ⊢
      cases e
      exact ⟨_, rfl, a⟩
    | succ i =>
      rw [List.getElem?_cons_succ] at e ⊢
      exact ih e
theorem SpotA.impS {K : PySem.W.Frag} {C : Addr} {t : PyData} {sp : V} {H : Hp} {E : XK} {R R' : List V → List PyData → Prop} (h : SpotA K C t sp H E R) (k : ∀ a us ps, sp = .ref a → SqT K H a us → us.length ≤ 900 → stepsV t us = some ps → R us ps → R' us ps) : SpotA K C t sp H E R' := by
  obtain ⟨nm, h1, h2, h3⟩ := h
  exact ⟨nm, h1, h2, fun e => by
    obtain ⟨a, us, g1, g2, g3, g4, g5, g6⟩ := h3 e
    exact ⟨a, us, g1, g2, g3, g4, g5, fun ps hp => k a us ps g1 g2 g3 hp (g6 ps hp)⟩⟩
theorem ixN_nat8 {n j : Nat} (hj : j < n) : ixN n (j : Int) = some j := by
  unfold ixN
  rw [if_pos (Int.natCast_nonneg j), if_pos (by omega), Int.toNat_natCast]
def spWS (K : PySem.W.Frag) (C : Addr) : Sp := fun vs H Q E => ∃ (v sp w0 : V) (n m : Nat) (t o : PyData), vs = [v, sp, w0] ∧ Dp K H v t ∧ wf n t = true ∧ Dp K H w0 o ∧ wf m o = true ∧
  SpotA K C t sp H E (fun us ps => ∀ H' u ns, Same H H' → us = ns.map natV → Dp K H' u (putT t ns o) → Q u H')
abbrev sWS : Stmt := top 21
abbrev NWS : List Str := ["term", "spot", "part", "around", "whole", "outer", "number", "parts", "_", "below"]
section
variable {P : Program} {w : World} {K : PySem.W.Frag} {mg : Str → Option Value} {base : Heap}
theorem scWS : FnScope NWS ["term", "spot", "part"] (defScope sWS) := ⟨rfl, rfl, rfl, by decide +kernel, rfl, by decide +kernel, by decide +kernel⟩
theorem ok_ws {f C fP fK fW : Addr} {fd fdP fdK fdW : FuncData} (F : Fun K "with_spot" "with_spot" sWS f fd)
    (GP : FnOk P w K mg base (L2.CX P w) 3 fP fdP ["term", "spot"] (spPs K C)) (mP : mg "_passed" = some (.ref fP)) (kP : PySem.W.keepIn K (.ref fP) = true) (bP : Binds K fdP ["term", "spot"] [])
    (GK : FnOk P w K mg base CX0 1 fK fdK ["term"] (spKP K)) (mK : mg "kinds_and_parts" = some (.ref fK)) (kK : PySem.W.keepIn K (.ref fK) = true) (bK : Binds K fdK ["term"] [])
    (GW : FnOk P w K mg base CX0 1 fW fdW ["term", "parts"] (spWP K)) (mW : mg "with_parts" = some (.ref fW)) (kW : PySem.W.keepIn K (.ref fW) = true) (bW : Binds K fdW ["term", "parts"] [])
    (mRe : mg "reversed" = none) (mLi : mg "list" = none) (mZip : mg "zip" = none) :
    FnOk P w K mg base (L2.CX P w) 4 f fd ["term", "spot", "part"] (spWS K C) := by
  refine F.okX (k := 3) scWS (fun vs H Q E h => ?_) (fun cdv A outer s H vs Q E hr h => ?_)
  · obtain ⟨v, sp, w0, n, m, t, o, rfl, _⟩ := h
    rfl
  · obtain ⟨v, sp, w0, n, m, t, o, rfl, hv, hw, ho, hwo, hA⟩ := h
    have hr1 : Room 1 (A.deeper (PyProof.Rows.envOfC "with_spot" (defScope sWS) s.heap.objs.size f cdv)) := hr.mono (by decide)
    refine ⟨_, pss_cons (ps_set (i := 3) scWS.nd rfl (Or.inl rfl) (pe_slice sl_list (pe_call (E := E) GP hr (by rfl) mP kP bP .nil (passes_call (takes_of rfl rfl rfl rfl) fun cls d _ H h => h) (pa_cons (pv 0) (pa_cons (pv 1) pa_nil))) po_none (po_some (pe_un un_neg pe_int))))
      (pss_cons (ps_set (i := 4) scWS.nd rfl (Or.inl rfl) (pv 2))
      (pss_cons (ps_for (passes_of rfl) rfl (RT.pi_revA (by rfl) mRe (pe_lstZipLT (by rfl) (by rfl) mLi (by rfl) mZip (pa_cons (pv 3) (pa_cons (pv 1) pa_nil))))
        (pg_tup (by rfl) (pgs_cons (pg_name (i := 5) scWS.nd rfl (.inl rfl)) (pgs_cons (pg_name (i := 6) scWS.nd rfl (.inl rfl)) pgs_nil)))
        (pss_cons (ps_setLc (i := 7) (own := [("_", 8), ("below", 9)]) (g := gTup K 2 (gCons (gName 8) (gCons (gName 9) gNil))) (te := tVar 9) (by rfl) scWS.nd rfl rfl (sw_true rfl rfl rfl (by decide +kernel)) (pi_list (pe_call GK hr1 (by rfl) mK kK bK .nil pass0 (pa_cons (pv 5) pa_nil)))
            (blkOk_by (own := [("_", 8), ("below", 9)]) (N := NWS) (sc := defScope sWS) (by decide +kernel)) (fun _ _ _ _ _ => by exact (pg_tup rfl (pgs_cons (by exact (pg_name (i := 8) scWS.nd rfl (Or.inl rfl))) (pgs_cons (by exact (pg_name (i := 9) scWS.nd rfl (Or.inl rfl))) pgs_nil)))) (fun _ _ _ _ _ => pts_nil)
            (fun _ _ _ _ _ => pv 9))
        (pss_cons (ps_asg (pv 4) (pg_sub (pv 7) (pv 6) set_list))
        (pss_one (ps_set (i := 4) scWS.nd rfl (Or.inl rfl) (pe_call GW hr1 (by rfl) mW kW bW .nil pass0 (pa_cons (pv 5) (pa_cons (pv 7) pa_nil)))))))) 
      (pss_one (ps_ret (pv 4))))), ?_⟩
    refine ⟨_, rfl, _, rfl, v, sp, n, t, rfl, hv, hw, hA.impS fun a us ps hsp hqa hul hst q => fun H1 L ws s1 nL hL hws => ?_⟩
    subst hsp
    obtain ⟨ns, rfl⟩ := steps_nat hst
    have lps := stepsV_len hst
    have lws := dpl_len hws
    rw [List.length_map] at lps hul
    refine ⟨1, rfl, _, rfl, L, v :: ws, rfl, SqL.of hL, fun A1 nA1 => ?_⟩
    rw [cut_but]
    have ecut : (v :: ws).take ((v :: ws).length - 1) = (v :: ws).take ns.length := by
      rw [List.length_cons, Nat.add_sub_cancel, lws, lps]
    rw [ecut]
    have s2 : Same H1 (upd H1 A1 (.lst ((v :: ws).take ns.length))) := same_new same_id nA1
    have hA1 : (upd H1 A1 (.lst ((v :: ws).take ns.length))) A1 = some (.lst ((v :: ws).take ns.length)) := upd_same
    generalize upd H1 A1 (.lst ((v :: ws).take ns.length)) = H2 at s2 hA1 ⊢
    have lar : ((v :: ws).take ns.length).length = ns.length := by
      rw [List.length_take, List.length_cons]
      omega
    have s12 := s1.trans s2
    refine ⟨_, rfl, _, rfl, _, rfl, A1, a, _, _, rfl, SqL.of hA1, same_seqT s12 hqa, by rw [lar, List.length_map], by rw [List.length_map]; omega, fun H3 ts T0 zn nT0 hT0 => ⟨T0, ts.map V.ref, rfl, .inl ⟨SqL.of hT0, ?_⟩⟩⟩
    obtain ⟨s3, hz⟩ := zn
    have lts : ts.length = ns.length := by
      have := Paired.length hz
      rw [List.length_zip, lar, List.length_map, Nat.min_self] at this
      exact this
    have s13 := s12.trans s3
    have hws2 := dpAllM (s2.trans s3) hws
    have hv3 := dpM s13 hv
    refine RT.for_Itv (K := K) (a := T0) (xs := ts.map V.ref) (fun i σ H' => ∃ (u : V) (a1 a2 a3 : Option V) (m' : Nat), σ = [some v, some (.ref a), some w0, some (.ref A1), some u, a1, a2, a3, none, none] ∧ Same H3 H' ∧ Dp K H' u (putT (lastT t (ps.take (ns.length - i))) (ns.drop (ns.length - i)) o) ∧ wf m' (putT (lastT t (ps.take (ns.length - i))) (ns.drop (ns.length - i)) o) = true)
      ⟨w0, none, none, none, m, rfl, same_id, ?_, ?_⟩ ?_ ?_ ?_
    · rw [Nat.sub_zero, List.drop_length, putT]
      exact dpM s13 ho
    · rw [Nat.sub_zero, List.drop_length, putT]
      exact hwo
    · rintro i σ H' ⟨u, a1, a2, a3, m', _, s4, _⟩
      exact SqL.of (s4 _ _ hT0)
    · rintro i x σ H' hi hx ⟨u, a1, a2, a3, m', rfl, s4, hu, hwu⟩
      rw [List.length_map, lts] at hi hx
      obtain ⟨j, ej⟩ : ∃ j, j = ns.length - 1 - i := ⟨_, rfl⟩
      have ej1 : ns.length - i = j + 1 := by omega
      have ej2 : ns.length - (i + 1) = j := by omega
      rw [← ej, List.getElem?_map] at hx
      rw [ej1] at hu hwu
      rw [ej2]
      have hj : j < ns.length := by omega
      cases hTj : ts[j]? with
      | none => rw [hTj] at hx; cases hx
      | some Tj =>
      rw [hTj] at hx
      cases hx
      obtain ⟨pr, hpr, _, hTt⟩ := paired_get hz hTj
      have hkj : ns[j]? = some ns[j] := List.getElem?_eq_getElem hj
      generalize ns[j] = k at hkj
      obtain ⟨u0, hu0, hdu⟩ := at_dp j (by omega) hv3 hws2
      have hpt := steps_at hst hkj
      have hwj := steps_wf j hw hst
      have epr : pr = (u0, natV k) := by
        have e1 : ((v :: ws).take ns.length)[j]? = some u0 := by rw [List.getElem?_take_of_lt hj, hu0]
        have e2 : (ns.map natV)[j]? = some (natV k) := by rw [List.getElem?_map, hkj]; rfl
        rw [List.getElem?_zip_eq_some (z := (u0, natV k)) |>.mpr ⟨e1, e2⟩] at hpr
        exact (Option.some.inj hpr).symm
      subst epr
      have hput := putT_drop (o := o) hkj hpt
      rw [hput]
      generalize lastT t (ps.take j) = tj at hdu hpt hwj ⊢
      generalize lastT t (ps.take (j + 1)) = tk at hu hwu hpt ⊢
      generalize putT tk (ns.drop (j + 1)) o = tw at hu hwu ⊢
      obtain ⟨n', rfl⟩ : ∃ n', n = n' + 1 := by
        cases n with
        | zero => cases hwj
        | succ n => exact ⟨n, rfl⟩
      have hTt' := s4 _ _ hTt
      have hdu4 := dpM s4 hdu
      refine ⟨Tj, _, rfl, SqT.of hTt', rfl, _, _, rfl, _, _, rfl, rfl, ?_⟩
      refine ⟨_, rfl, u0, n', tj, rfl, hdu4, hwj, fun H5 L5 qs us' s5 nL5 hL5 hqs hdp hul' hk4 => ⟨L5, rfl, ⟨_, SqL.of hL5⟩, fun D nD => ?_⟩⟩
      have ldp := dpl_len hdp
      have lqs := Paired.length hqs
      refine lc_list (K := K) (a := L5) (xs := qs.map V.ref) (fun i H' => Same H5 H' ∧ H' D = some (.lst ((us'.map (·.2)).take i))) ⟨same_new same_id nD, upd_same⟩ ?_ ?_ ?_
      · rintro i H' _ ⟨s6, _⟩
        exact SqL.of (s6 _ _ hL5)
      · rintro i x H' hx ⟨s6, hD⟩
        rw [List.getElem?_map] at hx
        cases hq : qs[i]? with
        | none => rw [hq] at hx; cases hx
        | some q0 =>
        rw [hq] at hx
        cases hx
        obtain ⟨pr, hpr, hKP⟩ := paired_get hqs hq
        have hi' := (List.getElem?_eq_some_iff.mp hpr).1
        refine ⟨q0, _, rfl, SqT.of (s6 _ _ hKP), rfl, _, _, rfl, _, _, rfl, rfl, rfl, _, rfl, _, hD, small1000 (by rw [List.length_take, List.length_map]; omega), ?_, ?_⟩
        · intro b' o' ho'
          rw [upd_ne (ne_of_none ho' nD)]
          exact s6 _ _ ho'
        · rw [upd_same, List.take_add_one (i := i), List.getElem?_map, hpr]
          rfl
      · rintro H6 ⟨s6, hD⟩
        rw [List.length_map, List.take_of_length_le (by rw [List.length_map]; omega)] at hD
        have hkl : k < (us'.map (·.2)).length := by
          rw [ldp]
          exact (List.getElem?_eq_some_iff.mp hpt).1
        have s46 := (s4.trans s5).trans s6
        have hnp : noLs (partsOf tj) = true := noLs_all fun d hd => noL_wf (parts_wf hwj d hd)
        have hnt : noL tw = true := noL_wf hwu
        have hcu : DpAll K (upd H6 D (.lst ((us'.map (·.2)).set k u))) ((us'.map (·.2)).set k u) ((partsOf tj).set k tw) := dpl_set k (dps_put hD (dpAllM (s5.trans s6) hdp) hnp) (dp_put hD (dpM (s5.trans s6) hu) hnt)
        have hdj : Dp K (upd H6 D (.lst ((us'.map (·.2)).set k u))) u0 tj := dp_put hD (dpM (s5.trans s6) hdu4) (noL_wf hwj)
        have s7 : Same H' (upd H6 D (.lst ((us'.map (·.2)).set k u))) := by
          intro b' o' ho'
          rw [upd_ne (ne_of_none (s5 _ _ ho') nD)]
          exact s6 _ _ (s5 _ _ ho')
        have hwp : ∀ q ∈ (partsOf tj).set k tw, wf (n' + m') q = true := fun q hq => by
          rcases List.mem_or_eq_of_mem_set hq with z | z
          · exact wf_mono (parts_wf hwj q z) (Nat.le_add_right _ _)
          · rw [z]
            exact wf_mono hwu (Nat.le_add_left _ _)
        refine ⟨_, rfl, _, rfl, _, rfl, D, _, k, k, rfl, rfl, hD, (ixN_nat8 hkl), _, rfl, _, rfl, u0, D, _, n', n' + m', tj, _, rfl, hdj, hwj, Nat.le_add_right _ _, upd_same, hcu, by rw [List.length_set], hwp, fun H8 u8 s8 hd8 => ?_⟩
        exact ⟨u8, _, _, _, _, rfl, (s4.trans s7).trans s8, hd8, wpT_ok (Nat.le_add_right _ _) hwj (by rw [List.length_set]) hwp⟩
    · rintro σ H' ⟨u, a1, a2, a3, m', rfl, s4, hu, _⟩
      rw [List.length_map, lts, Nat.sub_self] at hu
      refine ⟨_, rfl, q H' u ns (s13.trans s4) rfl ?_⟩
      exact hu
end
end Toy


namespace Toy
open PySem PySem.Spec L2 PyProof.Rows PySem.W
/-! ### all spots, as the law tells them -/
abbrev RowS := List Nat × PyData
def kidsG (f : PyData → List Nat → List RowS) (s : List Nat) : Nat → List PyData → List RowS
  | _, [] => []
  | i, p :: ps => f p (s ++ [i]) ++ kidsG f s (i + 1) ps
def allS : Nat → PyData → List Nat → List RowS
  | 0, _, _ => []
  | n + 1, t, s => (s, t) :: kidsG (allS n) s 0 (partsOf t)
theorem kidsG_snoc (f : PyData → List Nat → List RowS) (s : List Nat) : ∀ {ps : List PyData} {i j : Nat} {p : PyData}, ps[i]? = some p → kidsG f s j (ps.take (i + 1)) = kidsG f s j (ps.take i) ++ f p (s ++ [j + i])
  | q :: ps, 0, j, p, h => by
    cases h
    simp [kidsG]
  | q :: ps, i + 1, j, p, h => by
    rw [List.getElem?_cons_succ] at h
    rw [List.take_succ_cons, List.take_succ_cons, kidsG, kidsG, kidsG_snoc f s h, List.append_assoc, show j + 1 + i = j + (i + 1) by omega]
  | [], _, _, _, h => by simp at h
theorem kidsG_len {f : PyData → List Nat → List RowS} {g : PyData → Nat} (s : List Nat) (h : ∀ p s, (f p s).length ≤ g p) : ∀ (j : Nat) (ps : List PyData), (kidsG f s j ps).length ≤ (ps.map g).sum
  | _, [] => by simp [kidsG]
  | j, p :: ps => by
    rw [kidsG, List.length_append, List.map_cons, List.sum_cons]
    have h1 := h p (s ++ [j])
    have h2 := kidsG_len s h (j + 1) ps
    omega
theorem sum_take {α : Type} (g : α → Nat) : ∀ (ps : List α) (i : Nat), ((ps.take i).map g).sum ≤ (ps.map g).sum
  | [], _ => by simp
  | _ :: _, 0 => by simp
  | p :: ps, i + 1 => by
    have := sum_take g ps i
    rw [List.take_succ_cons, List.map_cons, List.map_cons, List.sum_cons, List.sum_cons]
    omega
theorem allS_len : ∀ (n : Nat) (t : PyData) (s : List Nat), (allS n t s).length ≤ szT n t
  | 0, _, _ => Nat.zero_le _
  | n + 1, t, s => by
    rw [allS, List.length_cons, szT]
    have := kidsG_len s (fun p s => allS_len n p s) 0 (partsOf t)
    omega
theorem BB_mono {n m : Nat} (h : n ≤ m) : BB n ≤ BB m := by
  induction h with
  | refl => exact Nat.le_refl _
  | step _ ih =>
    rw [BB]
    omega
theorem BB8 : BB 8 = 9841 := by decide +kernel
def RowA (K : PySem.W.Frag) (H : Hp) (v : V) (r : RowS) : Prop := ∃ (q a : Addr) (u : V), v = .ref q ∧ H q = some (.tup [.ref a, u]) ∧ SqT K H a (r.1.map natV) ∧ Dp K H u r.2
theorem RowA.same {K : PySem.W.Frag} {H H' : Hp} {v : V} {r : RowS} (h : RowA K H v r) (s : Same H H') : RowA K H' v r := by
  obtain ⟨q, a, u, h1, h2, h3, h4⟩ := h
  exact ⟨q, a, u, h1, s _ _ h2, same_seqT s h3, dpM s h4⟩
theorem catA_run {K : PySem.W.Frag} {H : Hp} {a b : Addr} {xs ys : List V} {Q : VK} (ha : SqT K H a xs) (hb : SqT K H b ys) (hl : xs.length + ys.length ≤ 1000) (q : ∀ H' c, Same H H' → SqT K H' c (xs ++ ys) → Q (.ref c) H') : rCatA K (.ref a) (.ref b) H Q :=
  ⟨a, b, xs, ys, rfl, rfl, ha, hb, few hl, fun e => q H b same_id (by rw [e]; exact hb), fun _ e => q H a same_id (by rw [e, List.append_nil]; exact ha), fun _ _ p np => q _ p (same_new same_id np) (SqT.of upd_same)⟩
abbrev sAS : Stmt := top 56
abbrev NAS : List Str := ["_law_term", "_law_spot", "_law_found", "_law_k", "_law_part"]
def spAS (K : PySem.W.Frag) (j : Nat) : Sp := fun vs H Q _ => ∃ (v : V) (a : Addr) (t : PyData) (ns : List Nat), vs = [v, .ref a] ∧ Dp K H v t ∧ wf j t = true ∧ j ≤ 8 ∧ SqT K H a (ns.map natV) ∧ ns.length + j ≤ 100 ∧
  ∀ H' L us, Same H H' → H L = none → H' L = some (.lst us) → Paired (RowA K H') us (allS j t ns) → Q (.ref L) H'
section
variable {P : Program} {w : World} {K : PySem.W.Frag} {mg : Str → Option Value} {base : Heap}
theorem scAS : FnScope NAS ["_law_term", "_law_spot"] (defScope sAS) := ⟨rfl, rfl, rfl, by decide +kernel, rfl, by decide +kernel, by decide +kernel⟩
theorem ok_as {f fP : Addr} {fd fdP : FuncData} (F : Fun K "_law_all_spots" "_law_all_spots" sAS f fd) (mF : mg "_law_all_spots" = some (.ref f)) (kF : PySem.W.keepIn K (.ref f) = true) (bF : Binds K fd ["_law_term", "_law_spot"] [])
    (GP : FnOk P w K mg base CX0 2 fP fdP ["_law_term"] (spParts K)) (mP : mg "_law_parts" = some (.ref fP)) (kP : PySem.W.keepIn K (.ref fP) = true) (bP : Binds K fdP ["_law_term"] []) (mEn : mg "enumerate" = none) :
    ∀ j : Nat, FnOk P w K mg base CX0 (j + 3) f fd ["_law_term", "_law_spot"] (spAS K j) := by
  intro j
  induction j with
  | zero => exact F.ok (k := 2) scAS (fun vs H Q E h => by obtain ⟨v, a, t, ns, _, _, h0, _⟩ := h; cases h0) (fun cdv A outer s H vs Q E hr h => by obtain ⟨v, a, t, ns, _, _, h0, _⟩ := h; cases h0)
  | succ j ih =>
    refine F.ok (k := j + 3) scAS (fun vs H Q E h => ?_) (fun cdv A outer s H vs Q E hr h => ?_)
    · obtain ⟨v, a, t, ns, rfl, _⟩ := h
      rfl
    · obtain ⟨v, a, t, ns, rfl, hv, hw, hj8, ha, hlen, q⟩ := h
      have hr2 : Room 2 (A.deeper (PyProof.Rows.envOfC "_law_all_spots" (defScope sAS) s.heap.objs.size f cdv)) := hr.mono (by omega)
      refine ⟨_, pss_cons (ps_set (i := 2) scAS.nd rfl (Or.inl rfl) (pe_lst (pa_cons (pe_tup (pa_cons (pv 1) (pa_cons (pv 0) pa_nil))) pa_nil)))
        (pss_cons (ps_for PassesOwn.never rfl (pi_enum (by rfl) mEn (pa_cons (pe_call GP hr2 (by rfl) mP kP bP .nil pass0 (pa_cons (pv 0) pa_nil)) pa_nil)) (pg_tup (by rfl) (pgs_cons (pg_name (i := 3) scAS.nd rfl (.inl rfl)) (pgs_cons (pg_name (i := 4) scAS.nd rfl (.inl rfl)) pgs_nil)))
          (pss_one (ps_set (i := 2) scAS.nd rfl (Or.inl rfl) (pe_op op_cat (pv 2) (pe_call ih hr (by rfl) mF kF bF .nil pass0 (pa_cons (pv 4) (pa_cons (pe_op op_catA (pv 1) (pe_tup (pa_cons (pv 3) pa_nil))) pa_nil)))))))
        (pss_one (ps_ret (pv 2)))), ?_⟩
      have hsz : 1 + ((partsOf t).map (szT j)).sum ≤ 9841 := by
        have h1 := szT_le hw
        have h2 := BB_mono hj8
        rw [BB8] at h2
        rw [szT] at h1
        omega
      have hlk : ∀ i, (kidsG (allS j) ns 0 ((partsOf t).take i)).length ≤ ((partsOf t).map (szT j)).sum := by
        intro i
        exact Nat.le_trans (kidsG_len ns (fun p s => allS_len j p s) 0 _) (sum_take _ _ _)
      refine ⟨_, rfl, _, rfl, few (by show 2 ≤ 1000; decide), fun T0 nT0 => ⟨few (by show 1 ≤ 1000; decide), fun L nL => ?_⟩⟩
      have s1 : Same H (upd (upd H T0 (.tup [.ref a, v])) L (.lst [.ref T0])) := same_new (same_new same_id nT0) nL
      have nL0 : H L = none := fresh_of (same_new same_id nT0) nL
      have hL : (upd (upd H T0 (.tup [.ref a, v])) L (.lst [.ref T0])) L = some (.lst [.ref T0]) := upd_same
      have hT0 : (upd (upd H T0 (.tup [.ref a, v])) L (.lst [.ref T0])) T0 = some (.tup [.ref a, v]) := (upd_ne (ne_of_none upd_same nL)).trans upd_same
      generalize upd (upd H T0 (.tup [.ref a, v])) L (.lst [.ref T0]) = H1 at s1 hL hT0 ⊢
      refine ⟨_, rfl, v, j, t, rfl, dpM s1 hv, hw, fun H2 Lp us2 s2 nL2 hL2 hps l2 => ⟨Lp, us2, rfl, SqL.of hL2, ?_⟩⟩
      have s12 := s1.trans s2
      refine for_it (walk_enum (xs := us2)) (fun i σ H' => ∃ (Lf : Addr) (us : List V) (b c : Option V), σ = [some v, some (.ref a), some (.ref Lf), b, c] ∧ Same H2 H' ∧ H Lf = none ∧ H' Lf = some (.lst us) ∧ Paired (RowA K H') us ((ns, t) :: kidsG (allS j) ns 0 ((partsOf t).take i)))
        ⟨L, [.ref T0], none, none, rfl, same_id, nL0, s2 _ _ hL, .cons ⟨T0, a, v, rfl, s2 _ _ hT0, same_seqT s12 ha, dpM s12 hv⟩ .nil⟩ ?_ ?_ ?_
      · rintro i σ H' _ ⟨_, _, _, _, _, s3, _⟩
        exact SqL.of (s3 _ _ hL2)
      · rintro i x σ H3 H4 hi ⟨Lf, us, b, c, rfl, s3, nLf, hLf, hrows⟩ ⟨T, xi, yi, rfl, nT, rfl, ex, ey⟩
        cases ex
        obtain ⟨p, hp, hyp⟩ := dpl_get hps ey
        have s4 : Same H3 (upd H3 T (.tup [.int (i : Nat), yi])) := same_new same_id nT
        refine ⟨T, _, rfl, SqT.of upd_same, rfl, _, _, rfl, _, _, rfl, rfl, ?_⟩
        generalize upd H3 T (.tup [.int (i : Nat), yi]) = H4 at s4 ⊢
        have s34 := s3.trans s4
        refine ⟨_, rfl, _, rfl, _, rfl, _, rfl, few (by show 1 ≤ 1000; decide), fun T2 nT2 => ?_⟩
        have s5 : Same H4 (upd H4 T2 (.tup [.int (i : Nat)])) := same_new same_id nT2
        have hT2 : SqT K (upd H4 T2 (.tup [.int (i : Nat)])) T2 [natV i] := SqT.of upd_same
        generalize upd H4 T2 (.tup [.int (i : Nat)]) = H5 at s5 hT2 ⊢
        have s05 := (s12.trans s34).trans s5
        refine catA_run (same_seqT s05 ha) hT2 (by rw [List.length_map, List.length_singleton]; omega) fun H6 cc s6 hcc => ?_
        refine ⟨yi, cc, p, ns ++ [i], rfl, dpM (((s2.trans s34).trans s5).trans s6) hyp, parts_wf hw p (List.mem_of_getElem? hp), by omega, by rw [List.map_append]; exact hcc, by rw [List.length_append, List.length_singleton]; omega, fun H7 L7 us7 s7 nL7 hL7 hr7 => ?_⟩
        have s37 := ((s4.trans s5).trans s6).trans s7
        have e7 := kidsG_snoc (allS j) ns (j := 0) hp
        rw [Nat.zero_add] at e7
        have lt1 := hlk (i + 1)
        rw [e7, List.length_append] at lt1
        have lu := Paired.length hrows
        have lu7 := Paired.length hr7
        rw [List.length_cons] at lu
        refine ⟨Lf, L7, us, us7, rfl, rfl, s37 _ _ hLf, hL7, Nat.le_trans (show us.length + us7.length ≤ 20000 by omega) (by decide), fun R nR => ?_⟩
        have s8 : Same H7 (upd H7 R (.lst (us ++ us7))) := same_new same_id nR
        refine ⟨R, us ++ us7, _, _, rfl, (s3.trans s37).trans s8, fresh_of ((s12.trans s3).trans s37) nR, upd_same, ?_⟩
        rw [e7]
        exact paired_app (xs := us) (ys := (ns, t) :: kidsG (allS j) ns 0 ((partsOf t).take i)) (L2.Paired.mapP hrows fun _ _ z => z.same (s37.trans s8)) (L2.Paired.mapP hr7 fun _ _ z => z.same s8)
      · rintro σ H' ⟨Lf, us, b, c, rfl, s3, nLf, hLf, hrows⟩
        rw [dpl_len hps, List.take_length] at hrows
        exact ⟨_, rfl, q H' Lf us (s12.trans s3) nLf hLf hrows⟩
end
end Toy


/-! list(enumerate(x)), x anything that is drawn from -/
namespace PySem
open Sem (wp)
abbrev EnumAt (h : Heap) (z it T : Addr) (c : Int) (b : Bool) (v : Value) : Prop := h.get? z = some { cls := .type "enumerate", dict := none, data := .fields #[rawInt T, .bool b, .ref it, rawInt c, .none, v], slots := #[] }
section
variable {prog : Program} {w : World} {A : Around} {E : Value → Shared → Prop} {s : Shared} {z it T : Addr} {fp : List Addr} {n i : Nat} {P : Nat → Value → Prop} {St : Nat → Heap → Prop} {c : Int} {b0 : Bool} {oT : Obj} {v0 : Value}
theorem owned_livesE {Q : Bool → Shared → Prop} (hz : EnumAt s.heap z it T c b0 v0) (hT : s.heap.get? T = some oT)
    (h : ∀ h', EnumAt h' z it T c true v0 → ButAt z s.heap h' → Q false { s with heap := h' }) : wpAny (model prog w) A (Builtin.SmallTypes.ownedTupleIsFree (.ref z)) Q E s := by
  unfold Builtin.SmallTypes.ownedTupleIsFree
  refine wpAny_bind (wpAny_field hz rfl (x := rawInt T) rfl ?_)
  show wpAny _ _ (loadIfAlive ((T : Int)).toNat >>= _) _ _ _
  rw [Int.toNat_natCast]
  refine wpAny_bind (alive_rule hT ?_)
  simp only [Option.isNone_some, Bool.false_eq_true, if_false]
  refine wpAny_bind ?_
  refine wpAny_field hz rfl (x := .bool b0) rfl ?_
  cases b0 with
  | true => exact wpAny_pure (h s.heap hz ⟨fun _ _ _ e => e, rfl⟩)
  | false =>
    show wpAny _ _ (setField (.ref z) 1 (.bool true) >>= _) _ _ _
    refine wpAny_bind (wpAny_setField_rec hz (by simp) fun h' hz' hs => wpAny_pure (h h' hz' ⟨fun c o n e => hs.extBut c o n e, hs.1⟩))
theorem enumD_more {Q : Value → Shared → Prop} (D1 : Draws prog w A it fp n P St) (hz : EnumAt s.heap z it T c b0 v0) (hTz : s.heap.get? T = some oT) (nTz : T ≠ z) (nTi : T ≠ it) (nz : z ≠ it) (zf : z ∉ fp) (st : St i s.heap) (hi : i < n)
    (hQ : ∀ x h' tk, P i x → EnumAt h' z it T (c + 1) true v0 → St (i + 1) h' → h'.get? s.heap.objs.size = some { cls := .type "tuple", data := .seq #[.int c tk, x] } → h'.objs.size = s.heap.objs.size + 1 →
      (∀ a o, a ≠ z → a ≠ it → s.heap.get? a = some o → h'.get? a = some o) → Q (.ref s.heap.objs.size) { s with heap := h', toks := tk + 1 }) :
    wpAny (model prog w) A (Builtin.«enumerate.__next__» ⟨[.ref z], []⟩) (fun fin s' => ∃ v, fin = .done (.ret v) ∧ Q v s') E s := by
  obtain ⟨hp, g, d, tk0, os⟩ := s
  show wpAny _ _ (field (.ref z) 2 >>= _) _ _ _
  refine wpAny_bind (wpAny_field hz rfl (x := .ref it) rfl ?_)
  refine wpAny_bind (D1.item i _ _ _ hi st fun x g1 tk px j1 b1 => ?_)
  replace b1 : Heap.SameBut it hp g1 := b1
  have z1 : EnumAt g1 z it T c b0 v0 := (b1.2 z nz).trans hz
  show wpAny _ _ (field (.ref z) 3 >>= _) _ _ ⟨g1, g, d, tk, os⟩
  refine wpAny_bind (wpAny_field z1 rfl (x := rawInt c) rfl ?_)
  show wpAny _ _ (field (.ref z) 4 >>= _) _ _ ⟨g1, g, d, tk, os⟩
  refine wpAny_bind (wpAny_field z1 rfl (x := .none) rfl ?_)
  show wpAny _ _ (mkInt c >>= _) _ _ ⟨g1, g, d, tk, os⟩
  refine wpAny_bind (wpAny_mkInt ?_)
  show wpAny _ _ (setField (.ref z) 3 (rawInt (c + 1)) >>= _) _ _ ⟨g1, g, d, tk + 1, os⟩
  refine wpAny_bind (wpAny_setField_rec z1 (by simp) fun g2 z2 b2 => ?_)
  replace b2 : Heap.SameBut z g1 g2 := b2
  replace z2 : EnumAt g2 z it T (c + 1) b0 v0 := z2
  show wpAny _ _ (setField (.ref z) 4 .none >>= _) _ _ ⟨g2, g, d, tk + 1, os⟩
  refine wpAny_bind (wpAny_setField_rec z2 (by simp) fun g3 z3 b3 => ?_)
  replace b3 : Heap.SameBut z g2 g3 := b3
  replace z3 : EnumAt g3 z it T (c + 1) b0 v0 := z3
  show wpAny _ _ (newTuple [.int c tk, x] >>= _) _ _ ⟨g3, g, d, tk + 1, os⟩
  refine wpAny_bind (wpAny_newTuple ?_)
  have sz3 : g3.objs.size = hp.objs.size := by rw [b3.1, b2.1, b1.1]
  have lz : z < hp.objs.size := Heap.lt_size hz
  have up3 : ∀ a o, a ≠ z → a ≠ it → hp.get? a = some o → g3.get? a = some o := fun a o n1 n2 e => b3.extBut a o n1 (b2.extBut a o n1 (b1.extBut a o n2 e))
  have push : ∀ a o, g3.get? a = some o → (g3.push { cls := .type "tuple", data := .seq #[.int c tk, x] }).get? a = some o := fun a o e => Heap.get?_push_of_some _ e
  have new : (g3.push { cls := .type "tuple", data := .seq #[.int c tk, x] }).get? g3.objs.size = some { cls := .type "tuple", data := .seq #[.int c tk, x] } := Heap.get?_push_size _ rfl
  have j3 : St (i + 1) (g3.push { cls := .type "tuple", data := .seq #[.int c tk, x] }) := D1.frame _ _ _ j1 fun a ha o e => by
    have na : a ≠ z := fun q => zf (q ▸ ha)
    exact push a o (b3.extBut a o na (b2.extBut a o na e))
  show wpAny _ _ (Builtin.SmallTypes.ownedTupleIsFree (.ref z) >>= _) _ _ ⟨g3.push { cls := .type "tuple", data := .seq #[.int c tk, x] }, g, d, tk + 1, os⟩
  refine wpAny_bind (owned_livesE (push _ _ z3) (push _ _ (up3 _ _ nTz nTi hTz)) fun g4 z4 b4 => ?_)
  simp only [Bool.false_eq_true, if_false]
  refine wpAny_pure ⟨_, rfl, ?_⟩
  replace b4 : ButAt z (g3.push { cls := .type "tuple", data := .seq #[.int c tk, x] }) g4 := b4
  show Q (.ref g3.objs.size) ⟨g4, g, d, tk + 1, os⟩
  rw [sz3] at new ⊢
  refine hQ x g4 tk px z4 (D1.frame _ _ _ j3 fun a ha o e => b4.1 a o (fun q => zf (q ▸ ha)) e) (b4.1 _ _ (Nat.ne_of_gt lz) new) (by rw [b4.2, Heap.size_push, sz3]) fun a o n1 n2 e => b4.1 a o n1 (push a o (up3 a o n1 n2 e))
theorem enumD_more_end {Q : Option Value → Shared → Prop} (D1 : Draws prog w A.in1 it fp n P St) (hz : EnumAt s.heap z it T c b0 v0) (st : St n s.heap)
    (hQ : ∀ h', Heap.ExtBut it s.heap h' → Q none { s with heap := h' }) : wpAny (model prog w) A (pyNext (.ref z)) Q E s := by
  have ty : s.TypeIs (.ref z) "enumerate" := ⟨_, hz, rfl⟩
  unfold pyNext
  refine wpAny_bind (wpAny_attempt (wpAny_callSpecial?_slot (name := Str.ofString "__next__") ty F.slot_enumerate_next (wpAny_call_entry F.slot_enumerate_next ty F.entry_enumerate_next ?_ (F.args_enumerate_next_1 _))))
  show wpAny _ _ (field (.ref z) 2 >>= _) _ _ _
  refine wpAny_bind (wpAny_field hz rfl (x := .ref it) rfl ?_)
  refine wpAny_bind (D1.done _ _ _ st fun h' x he' hx' => ?_)
  obtain ⟨o, ho, hc⟩ := hx'
  exact wpAny_bind (wpAny_isInstance (T := "StopIteration") (b := true) ⟨o, ho, hc⟩ isSubtype_stop (wpAny_pure (hQ _ he')))
theorem pyNextE_more {Q : Option Value → Shared → Prop} (D1 : Draws prog w A.in1 it fp n P St) (hz : EnumAt s.heap z it T c b0 v0) (hTz : s.heap.get? T = some oT) (nTz : T ≠ z) (nTi : T ≠ it) (nz : z ≠ it) (zf : z ∉ fp) (st : St i s.heap) (hi : i < n)
    (hQ : ∀ x h' tk, P i x → EnumAt h' z it T (c + 1) true v0 → St (i + 1) h' → h'.get? s.heap.objs.size = some { cls := .type "tuple", data := .seq #[.int c tk, x] } → h'.objs.size = s.heap.objs.size + 1 →
      (∀ a o, a ≠ z → a ≠ it → s.heap.get? a = some o → h'.get? a = some o) → Q (some (.ref s.heap.objs.size)) { s with heap := h', toks := tk + 1 }) :
    wpAny (model prog w) A (pyNext (.ref z)) Q E s := by
  have ty : s.TypeIs (.ref z) "enumerate" := ⟨_, hz, rfl⟩
  unfold pyNext
  refine wpAny_bind (wpAny_attempt (wpAny_callSpecial?_slot (name := Str.ofString "__next__") ty F.slot_enumerate_next (wpAny_call_entry F.slot_enumerate_next ty F.entry_enumerate_next ?_ (F.args_enumerate_next_1 _))))
  exact enumD_more D1 hz hTz nTz nTi nz zf st hi fun x h' tk a1 a2 a3 a4 a5 a6 => wpAny_pure (hQ x h' tk a1 a2 a3 a4 a5 a6)
end
/-- the enumerate as it stands ahead of a pull -/
structure EnSt (h : Heap) (z it : Addr) (St : Nat → Heap → Prop) (i : Nat) : Prop where
  go : (∃ v, IsEnum h z it (i : Int) v) ∨ ∃ T b v oT, EnumAt h z it T (i : Int) b v ∧ h.get? T = some oT ∧ T ≠ z ∧ T ≠ it
  j : St i h
section
variable {prog : Program} {w : World} {A : Around} {E : Value → Shared → Prop} {s : Shared} {z it : Addr} {fp : List Addr} {n i : Nat} {P : Nat → Value → Prop} {St : Nat → Heap → Prop}
theorem eD_lts {B : Around} (D1 : Draws prog w B it fp n P St) (st : EnSt s.heap z it St i) : z < s.heap.objs.size ∧ it < s.heap.objs.size := by
  obtain ⟨go, j⟩ := st
  obtain ⟨o1, e1⟩ := D1.live _ _ j
  refine ⟨?_, Heap.lt_size e1⟩
  rcases go with ⟨v, q⟩ | ⟨T, b, v, oT, q, _⟩
  · exact Heap.lt_size q
  · exact Heap.lt_size q
abbrev IdxP (j : Nat) (v : Value) : Prop := ∃ t, v = .int (j : Int) t
theorem eD_pull {Q : Option Value → Shared → Prop} (D1 : Draws prog w A.in1 it fp n P St) (nz : z ≠ it) (zf : z ∉ fp) (st : EnSt s.heap z it St i) (hi : i < n)
    (hQ : ∀ k x h' tk, IdxP i k → P i x → EnSt h' z it St (i + 1) → IsPair h' s.heap.objs.size k x → h'.objs.size = s.heap.objs.size + 1 → (∀ a o, a ≠ z → a ≠ it → s.heap.get? a = some o → h'.get? a = some o) → Q (some (.ref s.heap.objs.size)) { s with heap := h', toks := tk }) :
    wpAny (model prog w) A (pyNext (.ref z)) Q E s := by
  obtain ⟨lz, li⟩ := eD_lts D1 st
  obtain ⟨go, j⟩ := st
  have ec : (i : Int) + 1 = ((i + 1 : Nat) : Int) := by omega
  rcases go with ⟨v, q⟩ | ⟨T, b, v, oT, q, hT, n1, n2⟩
  · refine wpAny_pyNext_enum_itemC D1 q j hi nz zf fun x h' tk p a1 a2 a3 a4 kp => ?_
    rw [ec] at a1
    exact hQ _ x h' _ ⟨tk, rfl⟩ p ⟨.inr ⟨s.heap.objs.size, false, x, _, a1, a3, Nat.ne_of_gt lz, Nat.ne_of_gt li⟩, a2⟩ a3 a4 kp
  · refine pyNextE_more D1 q hT n1 n2 nz zf j hi fun x h' tk p a1 a2 a3 a4 kp => ?_
    rw [ec] at a1
    exact hQ _ x h' _ ⟨tk, rfl⟩ p ⟨.inr ⟨T, true, v, oT, a1, kp _ _ n1 n2 hT, n1, n2⟩, a2⟩ a3 a4 kp
theorem eD_stop {Q : Option Value → Shared → Prop} (D1 : Draws prog w A.in1 it fp n P St) (nz : z ≠ it) (st : EnSt s.heap z it St n)
    (hQ : ∀ h', (∀ a o, a ≠ it → s.heap.get? a = some o → h'.get? a = some o) → Q none { s with heap := h' }) : wpAny (model prog w) A (pyNext (.ref z)) Q E s := by
  obtain ⟨go, j⟩ := st
  rcases go with ⟨v, q⟩ | ⟨T, b, v, oT, q, hT, n1, n2⟩
  · exact wpAny_pyNext_enum_endD D1 q j fun h' x => hQ h' fun a o n e => x a o n e
  · exact enumD_more_end D1 q j fun h' x => hQ h' fun a o n e => x a o n e
theorem EnSt.keep {B : Around} {h h' : Heap} {L : Addr} (D1 : Draws prog w B it fp n P St) (st : EnSt h z it St i) (nz : L ≠ z) (nf : L ∉ fp) (k : ∀ a o, a ≠ L → h.get? a = some o → h'.get? a = some o) (hS : ∃ o, h'.get? L = some o) : EnSt h' z it St i := by
  obtain ⟨go, j⟩ := st
  refine ⟨?_, D1.frame _ _ _ j fun a ha o e => k a o (fun q => nf (q ▸ ha)) e⟩
  rcases go with ⟨v, q⟩ | ⟨T, b, v, oT, q, hT, n1⟩
  · exact .inl ⟨v, k _ _ (Ne.symm nz) q⟩
  · by_cases e : T = L
    · obtain ⟨o, ho⟩ := hS
      exact .inr ⟨T, b, v, o, k _ _ (Ne.symm nz) q, e ▸ ho, n1⟩
    · exact .inr ⟨T, b, v, oT, k _ _ (Ne.symm nz) q, k _ _ e hT, n1⟩
theorem eD_loop {R : Result → Shared → Prop} (D1 : Draws prog w A.in1.in1 it fp n P St) (nzi : z ≠ it) (zf : z ∉ fp) (hit : it ∈ fp) (hn : n ≤ sizeLine) (L : Addr) (m1 : L ≠ z) (nf : L ∉ fp) (res : Value) (n0 : Nat) :
    ∀ (k i : Nat) (s : Shared) (acc : Array Value) (c : Nat), n - i = k → i ≤ n → EnSt s.heap z it St i → s.heap.get? L = some { cls := .type "list", dict := none, data := .seq acc c, slots := #[] } → n0 ≤ s.heap.objs.size → Got s.heap n0 [z, it, L] IdxP P acc i →
    (∀ h' tk acc' c', (∀ a o, a ∉ [z, it, L] → s.heap.get? a = some o → h'.get? a = some o) → h'.get? L = some { cls := .type "list", dict := none, data := .seq acc' c', slots := #[] } → Got h' n0 [z, it, L] IdxP P acc' n → R (.ok (.ret res)) { s with heap := h', toks := tk }) →
    codeAny (model prog w) A (.builtin "list.extend.loop" ⟨[.ref L, .ref z, res], []⟩) R s := by
  have m2 : L ≠ it := fun e => nf (e ▸ hit)
  have three : ∀ a : Addr, a ∉ [z, it, L] → a ≠ z ∧ a ≠ it ∧ a ≠ L := fun a ha => by
    simpa only [List.mem_cons, List.not_mem_nil, or_false, not_or] using ha
  intro k
  induction k with
  | zero =>
    intro i s acc c hk hi st hS hn0 got hR
    obtain rfl : i = n := by omega
    refine codeAny_builtin F.entry_extend_loop ?_
    rw [Around.under_plainId F.plain_extend_loop _]
    show wpAny _ A.in1 (pyNext (.ref z) >>= _) _ _ s
    refine wpAny_bind (eD_stop D1 nzi st fun h' kp => ?_)
    have kp' : ∀ a o, a ∉ [z, it, L] → s.heap.get? a = some o → h'.get? a = some o := fun a o ha e => kp a o (three a ha).2.1 e
    exact wpAny_pure (hR h' s.toks acc c kp' (kp _ _ m2 hS) (got.keep kp'))
  | succ k ih =>
    intro i s acc c hk hi st hS hn0 got hR
    have ix : i < n := by omega
    refine codeAny_builtin F.entry_extend_loop ?_
    rw [Around.under_plainId F.plain_extend_loop _]
    show wpAny _ A.in1 (pyNext (.ref z) >>= _) _ _ s
    obtain ⟨lz, li⟩ := eD_lts D1 st
    have lS := Heap.lt_size hS
    refine wpAny_bind (eD_pull D1 nzi zf st ix fun x y h' tk px py st' hT size kp => ?_)
    have kp' : ∀ a o, a ∉ [z, it, L] → s.heap.get? a = some o → h'.get? a = some o := fun a o ha e => kp a o (three a ha).1 (three a ha).2.1 e
    have hS' := kp _ _ m1 m2 hS
    have nT : s.heap.objs.size ∉ [z, it, L] := by
      simp only [List.mem_cons, List.not_mem_nil, or_false, not_or]
      exact ⟨Nat.ne_of_gt lz, Nat.ne_of_gt li, Nat.ne_of_gt lS⟩
    have got' := (got.keep kp').push nT hn0 px py hT got.low
    show wpAny _ A.in1 (updateSeq L (·.push (.ref s.heap.objs.size)) >>= _) _ _ _
    refine wpAny_bind ?_
    refine wpAny_updateSeq hS' rfl (wpAny_pure ⟨plainId_quiet F.plain_extend_loop _, ?_⟩) (by rw [got.1]; omega) (by show (acc.push (.ref s.heap.objs.size)).size ≤ sizeLine + 1; rw [Array.size_push, got.1]; omega)
    have up : ∀ b o, b ≠ L → h'.get? b = some o → (h'.update L (Obj.mapSeq (·.push (.ref s.heap.objs.size)))).get? b = some o := fun b o hb e => (Heap.get?_update_other _ _ (fun h : L = b => hb h.symm)).trans e
    refine ih (i + 1) { s with heap := h'.update L (Obj.mapSeq (·.push (.ref s.heap.objs.size))), toks := tk } (acc.push (.ref s.heap.objs.size)) _ (by omega) ix (st'.keep D1 m1 nf up ⟨_, Heap.get?_update_self _ hS' rfl⟩) (Heap.get?_update_self _ hS' rfl) (Nat.le_trans hn0 (Nat.le_of_lt (Heap.lt_size (up _ _ (Nat.ne_of_gt lS) hT)))) (got'.keep fun b o hb e => up b o (three b hb).2.2 e) fun h'' tk'' acc'' c'' kp'' hS'' got'' => ?_
    exact hR h'' tk'' acc'' c'' (fun b o hb e => kp'' b o hb (up b o (three b hb).2.2 (kp' b o hb e))) hS'' got''
theorem enum_no_len : typeLookup (.type "enumerate") "__len__" = pure none := by rw [typeLookup_type, builtinLookup_eq_fast]; kernel_rfl
theorem enum_no_hint : typeLookup (.type "enumerate") "__length_hint__" = pure none := by rw [typeLookup_type, builtinLookup_eq_fast]; kernel_rfl
theorem extendE {R : Result → Shared → Prop} (D1 : Draws prog w A.in1.in1 it fp n P St) (nzi : z ≠ it) (zf : z ∉ fp) (hit : it ∈ fp) (hn : n ≤ sizeLine) (hz0 : IsEnum s.heap z it ((0 : Nat) : Int) .none) (st : EnSt s.heap z it St 0) (L : Addr) (m1 : L ≠ z) (nf : L ∉ fp) (c0 : Nat)
    (hS : s.heap.get? L = some { cls := .type "list", data := .seq #[] c0 }) (n0 : Nat) (hn0 : n0 ≤ s.heap.objs.size) (res : Value)
    (hR : ∀ h' tk acc c', (∀ a o, a ∉ [z, it, L] → s.heap.get? a = some o → h'.get? a = some o) → h'.get? L = some { cls := .type "list", dict := none, data := .seq acc c', slots := #[] } → Got h' n0 [z, it, L] IdxP P acc n → R (.ok (.ret res)) { s with heap := h', toks := tk }) :
    wpAny (model prog w) A.in1 (Builtin.List.listExtendWith (.ref L) (.ref z) res)
      (fun fin s' => match fin with | .done f => R (.ok f) s' | .again c' => c'.quiet = true ∧ codeAny (model prog w) A c' R s') (fun e s' => R (.error e) s') s := by
  have ty : s.TypeIs (.ref z) "enumerate" := ⟨_, hz0, rfl⟩
  unfold Builtin.List.listExtendWith
  refine wpAny_bind (wpAny_typeOf ty ?_)
  have n1 : Builtin.List.listSameRef (.ref L) (.ref z) = false := by simp [Builtin.List.listSameRef, m1]
  have n2 : (Value.type "enumerate" == Value.type "list") = false := by decide
  have n3 : (Value.type "enumerate" == Value.type "tuple") = false := by decide
  simp only [n1, n2, n3, Bool.or_false, Bool.false_eq_true, if_false]
  refine wpAny_bind (wpAny_pyIter_enum hz0 ?_)
  refine wpAny_bind (wpAny_holding ?_)
  unfold Builtin.List.listLengthHint
  refine wpAny_bind (wpAny_specialOf ty enum_no_len ?_)
  show wpAny _ A.in1 (specialOf (Value.ref z) (Str.ofString "__length_hint__") >>= _) _ _ _
  refine wpAny_bind (wpAny_specialOf ty enum_no_hint ?_)
  refine wpAny_pure ?_
  show wpAny _ A.in1 (rule "list.extend.makes-room" >>= fun _ => Builtin.List.listTouch (.ref L) >>= fun _ =>
    again (.builtin "list.extend.loop" ⟨[.ref L, .ref z, res], []⟩)) _ _ _
  refine wpAny_bind (wpAny_rule ?_)
  refine wpAny_bind ?_
  show wpAny _ A.in1 (updateSeq L (·.push .none) >>= fun _ => updateSeq L (·.pop)) _ _ _
  refine wpAny_bind (wpAny_updateSeq hS rfl ?_)
  have at2 := Heap.get?_update_self (Obj.mapSeq (·.push Value.none)) hS rfl
  refine wpAny_updateSeq at2 rfl ?_
  have at3 := Heap.get?_update_self (Obj.mapSeq (·.pop)) at2 rfl
  have oth : ∀ b o, b ≠ L → s.heap.get? b = some o → ((s.heap.update L (Obj.mapSeq (·.push Value.none))).update L (Obj.mapSeq (·.pop))).get? b = some o :=
    fun b o hb e => (Heap.get?_update_other _ _ (Ne.symm hb)).trans ((Heap.get?_update_other _ _ (Ne.symm hb)).trans e)
  have big : s.heap.objs.size ≤ ((s.heap.update L (Obj.mapSeq (·.push Value.none))).update L (Obj.mapSeq (·.pop))).objs.size := by
    simp [Heap.size_update]
  refine wpAny_pure ⟨plainId_quiet F.plain_extend_loop _, eD_loop (i := 0) (s := { s with heap := ((s.heap.update L (Obj.mapSeq (·.push Value.none))).update L (Obj.mapSeq (·.pop))) })
    D1 nzi zf hit hn L m1 nf res n0 n #[] _ rfl (Nat.zero_le _) (st.keep D1 m1 nf oth ⟨_, at3⟩) at3 (Nat.le_trans hn0 big) ⟨rfl, (fun j v e => by simp at e), fun j k T U _ e => by simp at e⟩ fun h' tk acc' c' kp hS got => ?_⟩
  exact hR h' tk acc' c' (fun c o hc e => kp c o hc (oth c o (fun q => hc (by simp [q])) e)) hS got
theorem list_initE {R : Result → Shared → Prop} (D1 : Draws prog w A.in1.in1 it fp n P St) (nzi : z ≠ it) (zf : z ∉ fp) (hit : it ∈ fp) (hn : n ≤ sizeLine) (hz0 : IsEnum s.heap z it ((0 : Nat) : Int) .none) (st : EnSt s.heap z it St 0) (L : Addr) (m1 : L ≠ z) (nf : L ∉ fp)
    (hS : s.heap.get? L = some { cls := .type "list", data := .seq #[] }) (n0 : Nat) (hn0 : n0 ≤ s.heap.objs.size)
    (hR : ∀ h' tk acc c', (∀ a o, a ∉ [z, it, L] → s.heap.get? a = some o → h'.get? a = some o) → h'.get? L = some { cls := .type "list", dict := none, data := .seq acc c', slots := #[] } → Got h' n0 [z, it, L] IdxP P acc n → R (.ok (.ret .none)) { s with heap := h', toks := tk }) :
    wpAny (model prog w) A.in1 (Builtin.«list.__init__» ⟨[.ref L, .ref z], []⟩)
      (fun fin s' => match fin with | .done f => R (.ok f) s' | .again c' => c'.quiet = true ∧ codeAny (model prog w) A c' R s') (fun e s' => R (.error e) s') s := by
  show wpAny _ _ (do let old ← Builtin.List.listItems (.ref L); Builtin.List.listUpdate (.ref L) (fun _ => #[]); letGo old.toList.reverse; Builtin.List.listExtendWith (.ref L) (.ref z) .none) _ _ s
  refine wpAny_bind ?_
  unfold Builtin.List.listItems
  refine wpAny_bind (wpAny_seqItems hS rfl (wpAny_pure ?_))
  show wpAny _ _ (updateSeq L (fun _ => #[]) >>= fun _ => letGo (#[] : Array Value).toList.reverse >>= fun _ => Builtin.List.listExtendWith (.ref L) (.ref z) .none) _ _ s
  refine wpAny_bind (wpAny_updateSeq hS rfl ?_)
  have at2 := Heap.get?_update_self (Obj.mapSeq (fun _ => (#[] : Array Value))) hS rfl
  have oth : ∀ b o, b ≠ L → s.heap.get? b = some o → (s.heap.update L (Obj.mapSeq (fun _ => (#[] : Array Value)))).get? b = some o :=
    fun b o hb e => (Heap.get?_update_other _ _ (Ne.symm hb)).trans e
  refine wpAny_bind (wpAny_letGo ?_)
  have big : s.heap.objs.size ≤ (s.heap.update L (Obj.mapSeq (fun _ => (#[] : Array Value)))).objs.size := by
    simp [Heap.size_update]
  refine extendE (s := { s with heap := s.heap.update L (Obj.mapSeq (fun _ => (#[] : Array Value))) }) D1 nzi zf hit hn (oth z _ m1.symm hz0) (st.keep D1 m1 nf oth ⟨_, at2⟩) L m1 nf _ at2 n0 (Nat.le_trans hn0 big) .none fun h' tk acc c' kp hS' got => ?_
  exact hR h' tk acc c' (fun c o hc e => kp c o hc (oth c o (fun q => hc (by simp [q])) e)) hS' got
theorem call_listE {Q : Value → Shared → Prop} (D1 : Draws prog w A.in1.in1.in1 it fp n P St) (nzi : z ≠ it) (zf : z ∉ fp) (hit : it ∈ fp) (hn : n ≤ sizeLine) (hz0 : IsEnum s.heap z it ((0 : Nat) : Int) .none) (st : EnSt s.heap z it St 0) (far : ∀ b ∈ fp, b < s.heap.objs.size)
    (hQ : ∀ h' tk acc c', (∀ a o, a ≠ z → a ≠ it → s.heap.get? a = some o → h'.get? a = some o) → h'.get? s.heap.objs.size = some { cls := .type "list", dict := none, data := .seq acc c', slots := #[] } → Got h' s.heap.objs.size [z, it, s.heap.objs.size] IdxP P acc n → Q (.ref s.heap.objs.size) { s with heap := h', toks := tk }) :
    wpAny (model prog w) A (call (.type "list") [.ref z]) Q E s := by
  have old : ∀ a o, s.heap.get? a = some o → a ≠ s.heap.objs.size := fun a o e => Nat.ne_of_lt (Heap.lt_size e)
  have m1 : s.heap.objs.size ≠ z := (old _ _ hz0).symm
  have nf : s.heap.objs.size ∉ fp := fun h => Nat.lt_irrefl _ (far _ h)
  refine callType_codes (Q₁ := fun obj s₁ => obj = .ref s.heap.objs.size ∧ s₁ = { s with heap := s.heap.push { cls := .type "list", data := .seq #[] } }) F.called_list (F.typeCall_list_1 _) F.entry_list_init
    (code_list_new _ ⟨rfl, rfl⟩) fun obj s₁ h₁ => ?_
  obtain ⟨rfl, rfl⟩ := h₁
  have hS : (s.heap.push { cls := .type "list", data := .seq #[] }).get? s.heap.objs.size = some { cls := .type "list", data := .seq #[] } := Heap.get?_push_size _ rfl
  have up : ∀ a o, s.heap.get? a = some o → (s.heap.push { cls := .type "list", data := .seq #[] }).get? a = some o := fun a o e => Heap.get?_push_of_some _ e
  refine ⟨⟨_, hS, rfl⟩, F.args_list_init_2 _ _, list_initE (A := A.in1) (s := { s with heap := s.heap.push { cls := .type "list", data := .seq #[] } }) D1 nzi zf hit hn (up _ _ hz0) (st.keep D1 m1 nf (fun a o _ e => up a o e) ⟨_, hS⟩) s.heap.objs.size m1 nf hS s.heap.objs.size (Nat.le_of_lt (Heap.lt_size hS)) fun h' tk acc c' kp hS' got => ?_⟩
  refine ⟨rfl, hQ h' tk acc c' (fun a o c1 c2 e => kp a o ?_ (up a o e)) hS' got⟩
  simp only [List.mem_cons, List.not_mem_nil, or_false, not_or]
  exact ⟨c1, c2, old a o e⟩
end
end PySem


namespace L2
open PySem PySem.Spec PyProof.Rows RZ
section
variable {X : Cx} {e : Expr} {ta : TA} {p p2 q pos : Pos}
def idxV (n : Nat) : List V := (List.range n).map fun i => V.int (i : Nat)
def tLstEnum (K : PySem.W.Frag) (ta : TA) : TE := fun σ H Q => ta σ H fun vs H1 => ∃ (a : Addr) (xs : List V), vs = [.ref a] ∧ SqL K H1 a xs ∧ xs.length ≤ 1000 ∧
  ∀ H2 ts t, ZipNew H1 H2 (idxV xs.length) xs ts → H1 t = none → H2 t = some (.lst (ts.map V.ref)) → Q (.ref t) H2
theorem pe_lstEnum (hc : X.calm = true) (hg : Gl X "list") (hm : X.mg "list" = none) (hg2 : Gl X "enumerate") (hm2 : X.mg "enumerate" = none) (ha : PA X [e] ta)
    (hs : starEach [e] X.env = [(false, eval e X.env)] := by rfl)
    (na : starEach [.Call (.Name "enumerate" p2) [e] [] q] X.env = (false, eval (.Call (.Name "enumerate" p2) [e] [] q) X.env) :: starEach [] X.env := by rfl) :
    PE X (.Call (.Name "list" p) [.Call (.Name "enumerate" p2) [e] [] q] [] pos) (tLstEnum X.K ta) := by
  refine ⟨fun pins s σ H Q I h => ?_⟩
  refine Call_ (ld_blt I hg hm boot_list (PyProof.Rows.callWith_type1 (PyProof.Rows.args_cons ?_ na) na rfl))
  refine Call_ (ld_blt I hg2 hm2 boot_enumerate (PyProof.Rows.callWith_type1 (thn (ha.run q pins s σ H _ I h) fun us s1 ⟨vs, H1, I1, r1, q1⟩ => ?_) hs rfl))
  obtain ⟨a, xs, ex, hqx, hn, fin⟩ := q1
  subst ex
  cases r1 with
  | cons r rr =>
    cases rr
    cases r
    obtain ⟨its, rv, p1, _⟩ := I1.list hqx
    have lx := rv.length
    have p1lt := p1.lt
    refine call_enumerate_list p1.isList fun h' he hit hsz hk => PyProof.Rows.args_nil ?_
    have hh : X.A.in1.in1.in1.handled = none := I1.ok.hd hc
    have nai : a ≠ s1.heap.objs.size := Nat.ne_of_lt p1lt
    have naz : a ≠ s1.heap.objs.size + 1 := Nat.ne_of_lt (Nat.lt_succ_of_lt p1lt)
    have D1 := Draws.list (prog := X.prog) (w := X.w) hh s1.heap.objs.size a nai its.toArray
    have e1 : its.toArray.size = xs.length := by simp; omega
    rw [e1] at D1
    have st : EnSt h' (s1.heap.objs.size + 1) s1.heap.objs.size (fun i h => h.IsListIter s1.heap.objs.size a i ∧ h.IsList a its.toArray) 0 := ⟨.inl ⟨.none, he⟩, hit, p1.isList.at fun o e => hk _ o e⟩
    refine call_listE (s := { s1 with heap := h' }) D1 (Nat.succ_ne_self _) (by simp [naz.symm]) (by simp) (Nat.le_of_lt (small1000 (by omega))) he st (fun c hc' => ?_) fun h3 tk acc c' kp hS got => ?_
    · simp only [List.mem_cons, List.not_mem_nil, or_false] at hc'
      have hsz' : ({ s1 with heap := h' } : Shared).heap.objs.size = s1.heap.objs.size + 2 := hsz
      rw [hsz']
      rcases hc' with rfl | rfl
      · exact Nat.lt_add_of_pos_right (by decide)
      · exact Nat.lt_of_lt_of_le p1lt (Nat.le_add_right _ _)
    have far : ∀ b o, s1.heap.get? b = some o → h3.get? b = some o := fun b o e => by
      have lt := Heap.lt_size e
      exact kp b o (Nat.ne_of_lt (Nat.lt_succ_of_lt lt)) (Nat.ne_of_lt lt) (hk b o e)
    have big2 : s1.heap.objs.size ≤ h'.objs.size := by
      have : h'.objs.size = s1.heap.objs.size + 2 := hsz
      rw [this]
      exact Nat.le_add_right _ _
    have li : (idxV xs.length).length = xs.length := by unfold idxV; simp
    have got2 : Got h3 h'.objs.size [s1.heap.objs.size + 1, s1.heap.objs.size, h'.objs.size] (fun j v => j < xs.length ∧ IdxP j v) (fun i v => its.toArray[i]? = some v) acc xs.length := ⟨got.1, fun j v e => by
      obtain ⟨T, x, y, g1, g2, g3, g4, g5, g6⟩ := got.2.1 j v e
      have hj := (Array.getElem?_eq_some_iff.mp e).1
      rw [got.1] at hj
      exact ⟨T, x, y, g1, g2, g3, ⟨hj, g4⟩, g5, g6⟩, got.2.2⟩
    obtain ⟨ts, H2, I2, zn, t0, t2⟩ := track_zip (P1 := fun j v => j < xs.length ∧ IdxP j v) (P2 := fun i v => its.toArray[i]? = some v) (u := fun ts => .lst (ts.map V.ref)) (t := h'.objs.size) (tk := tk) (xs := idxV xs.length) (ys := xs) I1 (fun j v ⟨hj, t, ev⟩ => ⟨.int (j : Nat), by unfold idxV; rw [List.getElem?_map, List.getElem?_range hj]; rfl, by rw [ev]; exact ⟨t, rfl⟩⟩)
      (fun j v hv => by
        have hv' : its[j]? = some v := by simpa using hv
        have hj : j < xs.length := by
          have := (List.getElem?_eq_some_iff.mp hv').1
          omega
        obtain ⟨u, hu, ru⟩ := rv.get (List.getElem?_eq_getElem hj)
        rw [hv'] at hu
        cases hu
        exact ⟨_, List.getElem?_eq_getElem hj, ru⟩) li (by omega) big2 (by rw [li]; exact got2) far big2 (fun j T e z => by
        obtain ⟨T', _, _, e1, _, nb, _⟩ := got.2.1 j _ e
        cases e1
        exact nb (by simp [z]))
      (fun ts H2 ets lts => ⟨by rw [List.length_map, lts, li]; exact Nat.le_of_lt (small1000 (by omega)), ts.map Value.ref, c', valsZ ts, by rw [← ets]; simpa using hS⟩)
    exact ⟨.ref h'.objs.size, H2, I2, rfl, fin H2 ts _ zn t0 t2⟩
end
end L2


namespace Toy
open PySem PySem.Spec L2 PyProof.Rows PySem.W
/-! ### all spots, as the program yields them -/
abbrev sSpots : Stmt := top 19
abbrev ItS := Nat × List Nat × PyData
abbrev NSp : List Str := ["term", "waiting", "spot", "part", "number", "_", "below"]
def restS (l : List ItS) : List RowS := (l.reverse.map fun p => allS p.1 p.2.2 p.2.1).flatten
theorem restS_snoc (l : List ItS) (p : ItS) : restS (l ++ [p]) = allS p.1 p.2.2 p.2.1 ++ restS l := by
  simp [restS]
theorem allS_pos {n : Nat} (h : 1 ≤ n) (t : PyData) (s : List Nat) : 1 ≤ (allS n t s).length := by
  cases n with
  | zero => omega
  | succ n => rw [allS, List.length_cons]; omega
theorem restS_ind : ∀ (k : Nat) (l : List ItS), l.length = k → (∀ p ∈ l, 1 ≤ p.1) → l.length ≤ (restS l).length
  | 0, l, e, _ => by rw [e]; exact Nat.zero_le _
  | k + 1, l, e, h => by
    rcases List.eq_nil_or_concat l with rfl | ⟨l', p, rfl⟩
    · simp at e
    · rw [List.concat_eq_append] at e h ⊢
      rw [restS_snoc, List.length_append, List.length_append, List.length_singleton]
      rw [List.length_append, List.length_singleton] at e
      have h1 := restS_ind k l' (by omega) fun q hq => h q (List.mem_append_left _ hq)
      have h2 := allS_pos (h p (List.mem_append_right _ (List.mem_singleton_self _))) p.2.2 p.2.1
      omega
theorem kidsG_split (f : PyData → List Nat → List RowS) (s : List Nat) : ∀ (k j : Nat) (ps : List PyData), kidsG f s j ps = kidsG f s j (ps.take k) ++ kidsG f s (j + k) (ps.drop k)
  | 0, j, ps => by simp [kidsG]
  | k + 1, j, [] => by simp [kidsG]
  | k + 1, j, p :: ps => by
    rw [List.take_succ_cons, List.drop_succ_cons, kidsG, kidsG, kidsG_split f s k (j + 1) ps, List.append_assoc, show j + 1 + k = j + (k + 1) by omega]
def IsSpot (K : PySem.W.Frag) (H : Hp) (v : V) (ns : List Nat) : Prop := ∃ a : Addr, v = .ref a ∧ SqT K H a (ns.map natV)
def ItemS (K : PySem.W.Frag) (n : Nat) (H : Hp) (v : V) (p : ItS) : Prop := ∃ (t a : Addr) (u : V), v = .ref t ∧ H t = some (.tup [.ref a, u]) ∧ SqT K H a (p.2.1.map natV) ∧ Dp K H u p.2.2 ∧ wf p.1 p.2.2 = true ∧ p.1 + p.2.1.length = n
theorem IsSpot.same {K : PySem.W.Frag} {H H' : Hp} {v : V} {ns : List Nat} (h : IsSpot K H v ns) (s : Same H H') : IsSpot K H' v ns := by
  obtain ⟨a, h1, h2⟩ := h
  exact ⟨a, h1, same_seqT s h2⟩
theorem IsSpot.put {K : PySem.W.Frag} {H : Hp} {v : V} {ns : List Nat} {L : Addr} {xs ys : List V} (h : IsSpot K H v ns) (hL : H L = some (.lst xs)) : IsSpot K (upd H L (.lst ys)) v ns := by
  obtain ⟨a, h1, h2⟩ := h
  exact ⟨a, h1, seqT_put h2 hL⟩
theorem ItemS.same {K : PySem.W.Frag} {n : Nat} {H H' : Hp} {v : V} {p : ItS} (h : ItemS K n H v p) (s : Same H H') : ItemS K n H' v p := by
  obtain ⟨t, a, u, h1, h2, h3, h4, h5⟩ := h
  exact ⟨t, a, u, h1, s _ _ h2, same_seqT s h3, dpM s h4, h5⟩
theorem ItemS.put {K : PySem.W.Frag} {n : Nat} {H : Hp} {v : V} {p : ItS} {L : Addr} {xs ys : List V} (h : ItemS K n H v p) (hL : H L = some (.lst xs)) : ItemS K n (upd H L (.lst ys)) v p := by
  obtain ⟨t, a, u, h1, h2, h3, h4, h5, h6⟩ := h
  exact ⟨t, a, u, h1, (upd_ne (ne_of h2 hL (by intro z; cases z))).trans h2, seqT_put h3 hL, dp_put hL h4 (noL_wf h5), h5, h6⟩
theorem ItemS.pos {K : PySem.W.Frag} {n : Nat} {H : Hp} {v : V} {p : ItS} (h : ItemS K n H v p) : 1 ≤ p.1 := by
  obtain ⟨t, a, u, h1, h2, h3, h4, h5, h6⟩ := h
  cases hp : p.1 with
  | zero => rw [hp] at h5; cases h5
  | succ m => omega
theorem paired_mem {α β : Type} {R : α → β → Prop} : ∀ {xs : List α} {ds : List β}, Paired R xs ds → ∀ d ∈ ds, ∃ x, R x d
  | _, _, .nil, _, h => by cases h
  | _, _, .cons r t, d, h => by
    rcases List.mem_cons.mp h with rfl | h
    · exact ⟨_, r⟩
    · exact paired_mem t d h
theorem paired_lastS {α β : Type} {R : α → β → Prop} : ∀ {xs : List α} {ds : List β} {x : α}, Paired R (xs ++ [x]) ds → ∃ ds' d, ds = ds' ++ [d] ∧ Paired R xs ds' ∧ R x d
  | [], _, _, .cons r .nil => ⟨[], _, rfl, .nil, r⟩
  | x' :: xs, _, _, .cons r t => by
    obtain ⟨ds', d, e, h1, h2⟩ := paired_lastS t
    exact ⟨_ :: ds', d, by rw [e]; rfl, .cons r h1, h2⟩
def spSpots (K : PySem.W.Frag) : SpG := fun vs H Q _ => ∃ (v : V) (n : Nat) (t : PyData), vs = [v] ∧ Dp K H v t ∧ wf n t = true ∧ n ≤ 8 ∧ ∀ H' out, Same H H' → Paired (IsSpot K H') out ((allS n t []).map (·.1)) → Q out H'
/-- before each turn: what waits, what is out -/
def SpW (K : PySem.W.Frag) (H : Hp) (v : V) (L : Addr) (n : Nat) (all : List (List Nat)) : Nat → List V → L2.St → Hp → Prop := fun m ys σ H' => ∃ (o2 o3 o4 o5 o6 : Option V) (xs : List V) (todo : List ItS) (outs : List (List Nat)), σ = [some v, some (.ref L), o2, o3, o4, o5, o6] ∧ H' L = some (.lst xs) ∧ Paired (ItemS K n H') xs todo ∧ Paired (IsSpot K H') ys outs ∧ outs ++ (restS todo).map (·.1) = all ∧ m = (restS todo).length ∧ Same H H'
section
variable {P : Program} {w : World} {K : PySem.W.Frag} {mg : Str → Option Value} {base : Heap}
theorem scSts : GScope NSp ["term"] (defScope sSpots) := ⟨rfl, rfl, rfl, by decide +kernel, rfl, by decide +kernel, by decide +kernel⟩
theorem gok_sp {f fS : Addr} {fd fdS : FuncData} (F : Fun K "spots" "spots" sSpots f fd) (GS : FnOk P w K mg base CX0 1 fS fdS ["term"] (spKP K)) (mS : mg "kinds_and_parts" = some (.ref fS)) (kS : PySem.W.keepIn K (.ref fS) = true) (bS : Binds K fdS ["term"] [])
    (mR : mg "reversed" = none) (mLi : mg "list" = none) (mEn : mg "enumerate" = none) :
    GFn P w K mg base 2 f fd ["term"] (spSpots K) := by
  obtain ⟨oc, od, kV, doc, pm, an, cdv, ct, osl, rfl, lk, hcd⟩ := F.ex
  refine gfn_of (k := 1) lk hcd scSts (fun vs H Q E h => ?_) fun A outer s H vs Q E pn hr h => ?_
  · obtain ⟨v, n, d, rfl, _⟩ := h
    rfl
  · obtain ⟨v, n, t, rfl, hv, hw, hn8, q⟩ := h
    refine ⟨_, gss_cons (gs_ps (ps_set (i := 1) scSts.nd rfl (Or.inl rfl) (pe_lst (pa_cons (pe_tup (pa_cons (pe_tup pa_nil) (pa_cons (pv 0) pa_nil))) pa_nil))))
      (gss_cons (gs_while owns_gcx (pt_truth (pv 1) (by intro _; rfl))
        (gss_cons (gs_ps (ps_asg (pe_bm0 PySem.F.plainAttrs_list PySem.F.slot_list_pop PySem.F.type_list_pop mt_pop (pv 1)) (pg_tup (by rfl) (pgs_cons (pg_name (i := 2) scSts.nd rfl (.inl rfl)) (pgs_cons (pg_name (i := 3) scSts.nd rfl (.inl rfl)) pgs_nil)))))
        (gss_cons (gs_yield (pv 2))
        (gss_cons (gs_ps (ps_for owns_gcx rfl (RT.pi_revA (by rfl) mR (pe_lstEnum (by rfl) (by rfl) mLi (by rfl) mEn (pa_cons (pe_call GS hr (by rfl) mS kS bS .nil pass0 (pa_cons (pv 3) pa_nil)) pa_nil)))
            (pg_tup (by rfl) (pgs_cons (pg_name (i := 4) scSts.nd rfl (.inl rfl)) (pgs_cons (pg_tup (by rfl) (pgs_cons (pg_name (i := 5) scSts.nd rfl (.inl rfl)) (pgs_cons (pg_name (i := 6) scSts.nd rfl (.inl rfl)) pgs_nil))) pgs_nil)))
          (pss_one (ps_expr (pe_bm PySem.F.plainAttrs_list PySem.F.slot_list_append PySem.F.type_list_append mt_append (pv 1) (pa_cons (pe_tup (pa_cons (pe_op op_catA (pv 2) (pe_tup (pa_cons (pv 4) pa_nil)))
            (pa_cons (pv 6) pa_nil))) pa_nil)))))) gss_nil)))) gss_nil), ?_⟩
    have s0 : Same H H := fun _ _ z => z
    refine ⟨Nat.zero_le _, fun a0 na0 => ⟨_, rfl, few (by show 2 ≤ 1000; decide), fun t0 nt0 => ⟨few (by show 1 ≤ 1000; decide), fun L nL => ?_⟩⟩⟩
    have sA : Same H (upd H a0 (.tup [])) := same_new s0 na0
    have sT : Same H (upd (upd H a0 (.tup [])) t0 (.tup [.ref a0, v])) := same_new sA nt0
    have sL : Same (upd (upd H a0 (.tup [])) t0 (.tup [.ref a0, v])) (upd (upd (upd H a0 (.tup [])) t0 (.tup [.ref a0, v])) L (.lst [.ref t0])) := same_new (fun _ _ z => z) nL
    have nL0 : H L = none := fresh_of sT nL
    have hsz : (allS n t []).length ≤ 9841 := by
      have h1 := allS_len n t []
      have h2 := szT_le hw
      have h3 := BB_mono hn8
      rw [BB8] at h3
      omega
    refine ⟨SpW K H v L n ((allS n t []).map (·.1)), ⟨_, none, none, none, none, none, [.ref t0], [(n, [], t)], [], rfl, upd_same, .cons ⟨t0, a0, v, rfl, sL _ _ upd_same, SqT.of (sL _ _ ((upd_ne (ne_of_none upd_same nt0)).trans upd_same)), dpM (sT.trans sL) hv, hw, Nat.add_zero _⟩ .nil, .nil, by simp [restS], rfl, Same.trans sT sL⟩, ?_⟩
    rintro mm ys σ H1 ⟨o2, o3, o4, o5, o6, xs, todo, outs, rfl, hL, pt, pi, hall, rfl, s1⟩
    refine ⟨_, rfl, _, .inl ⟨xs, SqL.of hL, rfl⟩, ?_⟩
    rcases List.eq_nil_or_concat xs with rfl | ⟨xi, x, rfl⟩
    · refine iteF (q H1 ys s1 ?_)
      cases pt
      rw [show restS [] = [] from rfl, List.map_nil, List.append_nil] at hall
      rw [← hall]
      exact pi
    rw [List.concat_eq_append] at hL pt ⊢
    have et : (!(xi ++ [x]).isEmpty) = true := by
      cases xi <;> rfl
    rw [et]
    obtain ⟨todo', ⟨m, ns, d⟩, rfl, pt', it⟩ := paired_lastS pt
    obtain ⟨t1, a, u, rfl, ht, ha, hu', hwd, hlev⟩ := it
    have hu' : Dp K H1 u d := hu'
    have hwd : wf m d = true := hwd
    have hlev : m + ns.length = n := hlev
    have ha : SqT K H1 a (ns.map natV) := ha
    have lys : ys.length = outs.length := Paired.length pi
    have hall2 := congrArg List.length hall
    rw [List.length_append, List.length_map, List.length_map] at hall2
    refine iteT ⟨fun ys' σ' H' => ∃ m', m' < (restS (todo' ++ [(m, ns, d)])).length ∧ SpW K H v L n ((allS n t []).map (·.1)) m' ys' σ' H', fun _ _ _ h => h, ?_⟩
    refine ⟨_, rfl, .inl ⟨rfl, _, SqL.of hL⟩, L, _, .ref t1, rfl, rfl, hL, by simp, t1, [.ref a, u], rfl, ?_, rfl, ?_⟩
    · have ne : t1 ≠ L := ne_of ht hL (by intro z; cases z)
      exact SqT.of ((upd_ne ne).trans ht)
    refine ⟨_, _, rfl, _, _, rfl, rfl, Nat.lt_of_le_of_lt (show ys.length ≤ 9841 by omega) (by decide), _, rfl, ?_⟩
    rw [List.dropLast_concat]
    cases m with
    | zero => cases hwd
    | succ m =>
    have pt2 := L2.Paired.mapP pt' fun _ _ z => z.put (ys := xi) hL
    have pi2 := L2.Paired.mapP pi fun _ _ z => z.put (ys := xi) hL
    have ha2 : SqT K (upd H1 L (.lst xi)) a (ns.map natV) := seqT_put ha hL
    have hu2 : Dp K (upd H1 L (.lst xi)) u d := dp_put hL hu' (noL_wf hwd)
    have sHL : Same H (upd H1 L (.lst xi)) := fun b o ho => by rw [upd_ne (ne_of_none ho nL0)]; exact s1 _ _ ho
    have hL2 : (upd H1 L (.lst xi)) L = some (.lst xi) := upd_same
    generalize upd H1 L (.lst xi) = H2 at pt2 pi2 ha2 hu2 sHL hL2 ⊢
    have hrest : restS (todo' ++ [(m + 1, ns, d)]) = (ns, d) :: (kidsG (allS m) ns 0 (partsOf d) ++ restS todo') := by
      rw [restS_snoc]
      rfl
    rw [hrest] at hall hall2 ⊢
    rw [List.length_cons, List.length_append] at hall2
    refine ⟨_, rfl, u, m, d, rfl, hu2, hwd, fun H3 Lk qs us s3 nLk hLk hqs hdp hul hk4 => ⟨Lk, qs.map V.ref, rfl, SqL.of hLk, by have := Paired.length hqs; rw [List.length_map]; omega, fun H4 ts Tl zn nTl hTl => ⟨Tl, ts.map V.ref, rfl, .inl ⟨SqL.of hTl, ?_⟩⟩⟩⟩
    obtain ⟨s4, hz⟩ := zn
    have lqs := Paired.length hqs
    have ldp := dpl_len hdp
    rw [List.length_map] at ldp
    have lts : ts.length = (partsOf d).length := by
      have := Paired.length hz
      rw [List.length_zip, List.length_map] at this
      unfold idxV at this
      rw [List.length_map, List.length_range] at this
      omega
    generalize hN : (partsOf d).length = N at lts ldp
    have s24 := s3.trans s4
    have hL4 := s24 _ _ hL2
    have hTL : Tl ≠ L := fun z => by rw [z, s3 _ _ hL2] at nTl; cases nTl
    refine RT.for_Itv (K := K) (a := Tl) (xs := ts.map V.ref) (fun i σ H' => ∃ (o4 o5 o6 : Option V) (xs : List V) (todo : List ItS), σ = [some v, some (.ref L), some (.ref a), some u, o4, o5, o6] ∧ H' L = some (.lst xs) ∧ Paired (ItemS K n H') xs todo ∧ Paired (IsSpot K H') (ys ++ [.ref a]) (outs ++ [ns]) ∧ Same H H' ∧ But L H4 H' ∧ DpAll K H' (us.map (·.2)) (partsOf d) ∧ SqT K H' a (ns.map natV) ∧ restS todo = kidsG (allS m) ns (N - i) ((partsOf d).drop (N - i)) ++ restS todo') ?_ ?_ ?_ ?_
    · refine ⟨o4, o5, o6, xi, todo', rfl, hL4, L2.Paired.mapP pt2 fun _ _ z => z.same s24, Paired.snoc (L2.Paired.mapP pi2 fun _ _ z => z.same s24) ⟨a, rfl, same_seqT s24 ha2⟩, sHL.trans s24, fun _ _ _ h => h, dpAllM s24 hdp, same_seqT s24 ha2, ?_⟩
      rw [Nat.sub_zero, ← hN, List.drop_length]
      simp [kidsG]
    · rintro i σ' H' ⟨_, _, _, _, _, _, _, _, _, _, bt, _⟩
      exact SqL.of (bt _ _ hTL hTl)
    · rintro i x σ' H5 hi hx ⟨p4, p5, p6, xs2, todo2, rfl, hL5, pt5, pi5, s5, b5, hd5, ha5, hr5⟩
      rw [List.length_map, lts] at hi hx
      obtain ⟨j, ej⟩ : ∃ j, j = N - 1 - i := ⟨_, rfl⟩
      rw [← ej, List.getElem?_map] at hx
      have ej1 : N - i = j + 1 := by omega
      have ej2 : N - (i + 1) = j := by omega
      rw [ej1] at hr5
      rw [ej2]
      cases hTj : ts[j]? with
      | none => rw [hTj] at hx; cases hx
      | some Tj =>
      rw [hTj] at hx
      cases hx
      obtain ⟨pr, hpr, _, hTt⟩ := paired_get hz hTj
      have hjq : j < qs.length := by omega
      have hqj : qs[j]? = some qs[j] := List.getElem?_eq_getElem hjq
      generalize qs[j] = qj at hqj
      obtain ⟨ku, hku, hKP⟩ := paired_get hqs hqj
      have epr : pr = (natV j, .ref qj) := by
        have e1 : (idxV (qs.map V.ref).length)[j]? = some (natV j) := by
          unfold idxV
          rw [List.getElem?_map, List.getElem?_range (by rw [List.length_map]; exact hjq)]
          rfl
        have e2 : (qs.map V.ref)[j]? = some (.ref qj) := by rw [List.getElem?_map, hqj]; rfl
        rw [List.getElem?_zip_eq_some (z := (natV j, V.ref qj)) |>.mpr ⟨e1, e2⟩] at hpr
        exact (Option.some.inj hpr).symm
      subst epr
      have hTt5 := b5 _ _ (ne_of hTt hL4 (by intro z; cases z)) hTt
      have hq4 := s4 _ _ hKP
      have hq5 := b5 _ _ (ne_of hq4 hL4 (by intro z; cases z)) hq4
      have huj : (us.map (·.2))[j]? = some ku.2 := by rw [List.getElem?_map, hku]; rfl
      obtain ⟨pj, hpj, hdj⟩ := dpl_get hd5 huj
      have hwj := parts_wf hwd pj (List.mem_of_getElem? hpj)
      refine ⟨Tj, _, rfl, SqT.of hTt5, rfl, _, _, rfl, _, _, rfl, qj, _, rfl, SqT.of hq5, rfl, _, _, rfl, _, _, rfl, rfl, rfl, ?_⟩
      refine ⟨_, rfl, .inl ⟨rfl, _, SqL.of hL5⟩, _, rfl, _, rfl, few (by show 1 ≤ 1000; decide), fun T1 nT1 => ?_⟩
      have s6 : Same H5 (upd H5 T1 (.tup [natV j])) := same_new same_id nT1
      have hT1 : SqT K (upd H5 T1 (.tup [natV j])) T1 [natV j] := SqT.of upd_same
      generalize upd H5 T1 (.tup [natV j]) = H6 at s6 hT1 ⊢
      have lns : ns.length ≤ 8 := by omega
      refine catA_run (same_seqT s6 ha5) hT1 (by rw [List.length_map, List.length_singleton]; omega) fun H7 cc s7 hcc => ⟨_, rfl, few (by show 2 ≤ 1000; decide), fun T2 nT2 => ?_⟩
      have s8 : Same H7 (upd H7 T2 (.tup [.ref cc, ku.2])) := same_new same_id nT2
      have hT2 : (upd H7 T2 (.tup [.ref cc, ku.2])) T2 = some (.tup [.ref cc, ku.2]) := upd_same
      have hcc8 := same_seqT s8 hcc
      generalize upd H7 T2 (.tup [.ref cc, ku.2]) = H8 at s8 hT2 hcc8 ⊢
      have s58 := (s6.trans s7).trans s8
      have hL8 := s58 _ _ hL5
      have hdr : (partsOf d).drop j = pj :: (partsOf d).drop (j + 1) := by
        obtain ⟨h1, h2⟩ := List.getElem?_eq_some_iff.mp hpj
        rw [List.drop_eq_getElem_cons h1, h2]
      have hk0 := congrArg List.length (kidsG_split (allS m) ns (j + 1) 0 (partsOf d))
      rw [Nat.zero_add, List.length_append] at hk0
      have lr5 := congrArg List.length hr5
      rw [List.length_append] at lr5
      have lxs2 : xs2.length ≤ 9841 := by
        have h1 := Paired.length pt5
        have h2 := restS_ind _ todo2 rfl fun p hp => by
          obtain ⟨_, z⟩ := paired_mem pt5 p hp
          exact z.pos
        omega
      refine ⟨L, xs2, .ref T2, rfl, rfl, hL8, Nat.lt_of_le_of_lt lxs2 (by decide), ?_⟩
      refine ⟨_, _, _, xs2 ++ [.ref T2], todo2 ++ [(m, ns ++ [j], pj)], rfl, upd_same, L2.Paired.mapP (Paired.snoc (L2.Paired.mapP pt5 fun _ _ z => z.same s58) ⟨T2, cc, ku.2, rfl, hT2, by rw [List.map_append]; exact hcc8, dpM s58 hdj, hwj, by simp only [List.length_append, List.length_singleton]; omega⟩) fun _ _ z => z.put hL8, L2.Paired.mapP pi5 fun _ _ z => (z.same s58).put hL8, ?_, ?_, dps_put hL8 (dpAllM s58 hd5) (noLs_all fun d' hd' => noL_wf (parts_wf hwd d' hd')), seqT_put (same_seqT s58 ha5) hL8, ?_⟩
      · exact same_put (s5.trans s58) nL0
      · intro b o hb ho
        rw [upd_ne hb]
        exact s58 _ _ (b5 _ _ hb ho)
      · rw [restS_snoc, hdr, kidsG, hr5, List.append_assoc]
    · rintro σ' H5 ⟨p4, p5, p6, xs2, todo2, rfl, hL5, pt5, pi5, s5, b5, hd5, ha5, hr5⟩
      rw [List.length_map, lts, Nat.sub_self, List.drop_zero] at hr5
      refine ⟨(restS todo2).length, ?_, _, _, _, _, _, xs2, todo2, outs ++ [ns], rfl, hL5, pt5, pi5, ?_, rfl, s5⟩
      · rw [hr5, List.length_cons]
        omega
      · rw [hr5, ← hall, List.map_cons, List.append_assoc]
        rfl
end
end Toy


/-! a text beside a dict; a tuple beside the empty one -/
namespace PySem.SeqAt
open AutoSeq1 (wpAny_loadPart')
open MeetsSeq
theorem str_eq_declines_dict (b : Str) (u : Tok) (l : Addr) (c : Value) (items : Array DictEntry) (n : Nat) (dd : Option Addr) (sl : Array (Option Value)) :
    Meets (Builtin.«str.__eq__» ⟨[.str b u, .ref l], []⟩) (fun _ R s => s.heap.get? l = some { cls := c, dict := dd, data := .dict items n, slots := sl } ∧ R (.ok (.ret .notImplemented)) s) :=
  .of_wp fun prog w A R s h => by obtain ⟨hp, g, d, tk, os⟩ := s; obtain ⟨hl, h⟩ := h; wp_walk using wpAny_loadPart' hl, wpAny_load hl; exact ⟨_, rfl, h⟩
theorem dict_eq_declines_str (l : Addr) (items : Array DictEntry) (n : Nat) (dd : Option Addr) (sl : Array (Option Value)) (b : Str) (u : Tok) :
    Meets (Builtin.«dict.__eq__» ⟨[.ref l, .str b u], []⟩) (fun _ R s => s.heap.get? l = some { cls := .type "dict", dict := dd, data := .dict items n, slots := sl } ∧ R (.ok (.ret .notImplemented)) s) :=
  .of_wp fun prog w A R s h => by obtain ⟨hp, g, d, tk, os⟩ := s; obtain ⟨hl, h⟩ := h; have f1 := F.sub_str_dict; wp_walk using wpAny_loadPart' hl, wpAny_load hl; exact ⟨_, rfl, h⟩
section
variable {A : Around} {s : Shared}
theorem RcAt.str_dict {l : Addr} {items : Array DictEntry} {n : Nat} {dd : Option Addr} {sl : Array (Option Value)} (b : Str) (u : Tok) (ho : s.heap.get? l = some { cls := .type "dict", dict := dd, data := .dict items n, slots := sl }) (hu : A.units < cLine) : RcAt A s (.str b u) (.ref l) false := fun prog w E Q h => by
  exact rc_eq_decline_or (k := false) (typeIs_str s b u) ⟨_, ho, rfl⟩ (by decide) F.sub_dict_str F.slot_str_eq F.slot_dict_eq_refl
    (fun _ hq => call_meets F.slot_str_eq (typeIs_str s b u) F.entry_str_eq (F.args_str_eq_2 _ _) (str_eq_declines_dict b u l (.type "dict") items n dd sl) ⟨ho, hq⟩)
    (fun _ hq => call_meets F.slot_dict_eq_refl ⟨_, ho, rfl⟩ F.entry_dict_eq (F.args_dict_eq_2 _ _) (dict_eq_declines_str l items n dd sl b u) ⟨ho, hq⟩)
    (fun _ hq => wpAny_of_eq (rfl : isSame (.str b u) (.ref l) = pure false) hq) (.inr hu) h
theorem EqAt.str_dict {l : Addr} {items : Array DictEntry} {n : Nat} {dd : Option Addr} {sl : Array (Option Value)} (b : Str) (u : Tok) (ho : s.heap.get? l = some { cls := .type "dict", dict := dd, data := .dict items n, slots := sl }) (hu : A.units < cLine) : EqAt A s (.str b u) (.ref l) false := fun prog w E Q h => by
  unfold eqBool
  refine wpAny_holding ?_
  refine wpAny_ite_split (fun hab => absurd (eq_of_beq hab) nofun) (fun _ => ?_)
  exact wpAny_bind (RcAt.str_dict b u ho hu prog w E _ (wpAny_truthy_bool h))
end
theorem tuple_ne0 (l b : Addr) (items : Array Value) (n n2 : Nat) (dd dd2 : Option Addr) (sl sl2 : Array (Option Value)) :
    Meets (Builtin.«tuple.__ne__» ⟨[.ref l, .ref b], []⟩)
      (fun A R s => s.heap.get? l = some { cls := .type "tuple", dict := dd, data := .seq items n, slots := sl } ∧ s.heap.get? b = some { cls := .type "tuple", dict := dd2, data := .seq #[] n2, slots := sl2 } ∧
        R (.ok (.ret (.bool (items.size != 0)))) s) :=
  .of_wp fun prog w A R s h => by
    obtain ⟨hp, g, d, tk, os⟩ := s; obtain ⟨hl, hb, h⟩ := h
    have f2 := AutoSeq1.sub_tuple_tuple
    have hZ : (items.toList.zip (#[] : Array Value).toList) = [] := by simp
    wp_walk using wpAny_loadPart' hl, wpAny_loadPart' hb, wpAny_forIn_list _ (fun rest b s' => b.1 = none ∧ s' = ⟨hp, g, d, tk, os⟩ ∧ rest = []) _
    case turn =>
      rintro ⟨y, x⟩ rest b s' ⟨hb', rfl, hz⟩
      cases hz
    case fin =>
      rintro ⟨b1, b2⟩ s' ⟨hb', rfl, hz⟩
      simp only at hb'
      subst hb'
      wp_walk
      exact ⟨_, rfl, by simpa [Builtin.Tuple.tupleCompareSizes] using h⟩
    case h =>
      exact ⟨rfl, rfl, hZ⟩
theorem RcNe.tuple0 {A : Around} {s : Shared} {prog : Program} {w : World} {E : Value → Shared → Prop} {l b : Addr} {items : Array Value} {Q : Value → Shared → Prop} (hl : s.heap.IsTuple l items) (hb : s.heap.IsTuple b #[]) (hu : A.units < cLine)
    (h : Q (.bool (items.size != 0)) s) : wpAny (model prog w) A (compareOp .NotEq (.ref l) (.ref b)) Q E s := by
  obtain ⟨⟨cls, dd, data, sl⟩, ho, hc, n, hd⟩ := id hl
  obtain ⟨⟨cls2, dd2, data2, sl2⟩, ho2, hc2, n2, hd2⟩ := id hb
  simp only at hc hd hc2 hd2
  subst hc hd hc2 hd2
  exact richCompare_meets_room (op := .NotEq) ⟨_, ho, rfl⟩ ⟨_, ho2, rfl⟩ F.slot_tuple_ne F.entry_tuple_ne (F.args_tuple_ne_2 _ _) (tuple_ne0 l b items n n2 dd dd2 sl sl2)
    ⟨ho, ho2, show Value.bool (items.size != 0) ≠ Value.notImplemented ∧ Q (.bool (items.size != 0)) s from ⟨(fun x => nomatch x), h⟩⟩ hu
end PySem.SeqAt
namespace L2
open PySem PySem.Spec PyProof.Rows
section
variable {X : Cx}
def rNe0 (K : PySem.W.Frag) : R2 := fun x y H Q => ∃ (a b : Addr) (xs : List V), x = .ref a ∧ y = .ref b ∧ SqT K H a xs ∧ SqT K H b [] ∧ Q (.bl (!xs.isEmpty)) H
theorem op_neT0 (hu : X.A.units + 64 < cLine) : OpR X (compareOp .NotEq) (rNe0 X.K) := by
  intro pins s σ H x y v u Q I rx ry h
  obtain ⟨a, b, xs, rfl, rfl, ha, hb, q⟩ := h
  cases rx
  cases ry
  obtain ⟨its, r, pl, _⟩ := I.tuple ha
  obtain ⟨its2, r2, pl2, _⟩ := I.tuple hb
  cases r2
  refine SeqAt.RcNe.tuple0 pl pl2 (by omega) ⟨.bl _, H, I, rfl, ?_⟩
  have e : (its.toArray.size != 0) = !xs.isEmpty := by
    rw [List.size_toArray, ← r.length]
    cases xs <;> rfl
  rw [e]
  exact q
def rEq0 (K : PySem.W.Frag) : R2 := fun x y H Q => ∃ (a b : Addr) (xs : List V), x = .ref a ∧ y = .ref b ∧ SqT K H a xs ∧ SqT K H b [] ∧ Q (.bl xs.isEmpty) H
theorem op_eqT0 (hu : X.A.units + 64 < cLine) : OpR X (compareOp .Eq) (rEq0 X.K) := by
  intro pins s σ H x y v u Q I rx ry h
  obtain ⟨a, b, xs, rfl, rfl, ha, hb, q⟩ := h
  cases rx
  cases ry
  obtain ⟨its, r, pl, _⟩ := I.tuple ha
  obtain ⟨its2, r2, pl2, _⟩ := I.tuple hb
  cases r2
  refine SeqAt.eq_tupleAt (e := fun _ => true) pl pl2 (by omega) (fun j h1 h2 => by simp at h2) ⟨.bl _, H, I, rfl, ?_⟩
  have e : ((List.range (min its.toArray.size ([] : List Value).toArray.size)).all (fun _ => true) && its.toArray.size == ([] : List Value).toArray.size) = xs.isEmpty := by
    rw [List.size_toArray, ← r.length]
    cases xs <;> simp
  rw [e]
  exact q
/-- a value in a tuple of texts -/
def rInTx (K : PySem.W.Frag) : R2 := fun x y H Q => ∃ (p : Addr) (ks : List Str), y = .ref p ∧ SqT K H p (ks.map V.str) ∧ ((flatV x = true ∧ Q (.bl (inV x (ks.map V.str))) H) ∨ ∃ a, x = .ref a ∧ ((∃ us, SqL K H a us) ∨ (∃ us, SqT K H a us) ∨ ∃ m, H a = some (.dK m)) ∧ Q (.bl false) H)
theorem op_inTx (hu : X.A.units + 65 < cLine) : OpR X (compareOp .In) (rInTx X.K) := by
  intro pins s σ H x y v u Q I rx ry h
  obtain ⟨p, ks, rfl, hp, h⟩ := h
  rcases h with ⟨fx, q⟩ | ⟨a, rfl, ha, q⟩
  · exact op_in_seq pins s σ H x _ v u Q I rx ry ⟨p, _, rfl, .inr hp, fx, List.all_eq_true.mpr fun z hz => by
      obtain ⟨k, _, rfl⟩ := List.mem_map.mp hz
      rfl, q⟩
  · cases rx
    cases ry
    obtain ⟨its, r, pl, hz⟩ := I.tuple hp
    have hu1 : X.A.in1.units < cLine := by
      show X.A.units + 1 < cLine
      omega
    refine SeqAt.in_tupleAt (fun _ => false) pl (fun w hw => ?_) ⟨.bl _, H, I, rfl, ?_⟩
    · have hw' : w ∈ its := by simpa using hw
      obtain ⟨k, t, rfl⟩ : ∃ k t, w = Value.str k t := by
        have : ∀ {ks : List Str} {us : List Value}, Vals (ks.map V.str) us → ∀ u ∈ us, ∃ k t, u = Value.str k t := by
          intro ks us hv
          induction ks generalizing us with
          | nil => cases hv; intro u hu; cases hu
          | cons k ks ih =>
            cases hv with
            | cons r1 r2 =>
              obtain ⟨t, rfl⟩ := r1
              intro u hu
              rcases List.mem_cons.mp hu with rfl | hu
              · exact ⟨k, t, rfl⟩
              · exact ih r2 u hu
        exact this r w hw'
      rcases ha with ⟨us, ha⟩ | ⟨us, ha⟩ | ⟨m, ha⟩
      · obtain ⟨its2, _, pl2, _⟩ := I.list ha
        exact SeqAt.EqAt.str_list k t pl2.isList hu1
      · obtain ⟨its2, _, pl2, _⟩ := I.tuple ha
        exact SeqAt.EqAt.str_tuple k t pl2 hu1
      · obtain ⟨_, _, vs, _, o, es, ep, ho, hc, hd, _⟩ := (show ObjOk X.prog X.w H s.heap a (.dK m) from I.hok a _ ha)
        obtain ⟨cls, dd, data, sl⟩ := o
        have hc1 := hc.1
        simp only at hc1 hd
        subst hc1 hd
        exact SeqAt.EqAt.str_dict k t ho hu1
    · have e : its.toArray.any (fun _ => false) = false := by simp
      rw [e]
      exact q
end
end L2


namespace Toy
open PySem PySem.Spec L2 PyProof.Rows PySem.W
/-! ### a filter with another part at a spot, as the law makes it -/
/-- what stands while it is made: M the parts that are left, L what is made -/
structure PutI (K : PySem.W.Frag) (H : Hp) (M L B : Addr) (vs : List V) (hd : V) (us : List V) (ps : List PyData) (ws : List V) (gs : List PyData) (H' : Hp) : Prop where
  same : Same H H'
  hM : H' M = some (.lst us)
  hL : H' L = some (.lst (hd :: ws))
  hB : H' B = some (.tup vs)
  du : DpAll K H' us ps
  dw : DpAll K H' ws gs
  nu : noLs ps = true
  nw : noLs gs = true
section
variable {K : PySem.W.Frag} {H H' H2 : Hp} {M L B : Addr} {vs us ws : List V} {hd : V} {ps gs : List PyData}
theorem PutI.new (h : PutI K H M L B vs hd us ps ws gs H') (s : Same H' H2) : PutI K H M L B vs hd us ps ws gs H2 :=
  ⟨h.same.trans s, s _ _ h.hM, s _ _ h.hL, s _ _ h.hB, dpAllM s h.du, dpAllM s h.dw, h.nu, h.nw⟩
theorem PutI.pop {u : V} {p : PyData} (h : PutI K H M L B vs hd (u :: us) (p :: ps) ws gs H') (nM : H M = none) (ML : M ≠ L) : PutI K H M L B vs hd us ps ws gs (upd H' M (.lst us)) ∧ Dp K (upd H' M (.lst us)) u p ∧ noL p = true := by
  obtain ⟨h1, h2, h3, h4, h5, h6, h7, h8⟩ := h
  simp only [noLs, Bool.and_eq_true] at h7
  cases h5 with
  | cons a b =>
    refine ⟨⟨same_put h1 nM, upd_same, (upd_ne ML.symm).trans h3, (upd_ne (ne_of h4 h2 (by intro z; cases z))).trans h4, dps_put h2 b h7.2, dps_put h2 h6 h8, h7.2, h8⟩, dp_put h2 a h7.1, h7.1⟩
theorem PutI.push {x : V} {d : PyData} (h : PutI K H M L B vs hd us ps ws gs H') (nL : H L = none) (ML : M ≠ L) (hx : Dp K H' x d) (nx : noL d = true) : PutI K H M L B vs hd us ps (ws ++ [x]) (gs ++ [d]) (upd H' L (.lst (hd :: (ws ++ [x])))) := by
  obtain ⟨h1, h2, h3, h4, h5, h6, h7, h8⟩ := h
  exact ⟨same_put h1 nL, (upd_ne ML).trans h2, upd_same, (upd_ne (ne_of h4 h3 (by intro z; cases z))).trans h4, dps_put h3 h5 h7, dpl_app (dps_put h3 h6 h8) (.cons (dp_put h3 hx nx) .nil), h7, noLs_snoc h8 nx⟩
/-- another list is written -/
theorem PutI.other {D : Addr} {xs ys : List V} (h : PutI K H M L B vs hd us ps ws gs H') (hD : H' D = some (.lst xs)) (nD : H D = none) (MD : M ≠ D) (LD : L ≠ D) : PutI K H M L B vs hd us ps ws gs (upd H' D (.lst ys)) := by
  obtain ⟨h1, h2, h3, h4, h5, h6, h7, h8⟩ := h
  exact ⟨same_put h1 nD, (upd_ne MD).trans h2, (upd_ne LD).trans h3, (upd_ne (ne_of h4 hD (by intro z; cases z))).trans h4, dps_put hD h5 h7, dps_put hD h6 h8, h7, h8⟩
end
theorem seq0 (n : Nat) : seqIndex? 0 (n + 1) = some 0 := by simp [seqIndex?]
theorem slA_run {K : PySem.W.Frag} {H : Hp} {a : Addr} {xs : List V} {Q : VK} {lo hi : Option Int} (h : SqT K H a xs) (q : ∀ H' c, Same H H' → SqT K H' c (cutV xs lo hi) → Q (.ref c) H') : rSlA K (.ref a) lo hi H Q :=
  ⟨a, xs, rfl, h, fun hw => q H a same_id (by rw [show cutV xs lo hi = xs by unfold cutV; rw [hw.1, hw.2, List.drop_zero, Nat.sub_zero, List.take_length]]; exact h), fun _ p np => q _ p (same_new same_id np) (SqT.of upd_same)⟩
theorem slA_runN {K : PySem.W.Frag} {H : Hp} {a : Addr} {xs : List V} {Q : VK} {σ : L2.St} {lo : Option Int} (h : SqT K H a xs) (q : ∀ H' c, Same H H' → SqT K H' c (cutV xs lo none) → Q (.ref c) H') : tNoPart σ H (fun u H3 => rSlA K (.ref a) lo u H3 Q) := slA_run (hi := none) h q
theorem put_wf {m : Nat} {o : PyData} (ho : wf m o = true) : ∀ {n : Nat} {ns : List Nat} {t u : PyData}, wf n t = true → atT t ns = some u → wf (n + m) (putT t ns o) = true ∧ szW (putT t ns o) ≤ szW t + szW o
  | n, [], t, u, hw, h => by
    rw [putT]
    exact ⟨wf_mono ho (Nat.le_add_left _ _), Nat.le_add_left _ _⟩
  | n, k :: ns, t, u, hw, h => by
    obtain ⟨n, rfl⟩ : ∃ i, n = i + 1 := by
      cases n with
      | zero => cases hw
      | succ n => exact ⟨n, rfl⟩
    rw [atT] at h
    rw [putT]
    cases hp : (partsOf t)[k]? with
    | none => rw [hp] at h; cases h
    | some p =>
      rw [hp] at h
      have hwp := parts_wf hw
      obtain ⟨i1, i2⟩ := put_wf ho (hwp p (List.mem_of_getElem? hp)) h
      have hall : ∀ q ∈ (partsOf t).set k (putT p ns o), wf (n + m) q = true := fun q hq => by
        rcases List.mem_or_eq_of_mem_set hq with z | z
        · exact wf_mono (hwp q z) (Nat.le_add_right _ _)
        · rw [z]
          exact i1
      refine ⟨?_, ?_⟩
      · have := wpT_ok (Nat.le_add_right n m) hw (ps := (partsOf t).set k (putT p ns o)) (by rw [List.length_set]) hall
        rw [show n + 1 + m = n + m + 1 by omega]
        exact this
      · have h1 := sW_T (ps := (partsOf t).set k (putT p ns o)) hw (by rw [List.length_set])
        have h2 : ∀ (l : List PyData) (k : Nat) (q : PyData), l[k]? = some p → szWL (l.set k q) + szW p = szWL l + szW q := by
          intro l
          induction l with
          | nil => intro k q h; simp at h
          | cons x l ih =>
            intro k q h
            cases k with
            | zero =>
              cases h
              simp only [List.set_cons_zero, szWL]
              omega
            | succ k =>
              have := ih k q (by simpa using h)
              simp only [List.set_cons_succ, szWL]
              omega
        have h3 := h2 (partsOf t) k (putT p ns o) hp
        show szW (wpT t ((partsOf t).set k (putT p ns o))) ≤ _
        omega
abbrev sPu : Stmt := top 65
abbrev NPu : List Str := ["_law_term", "_law_seat", "_law_part", "_law_left", "_law_slots_here", "_law_found", "_law_slot", "_law_x", "_law_entry", "_law_one"]
def spPu (K : PySem.W.Frag) (j : Nat) : Sp := fun vs H Q _ => ∃ (v : V) (a : Addr) (w0 : V) (n m : Nat) (t o u : PyData) (ns : List Nat), vs = [v, .ref a, w0] ∧ Dp K H v t ∧ wf n t = true ∧ Dp K H w0 o ∧ wf m o = true ∧ SqT K H a (ns.map natV) ∧ ns.length < j ∧ atT t ns = some u ∧
  ∀ H' u, Same H H' → Dp K H' u (putT t ns o) → Q u H'
section
variable {P : Program} {w : World} {K : PySem.W.Frag} {mg : Str → Option Value} {base : Heap}
theorem scPu : FnScope NPu ["_law_term", "_law_seat", "_law_part"] (defScope sPu) := ⟨rfl, rfl, rfl, by decide +kernel, rfl, by decide +kernel, by decide +kernel⟩
theorem ok_pu {f fP fS fT : Addr} {fd fdP fdS fdT : FuncData} (F : Fun K "_law_put" "_law_put" sPu f fd) (mF : mg "_law_put" = some (.ref f)) (kF : PySem.W.keepIn K (.ref f) = true) (bF : Binds K fd ["_law_term", "_law_seat", "_law_part"] [])
    (GP : FnOk P w K mg base CX0 2 fP fdP ["_law_term"] (spParts K)) (mP : mg "_law_parts" = some (.ref fP)) (kP : PySem.W.keepIn K (.ref fP) = true) (bP : Binds K fdP ["_law_term"] [])
    (GS : FnOk P w K mg base CX0 1 fS fdS ["_law_word"] (spSlot slF)) (mS : mg "_law_slots" = some (.ref fS)) (kS : PySem.W.keepIn K (.ref fS) = true) (bS : Binds K fdS ["_law_word"] [])
    (GT : FnOk P w K mg base CX0 1 fT fdT ["_law_word"] (spSlot slT)) (mT : mg "_law_test_slots" = some (.ref fT)) (kT : PySem.W.keepIn K (.ref fT) = true) (bT : Binds K fdT ["_law_word"] [])
    (mZip : mg "zip" = none) (mTup : mg "tuple" = none) :
    ∀ j : Nat, FnOk P w K mg base CX0 (j + 3) f fd ["_law_term", "_law_seat", "_law_part"] (spPu K j) := by
  intro j
  induction j with
  | zero => exact F.ok (k := 2) scPu (fun vs H Q E h => by obtain ⟨v, a, w0, n, m, t, o, u, ns, _, _, _, _, _, _, h0, _⟩ := h; exact absurd h0 (Nat.not_lt_zero _)) (fun cdv A outer s H vs Q E hr h => by obtain ⟨v, a, w0, n, m, t, o, u, ns, _, _, _, _, _, _, h0, _⟩ := h; exact absurd h0 (Nat.not_lt_zero _))
  | succ j ih =>
    refine F.ok (k := j + 3) scPu (fun vs H Q E h => ?_) (fun cdv A outer s H vs Q E hr h => ?_)
    · obtain ⟨v, a, w0, n, m, t, o, u, ns, rfl, _⟩ := h
      rfl
    · obtain ⟨v, a, w0, n, m, t, o, u, ns, rfl, hv, hw, ho, hwo, ha, hj, hat, q⟩ := h
      have hr2 : Room 2 (A.deeper (PyProof.Rows.envOfC "_law_put" (defScope sPu) s.heap.objs.size f cdv)) := hr.mono (by omega)
      have hr1 : Room 1 (A.deeper (PyProof.Rows.envOfC "_law_put" (defScope sPu) s.heap.objs.size f cdv)) := hr.mono (by omega)
      have hu := hr.units
      refine ⟨_, pss_cons (ps_if (pt_cmpR (op_eqT0 hu) (pv 1) (pe_tup pa_nil) (nomark _)) (pss_one (ps_ret (pv 2))) pss_nil)
        (pss_cons (ps_set (i := 3) scPu.nd rfl (Or.inr rfl) (pe_call GP hr2 (by rfl) mP kP bP .nil pass0 (pa_cons (pv 0) pa_nil)))
        (pss_cons (ps_asg (pe_call ih hr (by rfl) mF kF bF .nil pass0 (pa_cons (pe_ix ix_list (pv 3) (pe_ix ix_tup (pv 1) pe_int (fun _ _ => rfl)) (fun _ _ => rfl)) (pa_cons (pe_slice sl_tupA (pv 1) (po_some pe_int) po_none) (pa_cons (pv 2) pa_nil)))) (pg_sub (pv 3) (pe_ix ix_tup (pv 1) pe_int (fun _ _ => rfl)) set_list))
        (pss_cons (ps_set (i := 4) scPu.nd rfl (Or.inl rfl) (pe_ifExp (pt_cmpR op_notN (pe_call GS hr1 (by rfl) mS kS bS .nil pass0 (pa_cons (pe_ix ix_tup (pv 0) pe_int (fun _ _ => rfl)) pa_nil)) pe_non (nomark _))
          (pe_call GS hr1 (by rfl) mS kS bS .nil pass0 (pa_cons (pe_ix ix_tup (pv 0) pe_int (fun _ _ => rfl)) pa_nil)) (pe_call GT hr1 (by rfl) mT kT bT .nil pass0 (pa_cons (pe_ix ix_tup (pv 0) pe_int (fun _ _ => rfl)) pa_nil))))
        (pss_cons (ps_set (i := 5) scPu.nd rfl (Or.inl rfl) (pe_lst (pa_cons (pe_ix ix_tup (pv 0) pe_int (fun _ _ => rfl)) pa_nil)))
        (pss_cons (ps_for PassesOwn.never rfl (pi_zipS (by rfl) mZip (pa_cons (pv 4) (pa_cons (pe_slice sl_tup (pv 0) (po_some pe_int) po_none) pa_nil)))
          (pg_tup (by rfl) (pgs_cons (pg_name (i := 6) scPu.nd rfl (.inl rfl)) (pgs_cons (pg_name (i := 7) scPu.nd rfl (.inl rfl)) pgs_nil)))
          (pss_one (ps_if (pt_cmpR op_in_sign (pv 6) pe_str (by with_unfolding_all rfl))
            (pss_one (ps_expr (pe_bm PySem.F.plainAttrs_list PySem.F.slot_list_append PySem.F.type_list_append mt_append (pv 5) (pa_cons (pe_bm PySem.F.plainAttrs_list PySem.F.slot_list_pop PySem.F.type_list_pop mt_popAt (pv 3) (pa_cons pe_int pa_nil)) pa_nil))))
            (pss_one (ps_if (pt_cmpR op_eq (pv 6) pe_str (nomark _))
              (pss_one (ps_expr (pe_bm PySem.F.plainAttrs_list PySem.F.slot_list_append PySem.F.type_list_append mt_append (pv 5) (pa_cons (pe_callTy call_tuple_of (by rfl) mTup (by decide +kernel) (pa_cons (pe_lc (own := [("_law_entry", 8)]) (g := gName 8) (te := tTup (tCons (tOp (rIxT K) (tVar 8) (tC (.int 0))) (tCons (tBM K "list" rPopAt (tVar 3) (tCons (tC (.int 0)) tNil)) tNil))) (by rfl) scPu.nd (pi_tup (pv 7))
                (blkOk_by (own := [("_law_entry", 8)]) (N := NPu) (sc := defScope sPu) (by decide +kernel)) (fun _ _ _ _ _ => pg_name (i := 8) scPu.nd rfl (Or.inl rfl)) (fun _ _ _ _ _ => pts_nil)
                (fun _ _ _ _ _ => by exact (pe_tup (pa_cons (pe_ix ix_tup (pv 8) pe_int (fun _ _ => rfl)) (pa_cons (pe_bm PySem.F.plainAttrs_list PySem.F.slot_list_pop PySem.F.type_list_pop mt_popAt (pv 3) (pa_cons pe_int pa_nil)) pa_nil))))) pa_nil)) pa_nil))))
              (pss_one (ps_if (pt_cmpR op_eq (pv 6) pe_str (nomark _))
                (pss_one (ps_expr (pe_bm PySem.F.plainAttrs_list PySem.F.slot_list_append PySem.F.type_list_append mt_append (pv 5) (pa_cons (pe_callTy call_tuple_of (by rfl) mTup (by decide +kernel) (pa_cons (pe_lc (own := [("_law_one", 9)]) (g := gName 9) (te := tBM K "list" rPopAt (tVar 3) (tCons (tC (.int 0)) tNil)) (by rfl) scPu.nd (pi_tup (pv 7))
                  (blkOk_by (own := [("_law_one", 9)]) (N := NPu) (sc := defScope sPu) (by decide +kernel)) (fun _ _ _ _ _ => pg_name (i := 9) scPu.nd rfl (Or.inl rfl)) (fun _ _ _ _ _ => pts_nil)
                  (fun _ _ _ _ _ => by exact (pe_bm PySem.F.plainAttrs_list PySem.F.slot_list_pop PySem.F.type_list_pop mt_popAt (pv 3) (pa_cons pe_int pa_nil)))) pa_nil)) pa_nil))))
                (pss_one (ps_expr (pe_bm PySem.F.plainAttrs_list PySem.F.slot_list_append PySem.F.type_list_append mt_append (pv 5) (pa_cons (pv 7) pa_nil)))))))))))
        (pss_one (ps_ret (pe_callTy call_tuple_of (by rfl) mTup (by decide +kernel) (pa_cons (pv 5) pa_nil))))))))), ?_⟩
      refine ⟨_, rfl, Nat.zero_le _, fun T0 nT0 => ⟨a, T0, _, rfl, rfl, same_seqT (same_new same_id nT0) ha, SqT.of upd_same, _, rfl, ?_⟩⟩
      have s0 : Same H (upd H T0 (.tup [])) := same_new same_id nT0
      generalize upd H T0 (.tup []) = H0 at s0 ⊢
      cases ns with
      | nil =>
        refine ite2 (fun _ => ⟨_, rfl, q H0 _ s0 (dpM s0 ho)⟩) (fun c => absurd rfl c)
      | cons k ns =>
      refine ite2 (fun c => by cases c) (fun _ => ?_)
      refine nx_run ?_
      obtain ⟨n, rfl⟩ : ∃ i, n = i + 1 := by
        cases n with
        | zero => cases hw
        | succ n => exact ⟨n, rfl⟩
      refine ⟨_, rfl, v, n, t, rfl, dpM s0 hv, hw, fun H1 M us s1 nM hM hps lus => ?_⟩
      have s01 := s0.trans s1
      have nM0 : H M = none := fresh_of s0 nM
      rw [atT] at hat
      cases hp : (partsOf t)[k]? with
      | none => rw [hp] at hat; cases hat
      | some p =>
      rw [hp] at hat
      have lps := dpl_len hps
      have hk : k < us.length := by
        rw [lps]
        exact (List.getElem?_eq_some_iff.mp hp).1
      have huk : us[k]? = some us[k] := List.getElem?_eq_getElem hk
      obtain ⟨p', hp', hdk⟩ := dpl_get hps huk
      obtain rfl : p = p' := by rw [hp] at hp'; exact Option.some.inj hp'
      generalize us[k] = uk at huk hdk
      have hwp := parts_wf hw p (List.mem_of_getElem? hp)
      refine ⟨_, rfl, _, rfl, a, _, 0, natV k, rfl, rfl, same_seqT s01 ha, at_0 _ _, M, us, _, uk, rfl, rfl, SqL.of hM, at_nat huk, _, rfl, 1, rfl, ?_⟩
      refine slA_runN (same_seqT s01 ha) fun H2 c s2 hc => ?_
      rw [List.map_cons, cut_1] at hc
      have s02 := s01.trans s2
      refine ⟨_, rfl, uk, c, w0, n, m, p, o, u, ns, rfl, dpM (s1.trans s2) hdk, hwp, dpM s02 ho, hwo, hc, by simp only [List.length_cons] at hj; omega, hat, fun H3 x s3 hx => ?_⟩
      have s03 := s02.trans s3
      have hM3 := (s2.trans s3) _ _ hM
      obtain ⟨hwx, _⟩ := put_wf hwo hwp hat
      have hwq := parts_wf hw
      refine ⟨_, rfl, _, rfl, a, _, 0, natV k, rfl, rfl, same_seqT s03 ha, at_0 _ _, M, us, _, k, rfl, rfl, hM3, ixN_nat8 hk, ?_⟩
      have hput : putT t (k :: ns) o = wpT t ((partsOf t).set k (putT p ns o)) := by rw [putT, hp]
      rw [hput] at q
      have hall : ∀ q ∈ (partsOf t).set k (putT p ns o), wf (n + m) q = true := fun q hq => by
        rcases List.mem_or_eq_of_mem_set hq with z | z
        · exact wf_mono (hwq q z) (Nat.le_add_right _ _)
        · rw [z]
          exact hwx
      have hl0 : ((partsOf t).set k (putT p ns o)).length = (partsOf t).length := List.length_set ..
      have hu0 : DpAll K (upd H3 M (.lst (us.set k x))) (us.set k x) ((partsOf t).set k (putT p ns o)) := dpl_set k (dps_put hM3 (dpAllM ((s1.trans s2).trans s3) hps) (noLs_all fun d hd => noL_wf (hwq d hd))) (dp_put hM3 hx (noL_wf hwx))
      have s04 : Same H (upd H3 M (.lst (us.set k x))) := same_put s03 nM0
      have hM4 : (upd H3 M (.lst (us.set k x))) M = some (.lst (us.set k x)) := upd_same
      have lu0 : (us.set k x).length ≤ 1000 := by rw [List.length_set]; omega
      generalize upd H3 M (.lst (us.set k x)) = H4 at hu0 s04 hM4 ⊢
      generalize us.set k x = us0 at hu0 hM4 lu0 ⊢
      generalize (partsOf t).set k (putT p ns o) = ps0 at hu0 hall hl0 q
      obtain ⟨wd, fs, ks, rfl, hk', hf⟩ := wf_cases hw
      rw [partsOf_node (fs := fs) hk'] at hl0
      rw [wpT_node hk'] at q
      cases hv with
      | @tup av xs _ hseq hall' =>
      cases hall' with
      | @cons v0 vs d0 ds h0 hvs =>
      cases h0
      have hkl := flds_len hf
      have hvl := dpl_len hvs
      have hle := partsF_le ks fs
      have hx0 : ∀ H2, Same H4 H2 → SqT K H2 av (.str wd :: vs) := fun H2 s2 => same_seqT (s04.trans s2) hseq
      refine ⟨_, rfl, av, _, 0, _, rfl, rfl, hx0 _ same_id, at_0 _ _, wd, rfl, fun H5 s5 => ⟨rfl, _, rfl, ?_⟩⟩
      obtain ⟨z, hx, hxl, hxa, hxk⟩ := slot_form _ (lookup_mem hk')
      refine tif_both (R := fun H3 => Same H4 H3) (v := .str z) (fun H6 s6 => ?_) (fun hc Q' k => ?_) (fun hc Q' k => ?_)
      rotate_left
      · cases e : slF.lookup wd with
        | none => rw [e] at hc; cases hc
        | some y =>
          have ex : y = z := by
            unfold slotW at hx
            rw [e] at hx
            exact Option.some.inj hx
          subst ex
          refine ⟨_, rfl, av, _, 0, _, rfl, rfl, hx0 _ s5, at_0 _ _, wd, rfl, fun H3 s3 => ?_⟩
          rw [e]
          exact k H3 (s5.trans s3)
      · cases e : slF.lookup wd with
        | some y =>
          rw [e] at hc
          simp [optS] at hc
        | none =>
          have ex : slT.lookup wd = some z := by
            unfold slotW at hx
            rw [e] at hx
            exact hx
          refine ⟨_, rfl, av, _, 0, _, rfl, rfl, hx0 _ s5, at_0 _ _, wd, rfl, fun H3 s3 => ?_⟩
          rw [ex]
          exact k H3 (s5.trans s3)
      refine ⟨_, rfl, av, _, 0, _, rfl, rfl, hx0 _ s6, at_0 _ _, few (by show 1 ≤ 1000; decide), fun L nL => ?_⟩
      have s06 := s04.trans s6
      have nL0 : H L = none := fresh_of s06 nL
      have ML : M ≠ L := ne_of_none (s6 _ _ hM4) nL
      have s7 : Same H6 (upd H6 L (.lst [.str wd])) := same_new same_id nL
      have hL7 : (upd H6 L (.lst [.str wd])) L = some (.lst [.str wd]) := upd_same
      generalize upd H6 L (.lst [.str wd]) = H7 at s7 hL7 ⊢
      have s47 := s6.trans s7
      refine ⟨_, rfl, _, rfl, 1, rfl, av, _, rfl, hx0 _ s47, cut_1w _ _, fun B nB => ?_⟩
      rw [cut_1]
      have s8 : Same H7 (upd H7 B (.tup vs)) := same_new same_id nB
      have hB8 : (upd H7 B (.tup vs)) B = some (.tup vs) := upd_same
      generalize upd H7 B (.tup vs) = H8 at s8 hB8 ⊢
      have s48 := s47.trans s8
      refine ⟨z, B, vs, rfl, hxa, SqT.of hB8, ?_⟩
      have xsz : z.cps.size = ks.length := by
        have := congrArg List.length hxl
        rw [List.length_map] at this
        simpa using this
      have vk : vs.length = ks.length := by omega
      have k4 : ks.length ≤ 4 := forms_len _ (lookup_mem hk')
      have P0 : PutI K H M L B vs (.str wd) us0 ps0 [] [] H8 := ⟨s04.trans s48, s48 _ _ hM4, s8 _ _ hL7, hB8, dpAllM s48 hu0, .nil, noLs_all fun d hd => noL_wf (hall d hd), rfl⟩
      have lu := dpl_len hu0
      refine for_zipS (K := K) (x := z) (b := B) (ys := vs) (by omega) (fun i σ H' => ∃ (ws : List V) (b c : Option V), σ = [some (.ref av), some (.ref a), some w0, some (.ref M), some (.str z), some (.ref L), b, c, none, none] ∧ PutI K H M L B vs (.str wd) (us0.drop (partsF (ks.take i) (fs.take i)).length) (ps0.drop (partsF (ks.take i) (fs.take i)).length) ws (wpF (ks.take i) (fs.take i) ps0) H' ∧ ws.length = i)
        ⟨[], none, none, rfl, by simpa [partsF, wpF] using P0, rfl⟩ ?_ ?_ ?_
      · rintro i σ H' ⟨ws, b, c, _, I, _⟩
        exact SqT.of I.hB
      · rintro i cc y T σ H9 hc hy ⟨ws, b, c, rfl, I, hwl⟩ nT
        have hi : i < vs.length := (List.getElem?_eq_some_iff.mp hy).1
        have hyv := hy
        obtain ⟨f0, hf0, hyf⟩ := dpl_get hvs hy
        have hki : ks[i]? = some ks[i] := List.getElem?_eq_getElem (by omega)
        generalize ks[i] = k0 at hki
        have hcl : cc = letC k0 := by
          have : z.cps.toList[i]? = some cc := by rw [Array.getElem?_toList]; exact hc
          rw [hxl, List.getElem?_map, hki] at this
          exact (Option.some.inj this).symm
        subst hcl
        obtain ⟨e1, e2, e3⟩ := hxk k0 (List.mem_of_getElem? hki)
        have hfo := flds_get hf hki hf0
        have hpt' := partsF_take ks fs i hki hf0
        have hsn := wpF_snoc (ps := ps0) hki hf0
        have hb1 := hle (i + 1)
        rw [hpt', List.length_append] at hb1
        generalize hbg : (partsF (ks.take i) (fs.take i)).length = bg at hsn hb1 I
        have hmid : (List.take (partsK k0 f0).length (List.drop bg ps0)).length = (partsK k0 f0).length := by
          rw [List.length_take, List.length_drop]
          omega
        have hmw : ∀ q ∈ List.take (partsK k0 f0).length (List.drop bg ps0), wf (n + m) q = true := fun q hq => hall q (List.mem_of_mem_drop (List.mem_of_mem_take hq))
        have hwk := wpK_ok (Nat.le_add_right n m) hfo hmid hmw
        have hno := noL_fld (fun t => noL_wf (n := n + m)) hwk
        have I := I.new (same_new same_id nT : Same H9 (upd H9 T (.tup [.str ⟨#[letC k0]⟩, y])))
        refine ⟨T, _, rfl, SqT.of upd_same, rfl, _, _, rfl, _, _, rfl, rfl, ?_⟩
        generalize upd H9 T (.tup [.str ⟨#[letC k0]⟩, y]) = H10 at I ⊢
        have fin : ∀ (x : V) (H7 : Hp) (b c : Option V), PutI K H M L B vs (.str wd) (us0.drop (bg + (partsK k0 f0).length)) (ps0.drop (bg + (partsK k0 f0).length)) ws (wpF (ks.take i) (fs.take i) ps0) H7 → Dp K H7 x (wpK k0 f0 ((ps0.drop bg).take (partsK k0 f0).length)) →
            ∃ (ws' : List V) (b' c' : Option V), [some (V.ref av), some (.ref a), some w0, some (.ref M), some (.str z), some (.ref L), b, c, none, none] = [some (.ref av), some (.ref a), some w0, some (.ref M), some (.str z), some (.ref L), b', c', none, none] ∧ PutI K H M L B vs (.str wd) (us0.drop (partsF (ks.take (i + 1)) (fs.take (i + 1))).length) (ps0.drop (partsF (ks.take (i + 1)) (fs.take (i + 1))).length) ws' (wpF (ks.take (i + 1)) (fs.take (i + 1)) ps0) (upd H7 L (.lst (.str wd :: (ws ++ [x])))) ∧ ws'.length = i + 1 := by
          intro x H7 b c I7 hx
          refine ⟨ws ++ [x], b, c, rfl, ?_, by rw [List.length_append, List.length_singleton, hwl]⟩
          rw [hpt', List.length_append, hbg, hsn]
          exact I7.push nL0 ML hx hno
        refine ⟨_, rfl, _, _, rfl, rfl, _, rfl, ite2 (fun c1 => ?_) (fun c1 => ?_)⟩
        · have hP : PK k0 = true := e1.trans c1
          have ep : partsK k0 f0 = [f0] := by unfold partsK; rw [if_pos hP]
          have e1 : (partsK k0 f0).length = 1 := by rw [ep]; rfl
          rw [e1] at fin hb1
          have hlt : bg < us0.length := by omega
          have hlp : bg < ps0.length := by omega
          rw [List.drop_eq_getElem_cons hlt, List.drop_eq_getElem_cons hlp] at I
          obtain ⟨I2, hu2, _⟩ := I.pop nM0 ML
          have hD := I.hM
          refine ⟨_, rfl, .inl ⟨rfl, _, SqL.of I.hL⟩, _, rfl, .inl ⟨rfl, _, SqL.of I.hM⟩, M, _, 0, 0, _, rfl, rfl, hD, by decide, by decide, seq0 _, rfl, ?_⟩
          refine ⟨L, _, _, rfl, rfl, I2.hL, small1000 (by rw [List.length_cons]; omega), ?_⟩
          refine fin _ _ _ _ I2 ?_
          have ew : wpK k0 f0 ((ps0.drop bg).take 1) = ps0[bg] := by
            unfold wpK
            rw [if_pos hP, List.drop_eq_getElem_cons hlp]
            rfl
          rw [ew]
          exact hu2
        have hP : PK k0 = false := by
          rw [e1]
          exact Bool.eq_false_iff.mpr c1
        have hPn : ¬ PK k0 = true := by rw [hP]; exact Bool.false_ne_true
        refine ⟨_, rfl, rfl, _, rfl, ite2 (fun c2 => ?_) (fun c2 => ?_)⟩
        · have hE : k0 = "entries" := by
            have : decide (k0 = "entries") = true := by
              rw [e2]
              rw [← c2]
              exact (dec_str.trans (by rw [Bool.eq_iff_iff]; simp)).symm
            exact of_decide_eq_true this
          subst hE
          obtain ⟨gs, rfl, g8, gall⟩ := tupAll_cases (fld_e hfo)
          cases hyf with
          | @tup ay zs _ hzq hza =>
          have zl := dpl_len hza
          have ep : (partsK "entries" (.tuple gs)).length = gs.length := by
            unfold partsK
            rw [if_neg hPn, if_neg (by decide +kernel), if_pos rfl]
            simp [itemsD]
          rw [ep] at fin hb1 hno hmid
          have ew : wpK "entries" (.tuple gs) ((ps0.drop bg).take gs.length) = .tuple (zipE gs ((ps0.drop bg).take gs.length)) := by
            unfold wpK
            rw [if_neg hPn, if_neg (by decide +kernel), if_pos rfl]
            rfl
          rw [ew] at fin hno
          have hno' : noLs (zipE gs ((ps0.drop bg).take gs.length)) = true := hno
          refine ⟨_, rfl, .inl ⟨rfl, _, SqL.of I.hL⟩, _, rfl, ay, rfl, ⟨zs, same_seqT I.same hzq⟩, fun D nD => ?_⟩
          have nD0 : H D = none := fresh_of I.same nD
          have MD : M ≠ D := ne_of_none I.hM nD
          have LD : L ≠ D := ne_of_none I.hL nD
          refine lc_tup (K := K) (a := ay) (xs := zs) (fun j H' => ∃ rs : List V, PutI K H M L B vs (.str wd) (us0.drop (bg + j)) (ps0.drop (bg + j)) ws (wpF (ks.take i) (fs.take i) ps0) H' ∧ H' D = some (.lst rs) ∧ DpAll K H' rs ((zipE gs ((ps0.drop bg).take gs.length)).take j) ∧ rs.length = j) ⟨[], I.new (same_new same_id nD), upd_same, by simp; exact .nil, rfl⟩ ?_ ?_ ?_
          · rintro j H' _ ⟨rs, I', _⟩
            exact same_seqT I'.same hzq
          · rintro j zv H' hz ⟨rs, I', hD, hrs, lrs⟩
            have hj := (List.getElem?_eq_some_iff.mp hz).1
            obtain ⟨g0, hg0, hzg⟩ := dpl_get hza hz
            obtain ⟨kx, g', rfl, _, _⟩ := isEnt_cases (List.all_eq_true.mp gall g0 (List.mem_of_getElem? hg0))
            cases hzg with
            | @tup az es _ heq hea =>
            cases hea with
            | @cons e0 es1 _ _ k0' hea1 =>
            have hlt : bg + j < us0.length := by omega
            have hlp : bg + j < ps0.length := by omega
            have hze := zipE_get hg0 (show ((ps0.drop bg).take gs.length)[j]? = some ps0[bg + j] by rw [List.getElem?_take_of_lt (by omega), List.getElem?_drop, List.getElem?_eq_getElem hlp])
            rw [List.drop_eq_getElem_cons hlt, List.drop_eq_getElem_cons hlp] at I'
            obtain ⟨I2, hu2, hn2⟩ := I'.pop nM0 ML
            have hM' := I'.hM
            have hseq' := same_seqT I'.same heq
            refine ⟨rfl, _, rfl, az, _, 0, _, rfl, rfl, hseq', at_0 _ _, _, rfl, .inl ⟨rfl, _, SqL.of hM'⟩, M, _, 0, 0, _, rfl, rfl, hM', by decide, by decide, seq0 _, rfl, few (by show 2 ≤ 1000; decide), fun T2 nT2 => ?_⟩
            have hD2 : (upd H' M (.lst (us0.drop (bg + j + 1)))) D = some (.lst rs) := (upd_ne MD.symm).trans hD
            have hrs2 : DpAll K (upd H' M (.lst (us0.drop (bg + j + 1)))) rs _ := dps_put hM' hrs (noLs_take _ hno')
            have hk2 : Dp K (upd H' M (.lst (us0.drop (bg + j + 1)))) e0 (.str kx) := dpM (I2.same) k0'
            have nT2 : (upd H' M (.lst (us0.drop (bg + j + 1)))) T2 = none := nT2
            show ∃ acc, _
            have e4 : (us0[bg + j] :: us0.drop (bg + j + 1)).eraseIdx 0 = us0.drop (bg + j + 1) := rfl
            rw [e4]
            generalize upd H' M (.lst (us0.drop (bg + j + 1))) = H11 at I2 hu2 hD2 hrs2 hk2 nT2 ⊢
            have s11 : Same H11 (upd H11 T2 (.tup [e0, us0[bg + j]])) := same_new same_id nT2
            have hT2 : SqT K (upd H11 T2 (.tup [e0, us0[bg + j]])) T2 [e0, us0[bg + j]] := SqT.of upd_same
            generalize upd H11 T2 (.tup [e0, us0[bg + j]]) = H12 at s11 hT2 ⊢
            have hD12 := s11 _ _ hD2
            have htk : (zipE gs ((ps0.drop bg).take gs.length)).take (j + 1) = (zipE gs ((ps0.drop bg).take gs.length)).take j ++ [.tuple [.str kx, ps0[bg + j]]] := by
              rw [List.take_add_one, hze]
              rfl
            refine ⟨rs, hD12, small1000 (by omega), rs ++ [.ref T2], (I2.new s11).other hD12 nD0 MD LD, upd_same, ?_, by rw [List.length_append, List.length_singleton, lrs]⟩
            rw [htk]
            exact dpl_app (dps_put hD12 (dpAllM s11 hrs2) (noLs_take _ hno')) (.cons (dp_put hD12 (.tup hT2 (.cons (dpM s11 hk2) (.cons (dpM s11 hu2) .nil))) (noLs_mem hno' (List.mem_of_getElem? hze))) .nil)
          · rintro H11 ⟨rs, I', hD, hrs, lrs⟩
            have lz : (zipE gs ((ps0.drop bg).take gs.length)).length = zs.length := by rw [zipE_len (by omega), zl]
            rw [List.take_of_length_le (by omega)] at hrs
            refine ⟨D, rs, rfl, .inl ⟨SqL.of hD, fun T2 nT2 => ?_⟩⟩
            have s11 : Same H11 (upd H11 T2 (.tup rs)) := same_new same_id nT2
            have hT2 : SqT K (upd H11 T2 (.tup rs)) T2 rs := SqT.of upd_same
            generalize upd H11 T2 (.tup rs) = H12 at s11 hT2 ⊢
            have I3 := I'.new s11
            rw [zl] at I3
            refine ⟨L, _, .ref T2, rfl, rfl, I3.hL, small1000 (by rw [List.length_cons]; omega), ?_⟩
            exact fin (.ref T2) H12 _ _ I3 (.tup hT2 (dpAllM s11 hrs))
        refine ⟨_, rfl, rfl, _, rfl, ite2 (fun c3 => ?_) (fun c3 => ?_)⟩
        · have hE : k0 = "filters" := by
            have : decide (k0 = "filters") = true := by
              rw [e3]
              rw [← c3]
              exact (dec_str.trans (by rw [Bool.eq_iff_iff]; simp)).symm
            exact of_decide_eq_true this
          subst hE
          obtain ⟨gs, rfl, g8, gall⟩ := tupAll_cases (fld_f hfo)
          cases hyf with
          | @tup ay zs _ hzq hza =>
          have zl := dpl_len hza
          have ep : partsK "filters" (.tuple gs) = gs := by
            unfold partsK
            rw [if_neg hPn, if_pos rfl]
            rfl
          rw [ep] at fin hb1 hno hmid hmw
          have ew : wpK "filters" (.tuple gs) ((ps0.drop bg).take gs.length) = .tuple ((ps0.drop bg).take gs.length) := by
            unfold wpK
            rw [if_neg hPn, if_pos rfl]
          rw [ew] at fin hno
          have hno' : noLs ((ps0.drop bg).take gs.length) = true := hno
          refine ⟨_, rfl, .inl ⟨rfl, _, SqL.of I.hL⟩, _, rfl, ay, rfl, ⟨zs, same_seqT I.same hzq⟩, fun D nD => ?_⟩
          have nD0 : H D = none := fresh_of I.same nD
          have MD : M ≠ D := ne_of_none I.hM nD
          have LD : L ≠ D := ne_of_none I.hL nD
          refine lc_tup (K := K) (a := ay) (xs := zs) (fun j H' => ∃ rs : List V, PutI K H M L B vs (.str wd) (us0.drop (bg + j)) (ps0.drop (bg + j)) ws (wpF (ks.take i) (fs.take i) ps0) H' ∧ H' D = some (.lst rs) ∧ DpAll K H' rs (((ps0.drop bg).take gs.length).take j) ∧ rs.length = j) ⟨[], I.new (same_new same_id nD), upd_same, by simp; exact .nil, rfl⟩ ?_ ?_ ?_
          · rintro j H' _ ⟨rs, I', _⟩
            exact same_seqT I'.same hzq
          · rintro j zv H' hz ⟨rs, I', hD, hrs, lrs⟩
            have hj := (List.getElem?_eq_some_iff.mp hz).1
            have hlt : bg + j < us0.length := by omega
            have hlp : bg + j < ps0.length := by omega
            have hpe : ((ps0.drop bg).take gs.length)[j]? = some ps0[bg + j] := by rw [List.getElem?_take_of_lt (by omega), List.getElem?_drop, List.getElem?_eq_getElem hlp]
            rw [List.drop_eq_getElem_cons hlt, List.drop_eq_getElem_cons hlp] at I'
            obtain ⟨I2, hu2, hn2⟩ := I'.pop nM0 ML
            have hM' := I'.hM
            refine ⟨rfl, _, rfl, .inl ⟨rfl, _, SqL.of hM'⟩, M, _, 0, 0, _, rfl, rfl, hM', by decide, by decide, seq0 _, rfl, ?_⟩
            have hD2 : (upd H' M (.lst (us0.drop (bg + j + 1)))) D = some (.lst rs) := (upd_ne MD.symm).trans hD
            have hrs2 : DpAll K (upd H' M (.lst (us0.drop (bg + j + 1)))) rs _ := dps_put hM' hrs (noLs_take _ hno')
            show ∃ acc, _
            have e4 : (us0[bg + j] :: us0.drop (bg + j + 1)).eraseIdx 0 = us0.drop (bg + j + 1) := rfl
            rw [e4]
            generalize upd H' M (.lst (us0.drop (bg + j + 1))) = H11 at I2 hu2 hD2 hrs2 ⊢
            refine ⟨rs, hD2, small1000 (by omega), rs ++ [us0[bg + j]], I2.other hD2 nD0 MD LD, upd_same, ?_, by rw [List.length_append, List.length_singleton, lrs]⟩
            rw [List.take_add_one, hpe]
            exact dpl_app (dps_put hD2 hrs2 (noLs_take _ hno')) (.cons (dp_put hD2 hu2 hn2) .nil)
          · rintro H11 ⟨rs, I', hD, hrs, lrs⟩
            rw [List.take_of_length_le (by rw [List.length_take]; omega)] at hrs
            refine ⟨D, rs, rfl, .inl ⟨SqL.of hD, fun T2 nT2 => ?_⟩⟩
            have s11 : Same H11 (upd H11 T2 (.tup rs)) := same_new same_id nT2
            have hT2 : SqT K (upd H11 T2 (.tup rs)) T2 rs := SqT.of upd_same
            generalize upd H11 T2 (.tup rs) = H12 at s11 hT2 ⊢
            have I3 := I'.new s11
            rw [zl] at I3
            refine ⟨L, _, .ref T2, rfl, rfl, I3.hL, small1000 (by rw [List.length_cons]; omega), ?_⟩
            exact fin (.ref T2) H12 _ _ I3 (.tup hT2 (dpAllM s11 hrs))
        · have n1 : ¬ k0 = "entries" := by
            intro z
            have : decide (k0 = "entries") = true := decide_eq_true z
            rw [e2] at this
            exact c2 ((dec_str.trans (by rw [Bool.eq_iff_iff]; simp)).trans this)
          have n2 : ¬ k0 = "filters" := by
            intro z
            have : decide (k0 = "filters") = true := decide_eq_true z
            rw [e3] at this
            exact c3 ((dec_str.trans (by rw [Bool.eq_iff_iff]; simp)).trans this)
          have ep : (partsK k0 f0).length = 0 := by
            unfold partsK
            rw [if_neg hPn, if_neg n2, if_neg n1]
            rfl
          have ew : wpK k0 f0 ((ps0.drop bg).take (partsK k0 f0).length) = f0 := by
            unfold wpK
            rw [if_neg hPn, if_neg n2, if_neg n1]
          rw [ew, ep] at fin
          refine ⟨_, rfl, .inl ⟨rfl, _, SqL.of I.hL⟩, _, rfl, L, _, y, rfl, rfl, I.hL, small1000 (by rw [List.length_cons]; omega), ?_⟩
          exact fin y H10 _ _ I (dpM I.same hyf)
      · rintro σ H9 ⟨ws, b, c, rfl, I, hwl⟩
        rw [vk, List.take_length, List.take_of_length_le (by omega)] at I
        refine ⟨_, rfl, L, _, rfl, .inl ⟨SqL.of I.hL, fun R nR => q _ _ (same_new I.same nR) (.tup (SqT.of upd_same) (.cons (.str _) (dpAllM (same_new same_id nR) I.dw)))⟩⟩
end
end Toy


namespace Toy
open PySem PySem.Spec L2 PyProof.Rows PySem.W
/-! ### any value -/
abbrev sOdd : Stmt := top 46
def OdP (K : PySem.W.Frag) (z : Addr) (n e : Nat) (H : Hp) (v : V) : Prop := ∃ t, Dp K (delH H z) v t ∧ Fit t n e
def Od (K : PySem.W.Frag) (z : Addr) (H : Hp) (v : V) : Prop := ∃ t : PyData, (Dp K (delH H z) v t ∨ Sd K (delH H z) v t) ∧ t.showable = true ∧ t.depth ≤ 4 ∧ t.shown.length ≤ 200 ∧ ∀ ds, t = .tuple ds → ds.length ≤ 100
theorem oS {K : PySem.W.Frag} {z : Addr} {n e : Nat} : ∀ H H' v, Same H H' → OdP K z n e H v → OdP K z n e H' v := fun _ _ _ s ⟨t, h, f⟩ => ⟨t, dpM (But.off (Same.but s z)) h, f⟩
theorem od_st {K : PySem.W.Frag} {z : Addr} : ∀ H H' v, But z H H' → Od K z H v → Od K z H' v := fun _ _ _ b ⟨t, h, f⟩ => ⟨t, h.elim (fun h => .inl (dpM (But.off b) h)) fun h => .inr (sdM (But.off b) h), f⟩
theorem oO {K : PySem.W.Frag} {z : Addr} : ∀ H H' v, Same H H' → Od K z H v → Od K z H' v := fun _ _ _ s h => od_st _ _ _ (Same.but s z) h
theorem szWL_ge : ∀ ds : List PyData, 2 * ds.length ≤ szWL ds
  | [] => Nat.le_refl _
  | d :: ds => by
    have := szWL_ge ds
    rw [List.length_cons, szWL]
    omega
theorem del_new {H : Hp} {p z : Addr} {u : HO} (h : p ≠ z) : delH (upd H p u) z p = some u := by
  rw [delH_ne h, upd_same]
theorem od_all {K : PySem.W.Frag} {z : Addr} {n e : Nat} {H : Hp} : ∀ {vs : List V}, (∀ v ∈ vs, OdP K z n e H v) → ∃ ds, DpAll K (delH H z) vs ds ∧ FitL ds n (vs.length * (e + 2))
  | [], _ => ⟨[], .nil, fitL_nil⟩
  | v :: vs, h => by
    obtain ⟨t, h1, h2⟩ := h v List.mem_cons_self
    obtain ⟨ds, h3, h4⟩ := od_all fun x hx => h x (List.mem_cons_of_mem _ hx)
    exact ⟨t :: ds, .cons h1 h3, (fitL_cons h2 h4).mono (Nat.le_refl _) (by rw [List.length_cons, Nat.succ_mul]; omega)⟩
def MkE (X : Cx) (z : Addr) (R : Hp → V → Prop) (ex : Expr) : Prop := ∃ te, PE X ex te ∧ ∀ (σ : L2.St) (H : Hp) (Q : VK), (∃ o, H z = some o) → (∀ v H', Same H H' → R H' v → Q v H') → te σ H Q
def MkA (X : Cx) (z : Addr) (R : Hp → V → Prop) (es : List Expr) : Prop := ∃ ta, PA X es ta ∧ ∀ (σ : L2.St) (H : Hp) (Q : List V → Hp → Prop), (∃ o, H z = some o) → (∀ vs H', Same H H' → vs.length = es.length → (∀ v ∈ vs, R H' v) → Q vs H') → ta σ H Q
def IntE (X : Cx) (e : Expr) (i : Int) : Prop := ∃ te, PE X e te ∧ ∀ (σ : L2.St) (H : Hp) (Q : VK), Q (.int i) H → te σ H Q
def intB (i : Int) (e : Nat) : Bool := (PyData.int i).showable && decide ((PyData.shown (.int i)).length ≤ e)
theorem fit_intB {i : Int} {n e : Nat} (h : intB i e = true) : Fit (.int i) n e := by
  unfold intB at h
  rw [Bool.and_eq_true] at h
  exact ⟨h.1, Nat.zero_le _, by rw [szW]; exact of_decide_eq_true h.2⟩
section
variable {X : Cx} {z : Addr} {n e : Nat} {pos : Pos} {ex : Expr} {es : List Expr} {R : Hp → V → Prop}
theorem ie_const {i : Int} {k : Nat} : IntE X (.Constant (.int i) k pos) i := ⟨_, pe_int, fun _ _ _ q => q⟩
theorem ie_neg {i : Int} (h : IntE X ex i) : IntE X (.UnaryOp .USub ex pos) (-i) := by
  obtain ⟨t, p, k⟩ := h
  exact ⟨_, pe_un un_neg p, fun σ H Q q => k σ H _ ⟨i, rfl, q⟩⟩
theorem ie_pow {e2 : Expr} {i j : Int} (h : IntE X ex i) (h2 : IntE X e2 j) (c : 0 ≤ j ∧ j ≤ 1000000 ∧ i.natAbs < 2 ^ 64) : IntE X (.BinOp ex .Pow e2 pos) (i ^ j.toNat) := by
  obtain ⟨t, p, k⟩ := h
  obtain ⟨t2, p2, k2⟩ := h2
  exact ⟨_, pe_op op_pow p p2, fun σ H Q q => k σ H _ (k2 σ H _ ⟨i, j, rfl, rfl, c, q⟩)⟩
theorem mk_I {i : Int} (h : IntE X ex i) (b : intB i e = true) : MkE X z (OdP X.K z n e) ex := by
  obtain ⟨t, p, k⟩ := h
  exact ⟨_, p, fun σ H Q _ q => k σ H Q (q _ H same_id ⟨_, .int i, fit_intB b⟩)⟩
theorem mk_int {i : Int} {k : Nat} (b : intB i e = true) : MkE X z (OdP X.K z n e) (.Constant (.int i) k pos) := mk_I ie_const b
theorem mk_neg {i : Int} {k : Nat} {p : Pos} (b : intB (-i) e = true) : MkE X z (OdP X.K z n e) (.UnaryOp .USub (.Constant (.int i) k p) pos) := mk_I (ie_neg ie_const) b
theorem mk_pow {i j : Int} {k k' : Nat} {p p' : Pos} (h : 0 ≤ j ∧ j ≤ 1000000 ∧ i.natAbs < 2 ^ 64) (b : intB (i ^ j.toNat) e = true) : MkE X z (OdP X.K z n e) (.BinOp (.Constant (.int i) k p) .Pow (.Constant (.int j) k' p') pos) := mk_I (ie_pow ie_const ie_const h) b
theorem mk_str {x : Str} {k : Nat} (ok : (PyData.shown (.str x)).length ≤ e) : MkE X z (OdP X.K z n e) (.Constant (.str x) k pos) := ⟨_, pe_str, fun _ H _ _ q => q _ H same_id ⟨_, .str x, fit_str ok⟩⟩
theorem mk_bl {b : Bool} {k : Nat} (h : 5 ≤ e := by decide) : MkE X z (OdP X.K z n e) (.Constant (.bool b) k pos) := ⟨_, pe_bl, fun _ H _ _ q => q _ H same_id ⟨_, .bl b, ⟨rfl, Nat.zero_le _, h⟩⟩⟩
theorem mk_non {k : Nat} (h : 4 ≤ e := by decide) : MkE X z (OdP X.K z n e) (.Constant .none k pos) := ⟨_, pe_non, fun _ H _ _ q => q _ H same_id ⟨_, .non, ⟨rfl, Nat.zero_le _, h⟩⟩⟩
theorem mk_nil : MkA X z R [] := ⟨_, pa_nil, fun _ H _ _ q => q [] H same_id rfl (fun _ h => by simp at h)⟩
theorem mk_cons (hR : ∀ H H' v, Same H H' → R H v → R H' v) (a : MkE X z R ex) (r : MkA X z R es) (he : starEach (ex :: es) X.env = (false, eval ex X.env) :: starEach es X.env := by rfl) : MkA X z R (ex :: es) := by
  obtain ⟨te, p1, m1⟩ := a
  obtain ⟨ta, p2, m2⟩ := r
  refine ⟨_, pa_cons p1 p2 he, fun σ H Q hz q => ?_⟩
  refine m1 σ H _ hz fun v H1 s1 d1 => ?_
  obtain ⟨o, ho⟩ := hz
  exact m2 σ H1 _ ⟨o, s1 _ _ ho⟩ fun vs H2 s2 l2 d2 => q (v :: vs) H2 (fun b u h => s2 _ _ (s1 _ _ h)) (by rw [List.length_cons, List.length_cons, l2]) fun x hx => by
    rcases List.mem_cons.mp hx with rfl | hx
    · exact hR _ _ _ s2 d1
    · exact d2 x hx
theorem mk_tup {x1 n' e' : Nat} (a : MkA X z (OdP X.K z n' e') es) (h : es.length ≤ 5 ∧ 3 + es.length * (e' + 2) ≤ e ∧ n' + 1 ≤ n) : MkE X z (OdP X.K z n e) (.Tuple es x1 pos) := by
  obtain ⟨ta, p1, m1⟩ := a
  refine ⟨_, pe_tup p1, fun σ H Q hz q => m1 σ H _ hz fun vs H1 s1 l1 d1 => ⟨few (by omega), fun p np => ?_⟩⟩
  obtain ⟨o, ho⟩ := hz
  have npz : p ≠ z := (ne_of_none (s1 _ _ ho) np).symm
  obtain ⟨ds, g1, g2⟩ := od_all d1
  rw [l1] at g2
  refine q _ _ (same_new s1 np) ⟨_, .tup (SqT.of (del_new npz)) (dpAllM (But.off (Same.but (same_new same_id np) z)) g1), (fit_tup g2).mono h.2.2 h.2.1⟩
theorem mk_lst {n' e' : Nat} (a : MkA X z (OdP X.K z n' e') es) (h : es.length ≤ 5 ∧ 3 + es.length * (e' + 2) ≤ e ∧ n' + 1 ≤ n) : MkE X z (OdP X.K z n e) (.List es pos) := by
  obtain ⟨ta, p1, m1⟩ := a
  refine ⟨_, pe_lst p1, fun σ H Q hz q => m1 σ H _ hz fun vs H1 s1 l1 d1 => ⟨few (by omega), fun p np => ?_⟩⟩
  obtain ⟨o, ho⟩ := hz
  have npz : p ≠ z := (ne_of_none (s1 _ _ ho) np).symm
  obtain ⟨ds, g1, g2⟩ := od_all d1
  rw [l1] at g2
  refine q _ _ (same_new s1 np) ⟨_, .lst (SqL.of (del_new npz)) (dpAllM (But.off (Same.but (same_new same_id np) z)) g1), (fit_lst g2).mono h.2.2 h.2.1⟩
theorem mk_up (a : MkE X z (OdP X.K z 4 150) ex) : MkE X z (Od X.K z) ex := by
  obtain ⟨te, p, m⟩ := a
  exact ⟨te, p, fun σ H Q hz q => m σ H Q hz fun v H' s ⟨t, h, f⟩ => q v H' s ⟨t, .inl h, f.shw, f.dep, Nat.le_trans (shown_le t (dp_noDict h)) (Nat.le_trans f.len (by decide)), fun ds e => by
    have h1 := f.len
    rw [e, szW] at h1
    have h2 := szWL_ge ds
    omega⟩⟩
def dictB (m : List (Key × V)) : Bool := (PyData.dict (m.map fun p => (keyD p.1, leafD p.2))).showable && decide ((PyData.dict (m.map fun p => (keyD p.1, leafD p.2))).depth ≤ 4) && decide ((PyData.dict (m.map fun p => (keyD p.1, leafD p.2))).shown.length ≤ 200)
theorem od_dict {K : PySem.W.Frag} {H : Hp} {p : Addr} {m : List (Key × V)} (h : delH H z p = some (.dK m)) (l : ∀ p ∈ m, leafV p.2) (b : dictB m = true) : Od K z H (.ref p) := by
  unfold dictB at b
  simp only [Bool.and_eq_true, decide_eq_true_eq] at b
  exact ⟨_, .inr (.dct h l), b.1.1, b.1.2, b.2, fun _ z => by cases z⟩
theorem mk_d0 : MkE X z (Od X.K z) (.Dict [] [] pos) := by
  refine ⟨_, pe_dnewK, fun σ H Q hz q p np => ?_⟩
  obtain ⟨o, ho⟩ := hz
  exact q _ _ (same_new same_id np) (od_dict (del_new (ne_of_none ho np).symm) (fun _ h => by cases h) (by decide +kernel))
theorem mk_d1 {k0 k1 : Nat} {kp p2 : Pos} {k : Str} {i : Int} (b : dictB [(Sum.inr k, .int i)] = true) : MkE X z (Od X.K z) (.Dict [some (.Constant (.str k) k0 kp)] [.Constant (.int i) k1 p2] pos) := by
  refine ⟨_, pe_disp (pps_cons pe_str pe_int pps_nil) (by rfl) (by rfl) (fun z => by cases z) (by show 1 ≤ 15; decide), fun σ H Q hz q p np => ?_⟩
  obtain ⟨o, ho⟩ := hz
  have npz : p ≠ z := (ne_of_none ho np).symm
  refine ⟨upd_same, [(Sum.inr k, .int i)], rfl, (by show 1 ≤ 15; decide), ?_⟩
  refine q _ _ (fun b u h => ?_) (od_dict (del_new npz) (fun p h => ?_) b)
  · rw [upd_ne (ne_of_none h np), upd_ne (ne_of_none h np)]
    exact h
  · rw [List.mem_singleton.mp h]
    exact .inl ⟨_, rfl⟩
theorem mk_d1i {k0 k1 : Nat} {kp p2 : Pos} {k : Str} {i : Int} (b : dictB [(Sum.inl i, .str k)] = true) : MkE X z (Od X.K z) (.Dict [some (.Constant (.int i) k0 kp)] [.Constant (.str k) k1 p2] pos) := by
  refine ⟨_, pe_disp (pps_cons pe_int pe_str pps_nil) (by rfl) (by rfl) (fun z => by cases z) (by show 1 ≤ 15; decide), fun σ H Q hz q p np => ?_⟩
  obtain ⟨o, ho⟩ := hz
  have npz : p ≠ z := (ne_of_none ho np).symm
  refine ⟨upd_same, [(Sum.inl i, .str k)], rfl, (by show 1 ≤ 15; decide), ?_⟩
  refine q _ _ (fun b u h => ?_) (od_dict (del_new npz) (fun p h => ?_) b)
  · rw [upd_ne (ne_of_none h np), upd_ne (ne_of_none h np)]
    exact h
  · rw [List.mem_singleton.mp h]
    exact .inr ⟨_, rfl⟩
theorem mk_dr {d l : Addr} {J : Hp → Prop} {σ : L2.St} {ta : TA} (k : ∀ (σ : L2.St) (H : Hp) (Q : List V → Hp → Prop), (∃ o, H d = some o) → (∀ vs H', Same H H' → vs.length = es.length → (∀ v ∈ vs, R H' v) → Q vs H') → ta σ H Q) : DrA d l J ta σ 0 (AllR es.length R) :=
  fun H N Q j t b q => k σ H Q t.at.1 fun vs H' s hl hv => q H' vs (Same.but s d) (t.same s) ⟨hl, hv⟩
end
/-- the items of the list that a statement sets, adds, or hands on as the last thing -/
def elts : Stmt → List Expr
  | .Assign _ (.List es _) _ => es
  | .Assign _ (.BinOp _ _ (.List es _) _) _ => es
  | .Return (some (.Call _ [_, .BinOp _ _ (.List es _) _] _ _)) _ => es
  | _ => []
section
variable {X : Cx} {z : Addr}
theorem oa1 : MkA X z (Od X.K z) (elts (partOf sOdd 0)) :=
  (mk_cons oO (mk_up mk_non) (mk_cons oO (mk_up mk_bl) (mk_cons oO (mk_up mk_bl) (mk_cons oO (mk_up (mk_int (by decide +kernel))) (mk_cons oO (mk_up (mk_int (by decide +kernel))) (mk_cons oO (mk_up (mk_neg (by decide +kernel))) (mk_cons oO (mk_up (mk_int (by decide +kernel))) (mk_cons oO (mk_up (mk_pow ⟨by decide, by decide, by decide⟩ (by decide +kernel))) (mk_cons oO (mk_up (mk_str (by decide +kernel))) (mk_cons oO (mk_up (mk_str (by decide +kernel))) (mk_cons oO (mk_up (mk_str (by decide +kernel))) (mk_cons oO (mk_up (mk_str (by decide +kernel))) (mk_cons oO (mk_up (mk_str (by decide +kernel))) (mk_cons oO (mk_up (mk_tup (n' := 0) (e' := 40) mk_nil (by decide))) (mk_cons oO (mk_up (mk_lst (n' := 0) (e' := 40) mk_nil (by decide))) (mk_cons oO mk_d0 (mk_cons oO (mk_up (mk_tup (n' := 0) (e' := 40) (mk_cons oS (mk_str (by decide +kernel)) mk_nil) (by decide))) (mk_cons oO (mk_up (mk_lst (n' := 0) (e' := 40) (mk_cons oS (mk_str (by decide +kernel)) mk_nil) (by decide))) (mk_cons oO (mk_up (mk_tup (n' := 0) (e' := 40) (mk_cons oS (mk_int (by decide +kernel)) mk_nil) (by decide))) mk_nil)))))))))))))))))))
theorem oa2 : MkA X z (Od X.K z) (elts (partOf sOdd 1)) :=
  (mk_cons oO (mk_up (mk_tup (n' := 0) (e' := 40) (mk_cons oS (mk_str (by decide +kernel)) mk_nil) (by decide))) (mk_cons oO (mk_up (mk_lst (n' := 0) (e' := 40) (mk_cons oS (mk_str (by decide +kernel)) mk_nil) (by decide))) (mk_cons oO (mk_up (mk_tup (n' := 0) (e' := 40) (mk_cons oS (mk_str (by decide +kernel)) (mk_cons oS (mk_str (by decide +kernel)) mk_nil)) (by decide))) (mk_cons oO (mk_up (mk_tup (n' := 0) (e' := 40) (mk_cons oS (mk_str (by decide +kernel)) (mk_cons oS (mk_int (by decide +kernel)) mk_nil)) (by decide))) (mk_cons oO (mk_up (mk_tup (n' := 0) (e' := 40) (mk_cons oS (mk_str (by decide +kernel)) (mk_cons oS mk_bl mk_nil)) (by decide))) (mk_cons oO (mk_up (mk_tup (n' := 0) (e' := 40) (mk_cons oS (mk_str (by decide +kernel)) (mk_cons oS (mk_int (by decide +kernel)) mk_nil)) (by decide))) (mk_cons oO (mk_d1 (by decide +kernel)) (mk_cons oO (mk_d1i (by decide +kernel)) mk_nil))))))))
theorem oa3 : MkA X z (Od X.K z) (elts (partOf sOdd 2)) :=
  (mk_cons oO (mk_up (mk_tup (n' := 0) (e' := 40) (mk_cons oS (mk_str (by decide +kernel)) (mk_cons oS (mk_str (by decide +kernel)) mk_nil)) (by decide))) (mk_cons oO (mk_up (mk_tup (n' := 0) (e' := 40) (mk_cons oS (mk_str (by decide +kernel)) (mk_cons oS (mk_str (by decide +kernel)) mk_nil)) (by decide))) (mk_cons oO (mk_up (mk_tup (n' := 1) (e' := 40) (mk_cons oS (mk_str (by decide +kernel)) (mk_cons oS (mk_tup (n' := 0) (e' := 40) mk_nil (by decide)) mk_nil)) (by decide))) (mk_cons oO (mk_up (mk_tup (n' := 0) (e' := 40) (mk_cons oS (mk_str (by decide +kernel)) (mk_cons oS (mk_int (by decide +kernel)) mk_nil)) (by decide))) (mk_cons oO (mk_up (mk_tup (n' := 1) (e' := 40) (mk_cons oS (mk_tup (n' := 0) (e' := 40) mk_nil (by decide)) mk_nil) (by decide))) (mk_cons oO (mk_up (mk_lst (n' := 1) (e' := 40) (mk_cons oS (mk_tup (n' := 0) (e' := 40) mk_nil (by decide)) mk_nil) (by decide))) (mk_cons oO (mk_up (mk_lst (n' := 1) (e' := 40) (mk_cons oS (mk_lst (n' := 0) (e' := 40) mk_nil (by decide)) mk_nil) (by decide))) (mk_cons oO (mk_up (mk_tup (n' := 0) (e' := 40) (mk_cons oS mk_non mk_nil) (by decide))) (mk_cons oO (mk_up (mk_tup (n' := 0) (e' := 40) (mk_cons oS (mk_str (by decide +kernel)) mk_nil) (by decide))) mk_nil)))))))))
theorem oa4 : MkA X z (Od X.K z) (elts (partOf sOdd 3)) :=
  (mk_cons oO (mk_up (mk_int (by decide +kernel))) (mk_cons oO (mk_up (mk_neg (by decide +kernel))) (mk_cons oO (mk_up (mk_int (by decide +kernel))) (mk_cons oO (mk_up (mk_int (by decide +kernel))) (mk_cons oO (mk_up (mk_str (by decide +kernel))) (mk_cons oO (mk_up (mk_str (by decide +kernel))) (mk_cons oO (mk_up (mk_tup (n' := 0) (e' := 40) (mk_cons oS (mk_str (by decide +kernel)) (mk_cons oS mk_non mk_nil)) (by decide))) (mk_cons oO (mk_up (mk_tup (n' := 0) (e' := 40) (mk_cons oS mk_bl mk_nil) (by decide))) (mk_cons oO (mk_up (mk_tup (n' := 0) (e' := 40) (mk_cons oS (mk_int (by decide +kernel)) (mk_cons oS (mk_int (by decide +kernel)) mk_nil)) (by decide))) (mk_cons oO (mk_up (mk_tup (n' := 0) (e' := 40) (mk_cons oS (mk_str (by decide +kernel)) (mk_cons oS (mk_int (by decide +kernel)) mk_nil)) (by decide))) mk_nil))))))))))

end
def spOdd (K : PySem.W.Frag) : Sp := fun vs H Q _ => ∃ (d l : Addr) (n : Nat), vs = [.ref d] ∧ Tape H d l n ∧ n + 1 ≤ 900000 ∧ ∀ H' v, But d H H' → Tape H' d l (n + 1) → Od K d H' v → Q v H'
def JO (K : PySem.W.Frag) (d L : Addr) (vs : List V) : Hp → Prop := fun H => H L = some (.lst vs) ∧ ∀ v ∈ vs, Od K d H v
theorem stb_o {K : PySem.W.Frag} {d L : Addr} {vs : List V} (h : L ≠ d) : Stb d (JO K d L vs) := fun H H' b z => ⟨b _ _ h z.1, fun v hv => od_st _ _ _ b (z.2 v hv)⟩
section
variable {P : Program} {w : World} {K : PySem.W.Frag} {mg : Str → Option Value} {base : Heap}
theorem scO : FnScope ["_law_tape", "_law_some"] ["_law_tape"] (defScope sOdd) := ⟨rfl, rfl, rfl, by decide +kernel, rfl, by decide +kernel, by decide +kernel⟩
theorem ok_odd {f fP : Addr} {fd fdP : FuncData} (F : Fun K "_law_odd" "_law_odd" sOdd f fd) (GP : FnOk P w K mg base CX0 2 fP fdP ["_law_tape", "_law_items"] spPick) (mP : mg "_law_pick" = some (.ref fP)) (kP : PySem.W.keepIn K (.ref fP) = true) (bP : Binds K fdP ["_law_tape", "_law_items"] []) : FnOk P w K mg base CX0 3 f fd ["_law_tape"] (spOdd K) := by
  refine F.ok scO (fun vs H Q E h => ?_) (fun cdv A outer s H vs Q E hr h => ?_)
  · obtain ⟨d, l, n, rfl, _⟩ := h
    rfl
  · obtain ⟨d, l, n, rfl, hT, hn, q⟩ := h
    obtain ⟨t1, p1, k1⟩ := oa1 (X := (cxOf CX0 P w K mg base ["_law_tape", "_law_some"] "_law_odd" (defScope sOdd) f cdv A outer s H E).nox) (z := d)
    obtain ⟨t2, p2, k2⟩ := oa2 (X := (cxOf CX0 P w K mg base ["_law_tape", "_law_some"] "_law_odd" (defScope sOdd) f cdv A outer s H E).nox) (z := d)
    obtain ⟨t3, p3, k3⟩ := oa3 (X := (cxOf CX0 P w K mg base ["_law_tape", "_law_some"] "_law_odd" (defScope sOdd) f cdv A outer s H E).nox) (z := d)
    obtain ⟨t4, p4, k4⟩ := oa4 (X := (cxOf CX0 P w K mg base ["_law_tape", "_law_some"] "_law_odd" (defScope sOdd) f cdv A outer s H E).nox) (z := d)
    refine ⟨_, pss_cons (ps_set (i := 1) scO.nd rfl (Or.inl rfl) (pe_lst p1)) (pss_cons (ps_set (i := 1) scO.nd rfl (Or.inl rfl) (pe_op op_cat (pv 1) (pe_lst p2))) (pss_cons (ps_set (i := 1) scO.nd rfl (Or.inl rfl) (pe_op op_cat (pv 1) (pe_lst p3)))
      (pss_one (ps_ret (pe_call GP hr rfl mP kP bP .nil pass0 (pa_cons (pv 0) (pa_cons (pe_op op_cat (pv 1) (pe_lst p4)) pa_nil))))))), ?_⟩
    have l1 : (elts (partOf sOdd 0)).length = 19 := rfl
    have l2 : (elts (partOf sOdd 1)).length = 8 := rfl
    have l3 : (elts (partOf sOdd 2)).length = 9 := rfl
    have l4 : (elts (partOf sOdd 3)).length = 10 := rfl
    refine asg_run (lst_run (l := l) (J := fun _ => True) od_st (mk_dr k1) (by omega) trivial hT (by omega) fun H1 L vs b1 t1' nL hL r1 => ?_)
    have g1 := r1.1
    refine asg_run (cat_run (J := JO K d L vs) (stb_o nL) rfl (fun _ z => z) od_st (mk_dr k2) (by omega) ⟨hL, r1.2⟩ t1' (by omega) fun H2 L2 ys b2 t2' nL2 hL2 r2 => ?_)
    have g2 := r2.1
    refine asg_run (cat_run (J := JO K d L2 ys) (stb_o nL2) rfl (fun _ z => z) od_st (mk_dr k3) (by omega) ⟨hL2, r2.2⟩ t2' (by omega) fun H3 L3 zs b3 t3' nL3 hL3 r3 => ?_)
    have g3 := r3.1
    exact ret_run (dr_pick2 (J := JO K d L3 zs) (R := fun H v => Od K d H v) (stb_o nL3) rfl rfl (fun _ z => z) od_st (mk_dr k4) ⟨by omega, by omega⟩ H3 _ _ ⟨hL3, r3.2⟩ t3' (by omega) fun H4 v b4 t4' r4 => q H4 v ((b1.trans b2).trans (b3.trans b4)) (t4'.more (by omega)) r4)
end
end Toy


namespace ToyY
open Toy
open PySem PySem.Spec L2 PyProof.Rows PySem.W
/-! ### values: leaves, tuples, and lists and dicts that are never looked into -/
inductive Dt where
  | non
  | bl (b : Bool)
  | int (i : Int)
  | str (x : Str)
  | tup (l : List Dt)
  | opq
mutual
def nd : Dt → Nat
  | .tup l => ndL l + 1
  | .non => 0
  | .bl _ => 0
  | .int _ => 0
  | .str _ => 0
  | .opq => 0
def ndL : List Dt → Nat
  | [] => 0
  | t :: l => nd t + ndL l
end
mutual
def dep : Dt → Nat
  | .tup l => depL l + 1
  | .non => 0
  | .bl _ => 0
  | .int _ => 0
  | .str _ => 0
  | .opq => 0
def depL : List Dt → Nat
  | [] => 0
  | t :: l => max (dep t) (depL l)
end
mutual
def okd (c : Nat) : Dt → Bool
  | .tup l => decide (l.length ≤ c) && okdL c l
  | .non => true
  | .bl _ => true
  | .int _ => true
  | .str x => okK x
  | .opq => true
def okdL (c : Nat) : List Dt → Bool
  | [] => true
  | t :: l => okd c t && okdL c l
end
mutual
theorem okd_mono {c c' : Nat} (h : c ≤ c') : ∀ t, okd c t = true → okd c' t = true
  | .tup l, z => by
    simp only [okd, Bool.and_eq_true, decide_eq_true_eq] at z ⊢
    exact ⟨Nat.le_trans z.1 h, okdL_mono h l z.2⟩
  | .non, _ => by simp [okd]
  | .bl _, _ => by simp [okd]
  | .int _, _ => by simp [okd]
  | .str _, z => by simpa [okd] using z
  | .opq, _ => by simp [okd]
theorem okdL_mono {c c' : Nat} (h : c ≤ c') : ∀ l, okdL c l = true → okdL c' l = true
  | [], _ => by simp [okdL]
  | t :: l, z => by
    simp only [okdL, Bool.and_eq_true] at z ⊢
    exact ⟨okd_mono h t z.1, okdL_mono h l z.2⟩
end
mutual
inductive Dv (K : PySem.W.Frag) (H : Hp) : V → Dt → Prop
  | non : Dv K H .non .non
  | bl (b : Bool) : Dv K H (.bl b) (.bl b)
  | int (i : Int) : Dv K H (.int i) (.int i)
  | str (x : Str) : Dv K H (.str x) (.str x)
  | tup {a : Addr} {us : List V} {ts : List Dt} : SqT K H a us → DvL K H us ts → Dv K H (.ref a) (.tup ts)
  | lst {a : Addr} {us : List V} : H a = some (.lst us) → Dv K H (.ref a) .opq
  | dct {a : Addr} {m : List (Key × V)} : H a = some (.dK m) → Dv K H (.ref a) .opq
inductive DvL (K : PySem.W.Frag) (H : Hp) : List V → List Dt → Prop
  | nil : DvL K H [] []
  | cons {v : V} {t : Dt} {vs : List V} {ts : List Dt} : Dv K H v t → DvL K H vs ts → DvL K H (v :: vs) (t :: ts)
end
mutual
theorem dvM {K : PySem.W.Frag} {H H' : Hp} (s : Same H H') : ∀ {v : V} {d : Dt}, Dv K H v d → Dv K H' v d
  | _, _, .non => .non
  | _, _, .bl b => .bl b
  | _, _, .int i => .int i
  | _, _, .str x => .str x
  | _, _, .tup h a => .tup (same_seqT s h) (dvLM s a)
  | _, _, .lst h => .lst (s _ _ h)
  | _, _, .dct h => .dct (s _ _ h)
theorem dvLM {K : PySem.W.Frag} {H H' : Hp} (s : Same H H') : ∀ {vs : List V} {ds : List Dt}, DvL K H vs ds → DvL K H' vs ds
  | _, _, .nil => .nil
  | _, _, .cons a b => .cons (dvM s a) (dvLM s b)
end
theorem dvl_len {K : PySem.W.Frag} {H : Hp} : ∀ {vs : List V} {ds : List Dt}, DvL K H vs ds → vs.length = ds.length
  | _, _, .nil => rfl
  | _, _, .cons _ t => congrArg Nat.succ (dvl_len t)
theorem dvl_app {K : PySem.W.Frag} {H : Hp} : ∀ {vs : List V} {ds : List Dt} {us : List V} {es : List Dt}, DvL K H vs ds → DvL K H us es → DvL K H (vs ++ us) (ds ++ es)
  | _, _, _, _, .nil, r => r
  | _, _, _, _, .cons a b, r => .cons a (dvl_app b r)
theorem dvl_get {K : PySem.W.Frag} {H : Hp} : ∀ {vs : List V} {ds : List Dt} {i : Nat} {v : V}, DvL K H vs ds → vs[i]? = some v → ∃ d, ds[i]? = some d ∧ Dv K H v d
  | _, _, 0, _, .cons a _, h => by cases h; exact ⟨_, rfl, a⟩
  | _, _, i + 1, _, .cons _ b, h => by
    obtain ⟨d, e, z⟩ := dvl_get (i := i) b (by simpa using h)
    exact ⟨d, by simpa using e, z⟩
  | _, _, _, _, .nil, h => by simp at h
theorem dvl_take {K : PySem.W.Frag} {H : Hp} : ∀ {vs : List V} {ds : List Dt} (n : Nat), DvL K H vs ds → DvL K H (vs.take n) (ds.take n)
  | _, _, 0, _ => by simpa using DvL.nil
  | _, _, n + 1, .nil => by simpa using DvL.nil
  | _, _, n + 1, .cons a b => by simpa using DvL.cons a (dvl_take n b)
theorem dvl_drop {K : PySem.W.Frag} {H : Hp} : ∀ {vs : List V} {ds : List Dt} (n : Nat), DvL K H vs ds → DvL K H (vs.drop n) (ds.drop n)
  | _, _, 0, h => by simpa using h
  | _, _, n + 1, .nil => by simpa using DvL.nil
  | _, _, n + 1, .cons a b => by simpa using dvl_drop n b
theorem dvl_rev {K : PySem.W.Frag} {H : Hp} : ∀ {vs : List V} {ds : List Dt}, DvL K H vs ds → DvL K H vs.reverse ds.reverse
  | _, _, .nil => by simpa using DvL.nil
  | _, _, .cons a b => by
    rw [List.reverse_cons, List.reverse_cons]
    exact dvl_app (dvl_rev b) (.cons a .nil)
/-! sizes -/
theorem ndL_app : ∀ a b, ndL (a ++ b) = ndL a + ndL b
  | [], b => by simp [ndL]
  | t :: a, b => by simp only [List.cons_append, ndL, ndL_app a b]; omega
theorem depL_app : ∀ a b, depL (a ++ b) = max (depL a) (depL b)
  | [], b => by simp [depL]
  | t :: a, b => by simp only [List.cons_append, depL, depL_app a b]; omega
theorem okdL_app (c : Nat) : ∀ a b, okdL c (a ++ b) = (okdL c a && okdL c b)
  | [], b => by simp [okdL]
  | t :: a, b => by simp only [List.cons_append, okdL, okdL_app c a b, Bool.and_assoc]
theorem okdL_all (c : Nat) : ∀ l, okdL c l = l.all (okd c)
  | [] => by simp [okdL]
  | t :: l => by simp only [okdL, List.all_cons, okdL_all c l]
theorem dep_mem : ∀ {l : List Dt} {t : Dt}, t ∈ l → dep t ≤ depL l
  | a :: l, t, h => by
    rw [depL]
    rcases List.mem_cons.mp h with rfl | h
    · omega
    · have := dep_mem h
      omega
theorem nd_mem : ∀ {l : List Dt} {t : Dt}, t ∈ l → nd t ≤ ndL l
  | a :: l, t, h => by
    rw [ndL]
    rcases List.mem_cons.mp h with rfl | h
    · omega
    · have := nd_mem h
      omega
theorem depL_le {l : List Dt} {e : Nat} (h : ∀ t ∈ l, dep t ≤ e) : depL l ≤ e := by
  induction l with
  | nil => simp [depL]
  | cons a l ih =>
    rw [depL]
    have h1 := h a List.mem_cons_self
    have h2 := ih fun t ht => h t (List.mem_cons_of_mem _ ht)
    omega
/-! ### of what kind a value is -/
def isTup : Dt → Bool
  | .tup _ => true
  | _ => false
def isStr : Dt → Bool
  | .str _ => true
  | _ => false
def isBl : Dt → Bool
  | .bl _ => true
  | _ => false
def isInt : Dt → Bool
  | .int _ => true
  | .bl _ => true
  | _ => false
theorem tyT {K : PySem.W.Frag} {H : Hp} {a : Addr} {xs : List V} (h : SqT K H a xs) : TyX K H (.ref a) (.type "tuple") := by
  rcases h with (h | ⟨o, h⟩) | ⟨o, its, n, hk, hc, _⟩
  · exact .base (.tup h)
  · exact .fTuple h
  · exact .kTuple hk hc
section
variable {K : PySem.W.Frag} {H : Hp} {v : V} {t : Dt} {Q : VK}
theorem isi_tup (h : Dv K H v t) (q : Q (.bl (isTup t)) H) : rIsi K [v, .ty "tuple"] H Q := by
  cases h with
  | non => exact ⟨_, _, _, _, _, rfl, .ty _, .base .non, kit_ty (r := false) (by decide +kernel), q⟩
  | bl b => exact ⟨_, _, _, _, _, rfl, .ty _, .base (.bl b), kit_ty (r := false) (by decide +kernel), q⟩
  | int i => exact ⟨_, _, _, _, _, rfl, .ty _, .base (.int i), kit_ty (r := false) (by decide +kernel), q⟩
  | str x => exact ⟨_, _, _, _, _, rfl, .ty _, .base (.str x), kit_ty (r := false) (by decide +kernel), q⟩
  | tup hs _ => exact ⟨_, _, _, _, _, rfl, .ty _, tyT hs, kit_ty (r := true) (by decide +kernel), q⟩
  | lst hs => exact ⟨_, _, _, _, _, rfl, .ty _, .base (.lst hs), kit_ty (r := false) (by decide +kernel), q⟩
  | dct hs => exact ⟨_, _, _, _, _, rfl, .ty _, .base (.dK hs), kit_ty (r := false) (by decide +kernel), q⟩
theorem isi_str (h : Dv K H v t) (q : Q (.bl (isStr t)) H) : rIsi K [v, .ty "str"] H Q := by
  cases h with
  | non => exact ⟨_, _, _, _, _, rfl, .ty _, .base .non, kit_ty (r := false) (by decide +kernel), q⟩
  | bl b => exact ⟨_, _, _, _, _, rfl, .ty _, .base (.bl b), kit_ty (r := false) (by decide +kernel), q⟩
  | int i => exact ⟨_, _, _, _, _, rfl, .ty _, .base (.int i), kit_ty (r := false) (by decide +kernel), q⟩
  | str x => exact ⟨_, _, _, _, _, rfl, .ty _, .base (.str x), kit_ty (r := true) (by decide +kernel), q⟩
  | tup hs _ => exact ⟨_, _, _, _, _, rfl, .ty _, tyT hs, kit_ty (r := false) (by decide +kernel), q⟩
  | lst hs => exact ⟨_, _, _, _, _, rfl, .ty _, .base (.lst hs), kit_ty (r := false) (by decide +kernel), q⟩
  | dct hs => exact ⟨_, _, _, _, _, rfl, .ty _, .base (.dK hs), kit_ty (r := false) (by decide +kernel), q⟩
theorem isi_int (h : Dv K H v t) (q : Q (.bl (isInt t)) H) : rIsi K [v, .ty "int"] H Q := by
  cases h with
  | non => exact ⟨_, _, _, _, _, rfl, .ty _, .base .non, kit_ty (r := false) (by decide +kernel), q⟩
  | bl b => exact ⟨_, _, _, _, _, rfl, .ty _, .base (.bl b), kit_ty (r := true) (by decide +kernel), q⟩
  | int i => exact ⟨_, _, _, _, _, rfl, .ty _, .base (.int i), kit_ty (r := true) (by decide +kernel), q⟩
  | str x => exact ⟨_, _, _, _, _, rfl, .ty _, .base (.str x), kit_ty (r := false) (by decide +kernel), q⟩
  | tup hs _ => exact ⟨_, _, _, _, _, rfl, .ty _, tyT hs, kit_ty (r := false) (by decide +kernel), q⟩
  | lst hs => exact ⟨_, _, _, _, _, rfl, .ty _, .base (.lst hs), kit_ty (r := false) (by decide +kernel), q⟩
  | dct hs => exact ⟨_, _, _, _, _, rfl, .ty _, .base (.dK hs), kit_ty (r := false) (by decide +kernel), q⟩
theorem isi_bl (h : Dv K H v t) (q : Q (.bl (isBl t)) H) : rIsi K [v, .ty "bool"] H Q := by
  cases h with
  | non => exact ⟨_, _, _, _, _, rfl, .ty _, .base .non, kit_ty (r := false) (by decide +kernel), q⟩
  | bl b => exact ⟨_, _, _, _, _, rfl, .ty _, .base (.bl b), kit_ty (r := true) (by decide +kernel), q⟩
  | int i => exact ⟨_, _, _, _, _, rfl, .ty _, .base (.int i), kit_ty (r := false) (by decide +kernel), q⟩
  | str x => exact ⟨_, _, _, _, _, rfl, .ty _, .base (.str x), kit_ty (r := false) (by decide +kernel), q⟩
  | tup hs _ => exact ⟨_, _, _, _, _, rfl, .ty _, tyT hs, kit_ty (r := false) (by decide +kernel), q⟩
  | lst hs => exact ⟨_, _, _, _, _, rfl, .ty _, .base (.lst hs), kit_ty (r := false) (by decide +kernel), q⟩
  | dct hs => exact ⟨_, _, _, _, _, rfl, .ty _, .base (.dK hs), kit_ty (r := false) (by decide +kernel), q⟩
theorem isT {σ : L2.St} (h : Dv K H v t) (q : Q (.bl (isTup t)) H) : tCons (tC (.ty "tuple")) tNil σ H (fun xs H2 => rIsi K (v :: xs) H2 Q) := isi_tup h q
theorem isS {σ : L2.St} (h : Dv K H v t) (q : Q (.bl (isStr t)) H) : tCons (tC (.ty "str")) tNil σ H (fun xs H2 => rIsi K (v :: xs) H2 Q) := isi_str h q
theorem isI {σ : L2.St} (h : Dv K H v t) (q : Q (.bl (isInt t)) H) : tCons (tC (.ty "int")) tNil σ H (fun xs H2 => rIsi K (v :: xs) H2 Q) := isi_int h q
theorem isB {σ : L2.St} (h : Dv K H v t) (q : Q (.bl (isBl t)) H) : tCons (tC (.ty "bool")) tNil σ H (fun xs H2 => rIsi K (v :: xs) H2 Q) := isi_bl h q
end
section
variable {K : PySem.W.Frag} {H : Hp} {a b : Addr} {xs ys : List V} {Q : VK}
theorem cut_whole {lo hi : Option Int} (h : HT.sIx xs.length 0 lo = 0 ∧ HT.sIx xs.length xs.length hi = xs.length) : cutV xs lo hi = xs := by
  unfold cutV
  rw [h.1, h.2, List.drop_zero, Nat.sub_zero, List.take_length]
theorem sl_run {lo hi : Option Int} (h : SqT K H a xs) (q : ∀ H' c, Same H H' → SqT K H' c (cutV xs lo hi) → Q (.ref c) H') : rSlA K (.ref a) lo hi H Q :=
  ⟨a, xs, rfl, h, fun hw => q H a same_id (by rw [cut_whole hw]; exact h), fun _ p np => q _ p (same_new same_id np) (SqT.of upd_same)⟩
theorem sl_runN {σ : L2.St} {lo : Option Int} (h : SqT K H a xs) (q : ∀ H' c, Same H H' → SqT K H' c (cutV xs lo none) → Q (.ref c) H') : tNoPart σ H (fun u H3 => rSlA K (.ref a) lo u H3 Q) := sl_run (hi := none) h q
theorem catT_run (ha : SqT K H a xs) (hb : SqT K H b ys) (hl : xs.length + ys.length ≤ 1000) (q : ∀ H' c, Same H H' → SqT K H' c (xs ++ ys) → Q (.ref c) H') : rCatA K (.ref a) (.ref b) H Q :=
  ⟨a, b, xs, ys, rfl, rfl, ha, hb, few hl, fun e => q H b same_id (by rw [e]; exact hb), fun _ e => q H a same_id (by rw [e, List.append_nil]; exact ha), fun _ _ p np => q _ p (same_new same_id np) (SqT.of upd_same)⟩
end
end ToyY


namespace ToyY
open Toy
open PySem PySem.Spec L2 PyProof.Rows PySem.W
/-! ### comprehensions: which items are kept, what is made of each -/
section
variable {J : It} {n : Nat} {G : Hp → Prop} {Y : Nat → Hp → V → Hp → Prop} {g : TG} {tt : TT} {te : TE} {vs : List Nat} {σ : L2.St} {H1 : Hp} {D : Addr} {Qd : Hp → Prop}
/-- a list of those that are kept: it is empty where none is -/
theorem lc_none (w : Walk J n G Y) (b : Nat → Bool) (hn : n ≤ 900) (nD : H1 D = none) (hG : ∀ H, Same H1 H → G H) (hY : ∀ i H x H', Y i H x H' → H' = H)
    (hs : ∀ i x H (P1 : V → Hp → Prop) (P0 : Hp → Prop), i < n → Same H1 H → Y i H x H → (b i = true → ∀ y H2, Same H H2 → P1 y H2) → (b i = false → ∀ H2, Same H H2 → P0 H2) → g x (wipe σ vs) H fun σ2 H2 => wipe σ2 vs = wipe σ vs ∧ tt σ2 H2 fun c H3 => if c = true then te σ2 H3 P1 else P0 H3)
    (hd : ∀ H acc, Same H1 H → H D = some (.lst acc) → acc.isEmpty = ((List.range n).all fun i => !b i) → Qd H) :
    ∃ W : Nat → Nat → Hp → Prop, (∃ m, W 0 m (upd H1 D (.lst []))) ∧ ∀ i m H, W i m H →
      (J.stop i H ∧ Qd H) ∨ (J.go i H ∧ ∃ Nx : Hp → Prop, (∀ H', Nx H' → ∃ m', m' < m ∧ W (i + 1) m' H') ∧ ∀ x H', J.yld i H x H' → g x (wipe σ vs) H' fun σ2 H2 => wipe σ2 vs = wipe σ vs ∧ tt σ2 H2 fun b H3 =>
        if b = true then te σ2 H3 fun y H4 => ∃ acc, H4 D = some (.lst acc) ∧ acc.length < sizeLine ∧ Nx (upd H4 D (.lst (acc ++ [y]))) else Nx H3) := by
  refine lc_it w (fun i H => Same H1 H ∧ ∃ acc, H D = some (.lst acc) ∧ acc.length ≤ i ∧ acc.isEmpty = ((List.range i).all fun i => !b i)) ⟨same_new same_id nD, [], upd_same, Nat.le_refl _, rfl⟩ (fun i H _ p => hG H p.1) ?_ ?_
  · rintro i x H H' hi ⟨s1, acc, hD, la, ha⟩ y
    have e := hY _ _ _ _ y
    subst e
    refine hs i x H' _ _ hi s1 y (fun hb z H2 s2 => ?_) (fun hb H2 s2 => ?_)
    · refine ⟨acc, s2 _ _ hD, small1000 (by omega), same_put (s1.trans s2) nD, acc ++ [z], upd_same, ?_, ?_⟩
      · rw [List.length_append, List.length_singleton]
        omega
      · rw [List.range_succ, List.all_append]
        simp only [List.all_cons, List.all_nil, hb]
        simp
    · refine ⟨s1.trans s2, acc, s2 _ _ hD, by omega, ?_⟩
      rw [List.range_succ, List.all_append, ha]
      simp only [List.all_cons, List.all_nil, hb]
      simp
  · rintro H ⟨s1, acc, hD, la, ha⟩
    exact hd H acc s1 hD ha
/-- a list of what is made of each -/
theorem lc_map (w : Walk J n G Y) (f : Nat → V) (hn : n ≤ 900) (nD : H1 D = none) (hG : ∀ H, Same H1 H → G H) (hY : ∀ i H x H', Y i H x H' → H' = H)
    (hs : ∀ i x H (P1 : V → Hp → Prop), i < n → Same H1 H → Y i H x H → (∀ H2, Same H H2 → P1 (f i) H2) → g x (wipe σ vs) H fun σ2 H2 => wipe σ2 vs = wipe σ vs ∧ te σ2 H2 P1)
    (hd : ∀ H, Same H1 H → H D = some (.lst ((List.range n).map f)) → Qd H) :
    ∃ W : Nat → Nat → Hp → Prop, (∃ m, W 0 m (upd H1 D (.lst []))) ∧ ∀ i m H, W i m H →
      (J.stop i H ∧ Qd H) ∨ (J.go i H ∧ ∃ Nx : Hp → Prop, (∀ H', Nx H' → ∃ m', m' < m ∧ W (i + 1) m' H') ∧ ∀ x H', J.yld i H x H' → g x (wipe σ vs) H' fun σ2 H2 => wipe σ2 vs = wipe σ vs ∧ tYes σ2 H2 fun b H3 =>
        if b = true then te σ2 H3 fun y H4 => ∃ acc, H4 D = some (.lst acc) ∧ acc.length < sizeLine ∧ Nx (upd H4 D (.lst (acc ++ [y]))) else Nx H3) := by
  refine lc_it w (fun i H => Same H1 H ∧ H D = some (.lst ((List.range i).map f))) ⟨same_new same_id nD, upd_same⟩ (fun i H _ p => hG H p.1) ?_ ?_
  · rintro i x H H' hi ⟨s1, hD⟩ y
    have e := hY _ _ _ _ y
    subst e
    refine hs i x H' _ hi s1 y fun H2 s2 => ⟨_, s2 _ _ hD, small1000 (by rw [List.length_map, List.length_range]; omega), same_put (s1.trans s2) nD, ?_⟩
    rw [upd_same, List.range_succ, List.map_append]
    rfl
  · rintro H ⟨s1, hD⟩
    exact hd H s1 hD
end
theorem yAt_same {xs : List V} : ∀ i H x H', YAt xs i H x H' → H' = H := fun _ _ _ _ y => y.1
theorem yFn_same {f : Nat → V} : ∀ i H x H', YFn f i H x H' → H' = H := fun _ _ _ _ y => y.1
/-- a list beside an empty list -/
theorem op_eqE {X : Cx} (hu : X.A.units + 64 < cLine) : OpR X (compareOp .Eq) (fun x y H Q => ∃ (a b : Addr) (xs : List V), x = .ref a ∧ y = .ref b ∧ H a = some (.lst xs) ∧ H b = some (.lst []) ∧ Q (.bl xs.isEmpty) H) := by
  intro pins s σ H x y v u Q I rx ry h
  obtain ⟨a, b, xs, rfl, rfl, ha, hb, q⟩ := h
  cases rx
  cases ry
  obtain ⟨its, r, pl, _⟩ := I.list (SqL.of ha)
  obtain ⟨its2, r2, pl2, _⟩ := I.list (SqL.of hb)
  cases r2
  have hu' : X.A.units < cLine := by omega
  cases r with
  | nil =>
    exact SeqAt.eq_listAt (e := fun _ => true) pl.isList pl2.isList rfl hu' (fun j h1 _ => by simp at h1) ⟨.bl true, H, I, rfl, q⟩
  | cons r1 rr =>
    exact SeqAt.eq_list_lengthsAt pl.isList pl2.isList (by simp) hu' ⟨.bl false, H, I, rfl, q⟩
/-! ### words, names, leaves -/
def lower (c : Nat) : Bool := decide (97 ≤ c) && decide (c ≤ 122)
def shown (c : Nat) : Bool := decide (32 ≤ c) && decide (c ≤ 126)
def wordS (x : Str) : Bool := (decide (1 ≤ x.length) && decide (x.length ≤ 8)) && x.cps.toList.all lower
def wordsL : List Str := ["null", "yes", "no", "each", "none", "fail", "try", "other", "if", "then", "else", "end", "when", "as", "catch", "reduce", "first", "take", "fails", "def", "in", "change", "drop", "places", "add", "append", "is", "equal", "at", "and", "or", "not"]
def sortsL : List Str := ["null", "no", "yes", "number", "text", "list", "dict"]
def wordD : Dt → Bool
  | .str x => wordS x
  | _ => false
def freeD : Dt → Bool
  | .str x => wordS x && !decide (x ∈ wordsL)
  | _ => false
def leafD : Dt → Bool
  | .non => true
  | .bl _ => true
  | .int i => decide (-(10 ^ 30) ≤ i) && decide (i ≤ 10 ^ 30)
  | .str x => decide (x.length ≤ 200) && x.cps.toList.all shown
  | _ => false
def wholeD : Dt → Bool
  | .int i => decide (0 ≤ i) && decide (i ≤ 99)
  | _ => false
def sortD : Dt → Bool
  | .str x => decide (x ∈ sortsL)
  | _ => false
theorem low_mem (c : Nat) : decide (c ∈ ("abcdefghijklmnopqrstuvwxyz" : Str).cps.toList) = lower c := by
  have e : ("abcdefghijklmnopqrstuvwxyz" : Str).cps.toList = (List.range 26).map (97 + ·) := by decide +kernel
  rw [e, Bool.eq_iff_iff, decide_eq_true_eq]
  unfold lower
  rw [Bool.and_eq_true, decide_eq_true_eq, decide_eq_true_eq, List.mem_map]
  constructor
  · rintro ⟨k, hk, rfl⟩
    rw [List.mem_range] at hk
    omega
  · intro h
    exact ⟨c - 97, by rw [List.mem_range]; omega, by omega⟩
theorem all_range {α : Type} (xs : List α) (p : α → Bool) (f : Nat → Bool) (h : ∀ i (hi : i < xs.length), f i = p xs[i]) : (List.range xs.length).all f = xs.all p := by
  rw [Bool.eq_iff_iff, List.all_eq_true, List.all_eq_true]
  constructor
  · intro z x hx
    obtain ⟨i, hi, rfl⟩ := List.getElem_of_mem hx
    rw [← h i hi]
    exact z i (List.mem_range.mpr hi)
  · intro z i hi
    rw [List.mem_range] at hi
    rw [h i hi]
    exact z _ (List.getElem_mem hi)
/-- the i-th sign -/
def sg (x : Str) (i : Nat) : Nat := x.cps.toList.getD i 0
theorem sg_of {x : Str} {i c : Nat} (h : x.cps[i]? = some c) : sg x i = c := by
  unfold sg
  rw [List.getD_eq_getElem?_getD, Array.getElem?_toList, h]
  rfl
theorem all_sg (x : Str) (p : Nat → Bool) : ((List.range x.cps.size).all fun i => p (sg x i)) = x.cps.toList.all p := by
  have e : x.cps.size = x.cps.toList.length := by simp
  rw [e]
  refine all_range _ p _ fun i hi => ?_
  unfold sg
  rw [List.getD_eq_getElem?_getD, List.getElem?_eq_getElem hi]
  rfl
/-- a question about one value -/
def spM (K : PySem.W.Frag) (m : Dt → Bool) : Sp := fun vs H Q _ => ∃ v t, vs = [v] ∧ Dv K H v t ∧ okd 300 t = true ∧ ∀ H', Same H H' → Q (.bl (m t)) H'
abbrev sWordL : Stmt := top 57
abbrev sFreeL : Stmt := top 58
abbrev sLeafL : Stmt := top 59
abbrev sWholeL : Stmt := top 60
section
variable {P : Program} {w : World} {K : PySem.W.Frag} {mg : Str → Option Value} {base : Heap}
theorem scWd : FnScope ["_law_x", "_law_sign"] ["_law_x"] (defScope sWordL) := ⟨rfl, rfl, rfl, by decide +kernel, rfl, by decide +kernel, by decide +kernel⟩
theorem scFrL : FnScope ["_law_x", "_law_words"] ["_law_x"] (defScope sFreeL) := ⟨rfl, rfl, rfl, by decide +kernel, rfl, by decide +kernel, by decide +kernel⟩
theorem scLfL : FnScope ["_law_x", "_law_sign"] ["_law_x"] (defScope sLeafL) := ⟨rfl, rfl, rfl, by decide +kernel, rfl, by decide +kernel, by decide +kernel⟩
theorem scWhL : FnScope ["_law_x", "_law_most"] ["_law_x", "_law_most"] (defScope sWholeL) := ⟨rfl, rfl, rfl, by decide +kernel, rfl, by decide +kernel, by decide +kernel⟩
theorem ok_wordL {f : Addr} {fd : FuncData} (F : Fun K "_law_is_word" "_law_is_word" sWordL f fd) (mI : mg "isinstance" = none) (mS : mg "str" = none) (mLen : mg "len" = none) : FnOk P w K mg base CX0 1 f fd ["_law_x"] (spM K wordD) := by
  refine F.ok scWd (fun vs H Q E h => ?_) (fun cdv A outer s H vs Q E hr h => ?_)
  · obtain ⟨v, t, rfl, _⟩ := h
    rfl
  · obtain ⟨v, t, rfl, hv, hok, q⟩ := h
    have hu := hr.units
    refine ⟨_, pss_cons (ps_if (PW.pt (pw_or (pt_not (pt_val (pe_callB call_isi (by rfl) mI PyProof.Rows.boot_isinstance (pa_cons (pv 0) (pa_cons (pe_bltn (v := .ty "str") (by rfl) mS (by decide +kernel) rfl) pa_nil)))))
          (pw_or1 (pt_not (pt_chain op_le op_le pe_int (pe_callB call_len_str (by rfl) mLen PySem.boot_len (pa_cons (pv 0) pa_nil)) pe_int))))) (pss_one (ps_ret pe_bl)) pss_nil)
      (pss_one (ps_ret (pe_cmpR (op_eqE hu) (pe_lc (own := [("_law_sign", 1)]) (g := gName 1) (te := tVar 1) (by rfl) scWd.nd (pi_str (pv 0))
        (blkOk_by (own := [("_law_sign", 1)]) (N := ["_law_x", "_law_sign"]) (sc := defScope sWordL) (by decide +kernel)) (fun _ _ _ _ _ => pg_name (i := 1) scWd.nd rfl (Or.inl rfl))
        (fun _ _ _ _ _ => pts_one (pt_cmpR op_notInS (pv 1) pe_str (by with_unfolding_all rfl))) (fun _ _ _ _ _ => pv 1)) (pe_lst pa_nil) (nomark _)))), ?_⟩
    refine ⟨_, rfl, isS hv ⟨_, rfl, ?_⟩⟩
    cases hv with
    | str x =>
      have hok : okK x = true := by simpa [okd] using hok
      refine iteF ⟨_, rfl, x, rfl, few (okK_2 hok), 1, _, rfl, rfl, _, rfl, ?_⟩
      have eS : wordD (.str x) = ((decide (1 ≤ x.length) && decide (x.length ≤ 8)) && x.cps.toList.all lower) := rfl
      have e1 : decide ((1 : Int) ≤ (x.length : Int)) = decide (1 ≤ x.length) := decide_eq_decide.mpr (by omega)
      have e2 : decide ((x.length : Int) ≤ 8) = decide (x.length ≤ 8) := decide_eq_decide.mpr (by omega)
      rw [eS] at q
      refine ite2 (fun c => ?_) (fun c => ?_)
      · have c := e1.symm.trans c
        rw [c, Bool.true_and] at q
        refine ⟨_, _, rfl, rfl, _, rfl, ?_⟩
        refine ite2 (fun c2 => ?_) (fun c2 => ?_)
        · have c2 : decide ((x.length : Int) ≤ 8) = false := by simpa using c2
          rw [e2.symm.trans c2, Bool.false_and] at q
          exact q H same_id
        have c2 : decide ((x.length : Int) ≤ 8) = true := by simpa using c2
        rw [e2.symm.trans c2, Bool.true_and] at q
        have h8 : x.length ≤ 8 := of_decide_eq_true (e2.symm.trans c2)
        have h8' : x.cps.size ≤ 8 := h8
        refine ⟨_, rfl, x, rfl, fun D nD => ?_⟩
        refine lc_none walk_str (fun i => !lower (sg x i)) (by omega) nD (fun _ _ => trivial) (fun _ _ _ _ y => y.1) ?_ ?_
        · rintro i y H2 P1 P0 hi s2 ⟨_, c3, hc, rfl⟩ h1 h0
          refine ⟨rfl, _, rfl, c3, _, rfl, rfl, _, rfl, ?_⟩
          rw [low_mem]
          have e := sg_of hc
          rw [e] at h1 h0
          refine ite2 (fun c4 => ⟨_, rfl, h1 c4 _ _ same_id⟩) (fun c4 => h0 (by simpa using c4) _ same_id)
        · intro H2 acc s2 hD ha
          refine ⟨few (by show 0 ≤ 1000; decide), fun T nT => ⟨D, T, acc, rfl, rfl, (upd_ne (ne_of_none hD nT)).trans hD, upd_same, ?_⟩⟩
          rw [ha]
          have := all_sg x lower
          simp only [Bool.not_not]
          rw [this]
          exact q _ (same_new s2 nT)
      · have c : decide (1 ≤ x.length) = false := by rw [← e1]; simpa using c
        rw [c, Bool.false_and, Bool.false_and] at q
        exact ⟨_, rfl, iteT (q H same_id)⟩
    | non => exact iteT (iteT (q H same_id))
    | bl b => exact iteT (iteT (q H same_id))
    | int i => exact iteT (iteT (q H same_id))
    | tup _ _ => exact iteT (iteT (q H same_id))
    | lst _ => exact iteT (iteT (q H same_id))
    | dct _ => exact iteT (iteT (q H same_id))
end
end ToyY


namespace ToyY
open Toy
open PySem PySem.Spec L2 PyProof.Rows PySem.W
theorem lt1 (a c : Nat) : decide ([a] < [c]) = decide (a < c) := by
  refine decide_eq_decide.mpr ⟨fun h => ?_, fun h => .rel h⟩
  cases h with
  | rel h => exact h
  | cons h => cases h
theorem shown_le (c : Nat) : (!decide ((⟨#[c]⟩ : Str).cps.toList < (" " : Str).cps.toList)) = decide (32 ≤ c) := by
  show (!decide ([c] < [32])) = _
  rw [lt1, Bool.eq_iff_iff]
  simp
theorem shown_ge (c : Nat) : (!decide (("~" : Str).cps.toList < (⟨#[c]⟩ : Str).cps.toList)) = decide (c ≤ 126) := by
  show (!decide ([126] < [c])) = _
  rw [lt1, Bool.eq_iff_iff]
  simp
theorem inV_strs (x : Str) : ∀ ks : List Str, inV (.str x) (ks.map V.str) = decide (x ∈ ks)
  | [] => by simp [inV]
  | k :: ks => by
    have ih := inV_strs x ks
    unfold inV at ih ⊢
    rw [List.map_cons, List.any_cons, ih]
    show ((k == x) || decide (x ∈ ks)) = _
    rw [Bool.eq_iff_iff, Bool.or_eq_true, beq_iff_eq, decide_eq_true_iff, decide_eq_true_iff, List.mem_cons]
    exact ⟨fun h => h.imp Eq.symm id, fun h => h.imp Eq.symm id⟩
theorem flat_strs (ks : List Str) : (ks.map V.str).all flatV = true := by
  rw [List.all_eq_true]
  intro v hv
  obtain ⟨k, _, rfl⟩ := List.mem_map.mp hv
  rfl
theorem split_words : Txt.split (("null yes no each none fail try other if then else end when as catch reduce first take fails def in" : Str) ++ (" change drop places add append is equal at and or not" : Str)) (" " : Str) = wordsL := by decide +kernel
section
variable {P : Program} {w : World} {K : PySem.W.Frag} {mg : Str → Option Value} {base : Heap}
theorem ok_freeL {f fW : Addr} {fd fdW : FuncData} (F : Fun K "_law_is_free" "_law_is_free" sFreeL f fd) (GW : FnOk P w K mg base CX0 1 fW fdW ["_law_x"] (spM K wordD)) (mW : mg "_law_is_word" = some (.ref fW)) (kW : PySem.W.keepIn K (.ref fW) = true) (bW : Binds K fdW ["_law_x"] []) : FnOk P w K mg base CX0 2 f fd ["_law_x"] (spM K freeD) := by
  refine F.ok scFrL (fun vs H Q E h => ?_) (fun cdv A outer s H vs Q E hr h => ?_)
  · obtain ⟨v, t, rfl, _⟩ := h
    rfl
  · obtain ⟨v, t, rfl, hv, hok, q⟩ := h
    refine ⟨_, pss_cons (ps_set (i := 1) scFrL.nd rfl (Or.inl rfl) pe_str) (pss_one (ps_ret (pe_and (pe_call GW hr (by rfl) mW kW bW .nil pass0 (pa_cons (pv 0) pa_nil)) (pe_one (pe_cmpR op_notIn_seq (pv 0) (pe_split (pe_op op_add_str (pv 1) pe_str) pe_str) (by rfl)))))), ?_⟩
    refine asg_run (ret_run ⟨_, rfl, v, t, rfl, hv, hok, fun H1 s1 => ⟨_, rfl, ?_⟩⟩)
    cases hv with
    | str x =>
      have e : freeD (.str x) = (wordS x && !decide (x ∈ wordsL)) := rfl
      rw [e] at q
      cases hw : wordS x with
      | false =>
        rw [hw, Bool.false_and] at q
        rw [show wordD (.str x) = false from hw]
        exact iteF (q H1 s1)
      | true =>
        rw [hw, Bool.true_and] at q
        rw [show wordD (.str x) = true from hw]
        refine iteT ⟨_, rfl, _, rfl, _, _, rfl, rfl, few (by decide +kernel), ⟨_, rfl⟩, _, _, rfl, rfl, by decide +kernel, few (by decide +kernel), fun p np => ?_⟩
        refine ⟨p, wordsL.map V.str, rfl, .inl (SqL.of (by rw [upd_same, split_words])), rfl, flat_strs _, ?_⟩
        show Q (.bl (!inV (.str x) (wordsL.map V.str))) _
        rw [inV_strs]
        exact q _ (same_new s1 np)
    | non => exact iteF (q H1 s1)
    | bl b => exact iteF (q H1 s1)
    | int i => exact iteF (q H1 s1)
    | tup _ _ => exact iteF (q H1 s1)
    | lst _ => exact iteF (q H1 s1)
    | dct _ => exact iteF (q H1 s1)
theorem ok_leafL {f : Addr} {fd : FuncData} (F : Fun K "_law_is_leaf" "_law_is_leaf" sLeafL f fd) (mI : mg "isinstance" = none) (mS : mg "str" = none) (mB : mg "bool" = none) (mN : mg "int" = none) (mLen : mg "len" = none) (mAbs : mg "abs" = none) : FnOk P w K mg base CX0 1 f fd ["_law_x"] (spM K leafD) := by
  refine F.ok scLfL (fun vs H Q E h => ?_) (fun cdv A outer s H vs Q E hr h => ?_)
  · obtain ⟨v, t, rfl, _⟩ := h
    rfl
  · obtain ⟨v, t, rfl, hv, hok, q⟩ := h
    have hu := hr.units
    refine ⟨_, pss_cons (ps_if (pt_val (pe_callB call_isi (by rfl) mI PyProof.Rows.boot_isinstance (pa_cons (pv 0) (pa_cons (pe_bltn (v := .ty "str") (by rfl) mS (by decide +kernel) rfl) pa_nil))))
        (pss_one (ps_ret (pe_and (pe_cmpR op_le (pe_callB call_len_str (by rfl) mLen PySem.boot_len (pa_cons (pv 0) pa_nil)) pe_int (nomark _)) (pe_one (pe_cmpR (op_eqE hu) (pe_lc (own := [("_law_sign", 1)]) (g := gName 1) (te := tVar 1) (by rfl) scLfL.nd (pi_str (pv 0))
        (blkOk_by (own := [("_law_sign", 1)]) (N := ["_law_x", "_law_sign"]) (sc := defScope sLeafL) (by decide +kernel)) (fun _ _ _ _ _ => pg_name (i := 1) scLfL.nd rfl (Or.inl rfl))
        (fun _ _ _ _ _ => pts_one (pt_not (pt_chain op_le_str op_le_str pe_str (pv 1) pe_str))) (fun _ _ _ _ _ => pv 1)) (pe_lst pa_nil) (nomark _)))))) pss_nil)
      (pss_one (ps_ret (pe_or (pe_cmpR op_isN (pv 0) pe_non (nomark _)) (pe_or (pe_callB call_isi (by rfl) mI PyProof.Rows.boot_isinstance (pa_cons (pv 0) (pa_cons (pe_bltn (v := .ty "bool") (by rfl) mB (by decide +kernel) rfl) pa_nil)))
        (pe_one (pe_and (pe_callB call_isi (by rfl) mI PyProof.Rows.boot_isinstance (pa_cons (pv 0) (pa_cons (pe_bltn (v := .ty "int") (by rfl) mN (by decide +kernel) rfl) pa_nil))) (pe_one (pe_cmpR op_le (pe_callB call_abs (by rfl) mAbs (by decide +kernel) (pa_cons (pv 0) pa_nil)) (pe_op op_pow pe_int pe_int) (nomark _))))))))), ?_⟩
    refine ⟨_, rfl, isS hv ⟨_, rfl, ?_⟩⟩
    cases hv with
    | str x =>
      have hok : okK x = true := by simpa [okd] using hok
      have eS : leafD (.str x) = (decide (x.length ≤ 200) && x.cps.toList.all shown) := rfl
      have e2 : decide ((x.length : Int) ≤ 200) = decide (x.length ≤ 200) := decide_eq_decide.mpr (by omega)
      rw [eS] at q
      refine iteT ⟨_, rfl, x, rfl, few (okK_2 hok), _, _, rfl, rfl, _, rfl, ?_⟩
      refine ite2 (fun c => ?_) (fun c => ?_)
      · have c := e2.symm.trans c
        rw [c, Bool.true_and] at q
        have h8' : x.cps.size ≤ 200 := of_decide_eq_true c
        refine ⟨_, rfl, x, rfl, fun D nD => ?_⟩
        refine lc_none walk_str (fun i => !shown (sg x i)) (by omega) nD (fun _ _ => trivial) (fun _ _ _ _ y => y.1) ?_ ?_
        · rintro i y H2 P1 P0 hi s2 ⟨_, c3, hc, rfl⟩ h1 h0
          have e := sg_of hc
          rw [e] at h1 h0
          refine ⟨rfl, _, rfl, _, _, rfl, rfl, _, rfl, ?_⟩
          rw [shown_le]
          unfold shown at h1 h0
          refine ite2 (fun c4 => ?_) (fun c4 => ?_)
          · rw [c4, Bool.true_and] at h1 h0
            refine ⟨_, _, rfl, rfl, _, rfl, ?_⟩
            rw [shown_ge]
            exact ite2 (fun c5 => ⟨_, rfl, h1 c5 _ _ same_id⟩) (fun c5 => h0 (by simpa using c5) _ same_id)
          · have c4 : decide (32 ≤ c3) = false := by simpa using c4
            rw [c4, Bool.false_and] at h1 h0
            exact ⟨_, rfl, ite2 (fun c5 => ⟨_, rfl, h1 c5 _ _ same_id⟩) (fun c5 => h0 (by simpa using c5) _ same_id)⟩
        · intro H2 acc s2 hD ha
          refine ⟨few (by show 0 ≤ 1000; decide), fun T nT => ⟨D, T, acc, rfl, rfl, (upd_ne (ne_of_none hD nT)).trans hD, upd_same, ?_⟩⟩
          rw [ha]
          have := all_sg x shown
          simp only [Bool.not_not]
          rw [this]
          exact q _ (same_new s2 nT)
      · have c : decide (x.length ≤ 200) = false := by rw [← e2]; simpa using c
        rw [c, Bool.false_and] at q
        exact q H same_id
    | non => exact iteF ⟨_, rfl, rfl, _, rfl, iteT (q H same_id)⟩
    | bl b => exact iteF ⟨_, rfl, rfl, _, rfl, iteF ⟨_, rfl, isB (.bl b) ⟨_, rfl, iteT (q H same_id)⟩⟩⟩
    | int i =>
      refine iteF ⟨_, rfl, rfl, _, rfl, iteF ⟨_, rfl, isB (.int i) ⟨_, rfl, iteF ⟨_, rfl, isI (.int i) ⟨_, rfl, iteT ⟨_, rfl, i, rfl, _, _, rfl, rfl, ⟨by decide, by decide, by decide⟩, _, _, rfl, rfl, ?_⟩⟩⟩⟩⟩⟩
      have e : leafD (.int i) = decide ((if i < 0 then -i else i) ≤ 10 ^ 30) := by
        show (decide (-(10 ^ 30) ≤ i) && decide (i ≤ 10 ^ 30)) = _
        rw [Bool.eq_iff_iff, Bool.and_eq_true, decide_eq_true_eq, decide_eq_true_eq, decide_eq_true_eq]
        split <;> omega
      rw [e] at q
      exact q H same_id
    | tup hs ha => exact iteF ⟨_, rfl, rfl, _, rfl, iteF ⟨_, rfl, isB (.tup hs ha) ⟨_, rfl, iteF ⟨_, rfl, isI (.tup hs ha) ⟨_, rfl, iteF (q H same_id)⟩⟩⟩⟩⟩
    | lst hs => exact iteF ⟨_, rfl, rfl, _, rfl, iteF ⟨_, rfl, isB (.lst hs) ⟨_, rfl, iteF ⟨_, rfl, isI (.lst hs) ⟨_, rfl, iteF (q H same_id)⟩⟩⟩⟩⟩
    | dct hs => exact iteF ⟨_, rfl, rfl, _, rfl, iteF ⟨_, rfl, isB (.dct hs) ⟨_, rfl, iteF ⟨_, rfl, isI (.dct hs) ⟨_, rfl, iteF (q H same_id)⟩⟩⟩⟩⟩
def spWh (K : PySem.W.Frag) : Sp := fun vs H Q _ => ∃ v t, vs = [v, .int 99] ∧ Dv K H v t ∧ ∀ H', Same H H' → Q (.bl (wholeD t)) H'
theorem ok_wholeL {f : Addr} {fd : FuncData} (F : Fun K "_law_is_whole" "_law_is_whole" sWholeL f fd) (mI : mg "isinstance" = none) (mB : mg "bool" = none) (mN : mg "int" = none) : FnOk P w K mg base CX0 1 f fd ["_law_x", "_law_most"] (spWh K) := by
  refine F.ok scWhL (fun vs H Q E h => ?_) (fun cdv A outer s H vs Q E hr h => ?_)
  · obtain ⟨v, t, rfl, _⟩ := h
    rfl
  · obtain ⟨v, t, rfl, hv, q⟩ := h
    refine ⟨_, pss_one (ps_ret (pe_and (pe_callB call_isi (by rfl) mI PyProof.Rows.boot_isinstance (pa_cons (pv 0) (pa_cons (pe_bltn (v := .ty "int") (by rfl) mN (by decide +kernel) rfl) pa_nil)))
      (pe_and (pe_not (pe_callB call_isi (by rfl) mI PyProof.Rows.boot_isinstance (pa_cons (pv 0) (pa_cons (pe_bltn (v := .ty "bool") (by rfl) mB (by decide +kernel) rfl) pa_nil)))) (pe_one (pe_chain op_le op_le pe_int (pv 0) (pv 1)))))), ?_⟩
    refine ⟨_, rfl, isI hv ⟨_, rfl, ?_⟩⟩
    cases hv with
    | int i =>
      refine iteT ⟨_, rfl, isB (.int i) ⟨_, rfl, _, rfl, iteT ⟨_, rfl, _, _, rfl, rfl, _, rfl, ?_⟩⟩⟩
      have e : wholeD (.int i) = (decide (0 ≤ i) && decide (i ≤ 99)) := rfl
      rw [e] at q
      refine ite2 (fun c => ?_) (fun c => ?_)
      · rw [c, Bool.true_and] at q
        exact ⟨_, rfl, _, _, rfl, rfl, q H same_id⟩
      · have c : decide (0 ≤ i) = false := by simpa using c
        rw [c, Bool.false_and] at q
        exact q H same_id
    | bl b => exact iteT ⟨_, rfl, isB (.bl b) ⟨_, rfl, _, rfl, iteF (q H same_id)⟩⟩
    | str x => exact iteF (q H same_id)
    | non => exact iteF (q H same_id)
    | tup _ _ => exact iteF (q H same_id)
    | lst _ => exact iteF (q H same_id)
    | dct _ => exact iteF (q H same_id)
end
end ToyY


/-! a set of texts, of a list or tuple of any length: how many it has is told by a bound -/
namespace SS2Y
open PySem PySem.Spec PyProof.Rows
/-- among the first i of zs c are different; T tells which stand there -/
def Cn (zs : List Str) (i c : Nat) : Prop := c ≤ i ∧ (c = i ↔ (zs.take i).Nodup)
def TM (zs : List Str) (i : Nat) (T : Str → Bool) : Prop := ∀ k, T k = decide (k ∈ zs.take i)
theorem take_next {zs : List Str} {i : Nat} (h : i < zs.length) : zs.take (i + 1) = zs.take i ++ [zs.getD i Str.empty] := by
  rw [List.take_add_one, List.getElem?_eq_getElem h, List.getD_eq_getElem?_getD, List.getElem?_eq_getElem h]
  rfl
theorem TM.next {zs : List Str} {i : Nat} {T : Str → Bool} (h : TM zs i T) (hi : i < zs.length) : TM zs (i + 1) (fun k' => T k' || decide (k' = zs.getD i Str.empty)) := by
  intro k
  show (T k || decide (k = zs.getD i Str.empty)) = _
  rw [h k, take_next hi, Bool.eq_iff_iff]
  simp
theorem Cn.next {zs : List Str} {i c : Nat} {T : Str → Bool} (h : Cn zs i c) (t : TM zs i T) (hi : i < zs.length) : Cn zs (i + 1) (if T (zs.getD i Str.empty) = true then c else c + 1) := by
  obtain ⟨h1, h2⟩ := h
  have e := t (zs.getD i Str.empty)
  unfold Cn
  rw [take_next hi, List.nodup_append]
  cases ht : T (zs.getD i Str.empty) with
  | true =>
    rw [ht] at e
    have hm := of_decide_eq_true e.symm
    rw [if_pos rfl]
    refine ⟨by omega, fun z => by omega, fun z => ?_⟩
    exact absurd rfl (z.2.2 _ hm _ (List.mem_singleton.mpr rfl))
  | false =>
    rw [ht] at e
    have hm := of_decide_eq_false e.symm
    rw [if_neg Bool.false_ne_true]
    refine ⟨by omega, fun z => ⟨h2.mp (by omega), by simp, fun a ha b hb ab => ?_⟩, fun z => by rw [h2.mpr z.1]⟩
    rw [List.mem_singleton] at hb
    rw [ab, hb] at ha
    exact hm ha
def emptyS (led : Bool) : Obj := { cls := .type "set", dict := none, data := .set #[] 0 (.fresh 0 0 led) }
section
variable {prog : Program} {w : World} {A : Around} {R : Result → Shared → Prop} {I : Addr} {fp wr : List Addr} {G : Array GenState → Array GenState → Prop} {n : Nat} {P : Nat → Value → Prop} {St : Nat → Shared → Prop}
theorem loopS (W : WalksS prog w A.in1 I fp wr G n P St) (S : Addr) (hSf : S ∉ fp) (zs : List Str) (hsz : zs.length = n) (hn : n + 1 < scanBound) (hval : ∀ i v, P i v → ∃ t, v = .str (zs.getD i Str.empty) t) :
    ∀ (k i : Nat) (s : Shared), n - i = k → i ≤ n → St i s → (∃ c, Cn zs i c ∧ ∃ T, TM zs i T ∧ s.heap.SetOf (PySem.strKind prog w) S T c) → (∀ s', Moved (S :: wr) G s s' → (∃ c, Cn zs n c ∧ ∃ T, s'.heap.SetOf (PySem.strKind prog w) S T c) → R (.ok (.ret .none)) s') → codeAny (model prog w) A (.builtin "set.update.loop" ⟨[.ref S, .ref I], []⟩) R s := by
  have hSw : S ∉ wr := fun h => hSf (W.sub _ h)
  have move : ∀ {s s' : Shared} {c : Nat} {T : Str → Bool}, Moved wr G s s' → s.heap.SetOf (PySem.strKind prog w) S T c → s'.heap.SetOf (PySem.strKind prog w) S T c := fun hm hS => by
    obtain ⟨o, es, ep, t, ho, rest⟩ := hS
    exact ⟨o, es, ep, t, hm.heap S _ hSw ho, rest⟩
  intro k
  induction k with
  | zero =>
    rintro i s hk hi hst ⟨c, hc, T, hT, hS⟩ hR
    obtain rfl : i = n := by omega
    refine codeAny_builtin PyProof.Rows.F.entry_set_update_loop ?_
    rw [Around.under_plainId PyProof.Rows.F.plain_set_update_loop _]
    refine (show wpAny _ A.in1 (pyNext (.ref I) >>= _) _ _ s from wpAny_bind (W.done s _ _ hst fun s' hm => ?_))
    exact (show wpAny _ A.in1 (ret Value.none) _ _ s' from wpAny_pure (hR s' (hm.mono fun b hb => List.mem_cons_of_mem _ hb) ⟨c, hc, T, move hm hS⟩))
  | succ k ih =>
    rintro i s hk hi hst ⟨c, hc, T, hT, hS⟩ hR
    have hlt : i < n := by omega
    refine codeAny_builtin PyProof.Rows.F.entry_set_update_loop ?_
    rw [Around.under_plainId PyProof.Rows.F.plain_set_update_loop _]
    refine (show wpAny _ A.in1 (pyNext (.ref I) >>= _) _ _ s from wpAny_bind (W.item i s _ _ hlt hst fun v s' hP hst' hm => ?_))
    obtain ⟨t, rfl⟩ := hval i v hP
    have hS1 := move hm hS
    refine (show wpAny _ A.in1 (holding [Value.str (zs.getD i Str.empty) t] (setAdd S (.str (zs.getD i Str.empty) t)) >>= _) _ _ s' from wpAny_bind (wpAny_holding ?_))
    unfold setAdd
    refine wpAny_holding (wpAny_bind ((PySem.strKind prog w).pyHash (k := zs.getD i Str.empty) (strKind_is _ _ _ _) ?_))
    have hci := hc.1
    refine wpAny_setAddHashed_of (knd := PySem.strKind prog w) (s := { s' with toks := s'.toks + 1 }) (strKind_is _ _ _ _) rfl hS1 (by omega) fun h' hsb hS2 => ?_
    have le := hc.next hT (by omega)
    have tm := hT.next (by omega)
    refine wpAny_pure ⟨plainId_quiet PyProof.Rows.F.plain_set_update_loop _, ih (i + 1) _ (by omega) hlt (W.frame _ s' _ _ hst' (Nat.le_succ _) fun b hb o e => ?_) ⟨_, le, _, tm, hS2⟩ fun s2 hm2 hS3 => hR s2 (Moved.trans W.gtrans ((hm.mono fun b hb => List.mem_cons_of_mem _ hb).then_heap (Nat.le_succ _) fun b o hb e => ?_) hm2) hS3⟩
    · exact (hsb.2 b (fun z : b = S => hSf (by rw [← z]; exact hb))).trans e
    · exact (hsb.2 b (fun z : b = S => hb (by rw [z]; exact List.mem_cons_self))).trans e
end
section
variable {prog : Program} {w : World} {A : Around} {E : Value → Shared → Prop} {s : Shared}
theorem call_setL {l : Addr} {ys : Array Value} {zs : List Str} {Q : Value → Shared → Prop} (hh : A.handled = none) (hl : s.heap.IsList l ys) (hi : PyProof.Rows.StrsAre ys.toList zs) (hn : zs.length + 1 < scanBound)
    (h : ∀ (h' : Heap) (tk c : Nat), Cn zs zs.length c → (∃ S, h'.SetOf (PySem.strKind prog w) s.heap.objs.size S c) → (∀ b o, b < s.heap.objs.size → s.heap.get? b = some o → h'.get? b = some o) → Q (.ref s.heap.objs.size) { s with heap := h', toks := tk }) :
    wpAny (model prog w) A (call (.type "set") [.ref l]) Q E s := by
  have facts := And.intro PySem.F.called_set.made PySem.F.called_set.sub
  obtain ⟨hmade, hsub⟩ := facts
  obtain ⟨c0, tl0, hmro⟩ := PySem.F.called_set.mro
  refine wpAny_call (codeAny_of_tree (show wpAny _ _ (callAny (.type "set") _) _ _ _ from wpAny_pure ⟨Code.quiet_builtin _ (by decide +kernel), codeAny_builtin PySem.F.entry_type_call ?_⟩))
  rw [Around.under_plain (weight_type_call_type "set" [.ref l] []) rfl]
  have facts2 := And.intro PySem.F.called_set.notType (And.intro PySem.F.called_set.canCreate (PySem.F.typeCall_set_1 (.ref l)))
  obtain ⟨h1, h2, hct⟩ := facts2
  repeat (any_goals (first | assumption | wp_step))
  refine codeAny_mono (code_set_new_1 (.ref l) (E := E) (Q₁ := fun ob s1 => ∃ led : Bool, ob = .ref s.heap.objs.size ∧ s1 = { s with heap := s.heap.push (emptyS led) }) fun led => ⟨led, rfl, rfl⟩) fun r s1 hr => ?_
  cases r with
  | error e => exact hr
  | ok fl =>
    cases fl with
    | ret ob =>
      obtain ⟨led, rfl, rfl⟩ := hr
      have hS : (s.heap.push (emptyS led)).get? s.heap.objs.size = some (emptyS led) := Heap.get?_push_size _ rfl
      have hT : Shared.TypeIs { s with heap := s.heap.push (emptyS led) } (.ref s.heap.objs.size) "set" := ⟨_, hS, rfl⟩
      have facts3 := And.intro PySem.F.called_set.init.lookup (PySem.F.called_set.init.bind (.ref s.heap.objs.size))
      obtain ⟨hli, hbi⟩ := facts3
      repeat (any_goals (first | assumption | wp_step))
      refine codeAny_mono (codeAny_call_builtin (R := wants (fun r s2 => r = .none ∧ ∃ h' tk c, s2 = { s with heap := h', toks := tk } ∧ (Cn zs zs.length c ∧ ∃ S, h'.SetOf (PySem.strKind prog w) s.heap.objs.size S c) ∧ (∀ b o, b < s.heap.objs.size → s.heap.get? b = some o → h'.get? b = some o)) E) PySem.F.called_set.init.plain PySem.F.entry_set_init (check_set_init_1 hT ?_)) fun r2 s2 hr2 => ?_
      · obtain ⟨⟨oc, odi, oda, osl⟩, hol, hcl, nl, hdl⟩ := hl
        simp only at hcl hdl
        subst hcl hdl
        have hol' : (s.heap.push (emptyS led)).get? l = some { cls := .type "list", dict := odi, data := .seq ys nl, slots := osl } := Heap.get?_push_of_some _ hol
        have facts4 := And.intro PySem.F.sub_list_set PySem.F.sub_list_frozenset
        obtain ⟨hsls, hslf⟩ := facts4
        have hne : (Value.type "list" == Value.type "dict") = false := by decide
        have hl1 : (s.heap.push (emptyS led)).IsList l ys := ⟨_, hol', rfl, nl, rfl⟩
        unfold Builtin.«set.__init__» noKeywords Builtin.Frozenset.updateFrom
        generalize hPI : pyIter = PI
        wp_walk
        subst hPI
        refine wpAny_pyIter_list hl1 (wpAny_bind (wpAny_runValue ?_))
        have hlS : l < s.heap.objs.size := Heap.lt_size hol
        have hneI : l ≠ (s.heap.push (emptyS led)).objs.size := by
          rw [Heap.size_push]
          exact Nat.ne_of_lt (Nat.lt_succ_of_lt hlS)
        have hSf : s.heap.objs.size ∉ [(s.heap.push (emptyS led)).objs.size, l] := by
          rw [Heap.size_push]
          simp only [List.mem_cons, List.not_mem_nil, or_false, not_or]
          exact ⟨Nat.ne_of_lt (Nat.lt_succ_self _), Nat.ne_of_gt hlS⟩
        have hsz : zs.length = ys.size := by rw [← StrsAre.len_eq hi, Array.length_toList]
        have hval : ∀ (i : Nat) (v : Value), ys[i]? = some v → ∃ t, v = .str (zs.getD i Str.empty) t := fun i v hv => SS.strs_at hi i v (by rw [Array.getElem?_toList]; exact hv)
        refine loopS ((Walks.list (by simp [hh] : A.in1.in1.in1.handled = none) _ l hneI ys).toS) s.heap.objs.size hSf zs hsz (by rw [← hsz]; exact hn) hval (ys.size - 0) 0 _ (by omega) (Nat.zero_le _) ⟨⟨_, Heap.get?_push_size _ rfl, rfl, rfl⟩, (hl1.push _)⟩ ?hS0 ?hR
        case hS0 =>
          have hget : ((s.heap.push (emptyS led)).push { cls := .type "list_iterator", data := .fields #[.ref l, .int 0 0] }).get? s.heap.objs.size = some (emptyS led) := Heap.get?_push_of_some _ hS
          exact ⟨0, ⟨Nat.le_refl _, by simp⟩, _, (fun k => by simp), (PyProof.Rows.setObjOf_fresh (knd := PySem.strKind prog w) led).setOf hget (by unfold scanBound; omega)⟩
        case hR =>
          rintro ⟨h', g', d', tk', os'⟩ hm ⟨c, hc, S, hS'⟩
          obtain rfl : g' = s.gens := hm.gens
          obtain rfl : d' = s.drawn := hm.drawn
          obtain rfl : os' = s.os := hm.os
          show wpAny _ _ _ _ _ _
          refine wpAny_pure (show wpAny _ _ (ret Value.none) _ _ _ from wpAny_pure ⟨rfl, h', tk', c, rfl, ⟨by rw [hsz]; exact hc, S, hS'⟩, fun b o hb e => ?_⟩)
          refine hm.heap b o ?_ (Heap.get?_push_of_some _ (Heap.get?_push_of_some _ e))
          rw [Heap.size_push]
          simp only [List.mem_cons, List.not_mem_nil, or_false, not_or]
          exact ⟨Nat.ne_of_lt hb, Nat.ne_of_lt (Nat.lt_succ_of_lt hb)⟩
      · cases r2 with
        | error e => exact hr2
        | ok fl2 =>
          cases fl2 with
          | ret r =>
            obtain ⟨rfl, h', tk, c, rfl, ⟨hc, hS'⟩, hk'⟩ := hr2
            repeat (any_goals (first | assumption | wp_step))
            exact h _ _ c hc hS' hk'
          | _ => exact hr2.elim
    | _ => exact hr.elim
theorem call_setT {l : Addr} {ys : Array Value} {zs : List Str} {Q : Value → Shared → Prop} (hh : A.handled = none) (hl : s.heap.IsTuple l ys) (hi : PyProof.Rows.StrsAre ys.toList zs) (hn : zs.length + 1 < scanBound)
    (h : ∀ (h' : Heap) (tk c : Nat), Cn zs zs.length c → (∃ S, h'.SetOf (PySem.strKind prog w) s.heap.objs.size S c) → (∀ b o, b < s.heap.objs.size → s.heap.get? b = some o → h'.get? b = some o) → Q (.ref s.heap.objs.size) { s with heap := h', toks := tk }) :
    wpAny (model prog w) A (call (.type "set") [.ref l]) Q E s := by
  have facts := And.intro PySem.F.called_set.made PySem.F.called_set.sub
  obtain ⟨hmade, hsub⟩ := facts
  obtain ⟨c0, tl0, hmro⟩ := PySem.F.called_set.mro
  refine wpAny_call (codeAny_of_tree (show wpAny _ _ (callAny (.type "set") _) _ _ _ from wpAny_pure ⟨Code.quiet_builtin _ (by decide +kernel), codeAny_builtin PySem.F.entry_type_call ?_⟩))
  rw [Around.under_plain (weight_type_call_type "set" [.ref l] []) rfl]
  have facts2 := And.intro PySem.F.called_set.notType (And.intro PySem.F.called_set.canCreate (PySem.F.typeCall_set_1 (.ref l)))
  obtain ⟨h1, h2, hct⟩ := facts2
  repeat (any_goals (first | assumption | wp_step))
  refine codeAny_mono (code_set_new_1 (.ref l) (E := E) (Q₁ := fun ob s1 => ∃ led : Bool, ob = .ref s.heap.objs.size ∧ s1 = { s with heap := s.heap.push (emptyS led) }) fun led => ⟨led, rfl, rfl⟩) fun r s1 hr => ?_
  cases r with
  | error e => exact hr
  | ok fl =>
    cases fl with
    | ret ob =>
      obtain ⟨led, rfl, rfl⟩ := hr
      have hS : (s.heap.push (emptyS led)).get? s.heap.objs.size = some (emptyS led) := Heap.get?_push_size _ rfl
      have hT : Shared.TypeIs { s with heap := s.heap.push (emptyS led) } (.ref s.heap.objs.size) "set" := ⟨_, hS, rfl⟩
      have facts3 := And.intro PySem.F.called_set.init.lookup (PySem.F.called_set.init.bind (.ref s.heap.objs.size))
      obtain ⟨hli, hbi⟩ := facts3
      repeat (any_goals (first | assumption | wp_step))
      refine codeAny_mono (codeAny_call_builtin (R := wants (fun r s2 => r = .none ∧ ∃ h' tk c, s2 = { s with heap := h', toks := tk } ∧ (Cn zs zs.length c ∧ ∃ S, h'.SetOf (PySem.strKind prog w) s.heap.objs.size S c) ∧ (∀ b o, b < s.heap.objs.size → s.heap.get? b = some o → h'.get? b = some o)) E) PySem.F.called_set.init.plain PySem.F.entry_set_init (check_set_init_1 hT ?_)) fun r2 s2 hr2 => ?_
      · obtain ⟨⟨oc, odi, oda, osl⟩, hol, hcl, nl, hdl⟩ := hl
        simp only at hcl hdl
        subst hcl hdl
        have hol' : (s.heap.push (emptyS led)).get? l = some { cls := .type "tuple", dict := odi, data := .seq ys nl, slots := osl } := Heap.get?_push_of_some _ hol
        have facts4 := And.intro PySem.F.sub_tuple_set PySem.F.sub_tuple_frozenset
        obtain ⟨hsls, hslf⟩ := facts4
        have hne : (Value.type "tuple" == Value.type "dict") = false := by decide
        have hl1 : (s.heap.push (emptyS led)).IsTuple l ys := ⟨_, hol', rfl, nl, rfl⟩
        unfold Builtin.«set.__init__» noKeywords Builtin.Frozenset.updateFrom
        generalize hPI : pyIter = PI
        wp_walk
        subst hPI
        refine wpAny_pyIter_tuple hl1 (wpAny_bind (wpAny_runValue ?_))
        have hlS : l < s.heap.objs.size := Heap.lt_size hol
        have hneI : l ≠ (s.heap.push (emptyS led)).objs.size := by
          rw [Heap.size_push]
          exact Nat.ne_of_lt (Nat.lt_succ_of_lt hlS)
        have hSf : s.heap.objs.size ∉ [(s.heap.push (emptyS led)).objs.size, l] := by
          rw [Heap.size_push]
          simp only [List.mem_cons, List.not_mem_nil, or_false, not_or]
          exact ⟨Nat.ne_of_lt (Nat.lt_succ_self _), Nat.ne_of_gt hlS⟩
        have hsz : zs.length = ys.size := by rw [← StrsAre.len_eq hi, Array.length_toList]
        have hval : ∀ (i : Nat) (v : Value), ys[i]? = some v → ∃ t, v = .str (zs.getD i Str.empty) t := fun i v hv => SS.strs_at hi i v (by rw [Array.getElem?_toList]; exact hv)
        refine loopS ((Walks.tuple (by simp [hh] : A.in1.in1.in1.handled = none) _ l hneI ys).toS) s.heap.objs.size hSf zs hsz (by rw [← hsz]; exact hn) hval (ys.size - 0) 0 _ (by omega) (Nat.zero_le _) ⟨⟨_, Heap.get?_push_size _ rfl, rfl, rfl⟩, (hl1.push _)⟩ ?hS0 ?hR
        case hS0 =>
          have hget : ((s.heap.push (emptyS led)).push { cls := .type "tuple_iterator", data := .fields #[.ref l, .int 0 0] }).get? s.heap.objs.size = some (emptyS led) := Heap.get?_push_of_some _ hS
          exact ⟨0, ⟨Nat.le_refl _, by simp⟩, _, (fun k => by simp), (PyProof.Rows.setObjOf_fresh (knd := PySem.strKind prog w) led).setOf hget (by unfold scanBound; omega)⟩
        case hR =>
          rintro ⟨h', g', d', tk', os'⟩ hm ⟨c, hc, S, hS'⟩
          obtain rfl : g' = s.gens := hm.gens
          obtain rfl : d' = s.drawn := hm.drawn
          obtain rfl : os' = s.os := hm.os
          show wpAny _ _ _ _ _ _
          refine wpAny_pure (show wpAny _ _ (ret Value.none) _ _ _ from wpAny_pure ⟨rfl, h', tk', c, rfl, ⟨by rw [hsz]; exact hc, S, hS'⟩, fun b o hb e => ?_⟩)
          refine hm.heap b o ?_ (Heap.get?_push_of_some _ (Heap.get?_push_of_some _ e))
          rw [Heap.size_push]
          simp only [List.mem_cons, List.not_mem_nil, or_false, not_or]
          exact ⟨Nat.ne_of_lt hb, Nat.ne_of_lt (Nat.lt_succ_of_lt hb)⟩
      · cases r2 with
        | error e => exact hr2
        | ok fl2 =>
          cases fl2 with
          | ret r =>
            obtain ⟨rfl, h', tk, c, rfl, ⟨hc, hS'⟩, hk'⟩ := hr2
            repeat (any_goals (first | assumption | wp_step))
            exact h _ _ c hc hS' hk'
          | _ => exact hr2.elim
    | _ => exact hr.elim
end
end SS2Y
namespace L2
open PySem PySem.Spec PyProof.Rows
/-- len(set(xs)), xs a list or tuple of texts -/
def tLenSetY (K : PySem.W.Frag) (ta : TE) : TE := fun σ H Q => ta σ H fun x H1 => ∃ l, ∃ xs : List Str, x = .ref l ∧ (SqL K H1 l (xs.map V.str) ∨ SqT K H1 l (xs.map V.str)) ∧ xs.length ≤ 300 ∧ ∀ c : Nat, (c = xs.length ↔ xs.Nodup) → Q (.int c) H1
theorem pe_lenSetY {X : Cx} {a : Expr} {ta : TE} {p p2 q pos : Pos} (hc : X.calm = true) (hg : Gl X "len") (hm : X.mg "len" = none) (hg2 : Gl X "set") (hm2 : X.mg "set" = none) (ha : PE X a ta) (na : starEach [a] X.env = (false, eval a X.env) :: starEach [] X.env := by rfl) :
    PE X (.Call (.Name "len" p) [.Call (.Name "set" p2) [a] [] q] [] pos) (tLenSetY X.K ta) := by
  refine ⟨fun pins s σ H Q I h => Call_ (ld_blt I hg hm boot_len (PyProof.Rows.callWith_builtin1 (PyProof.Rows.args_cons (Call_ (ld_blt I hg2 hm2 boot_set ?_)) rfl) rfl rfl))⟩
  refine PyProof.Rows.callWith_type1 (PyProof.Rows.args_cons (thn (ha.run pins s σ H _ I h) fun v s1 ⟨x, H1, I1, r1, l, xs, ex, hq, h1, q1⟩ => PyProof.Rows.args_nil ?_) na) na rfl
  subst ex
  cases r1
  have sb : xs.length + 1 < scanBound := by
    unfold scanBound
    omega
  have fin : ∀ (h' : Heap) (tk c : Nat), SS2Y.Cn xs xs.length c → (∃ S, h'.SetOf (PySem.strKind X.prog X.w) s1.heap.objs.size S c) → (∀ b o, b < s1.heap.objs.size → s1.heap.get? b = some o → h'.get? b = some o) →
      wpAny (model X.prog X.w) X.A (spliced (backTo pos (starEach [] X.env))) (fun vs s2 => wpAny (model X.prog X.w) X.A (call (.builtin "len") (Value.ref s1.heap.objs.size :: vs)) (EP X pins σ Q) X.xe s2) X.xe { s1 with heap := h', toks := tk } := fun h' tk c hc' ⟨S, hS⟩ hk => by
    obtain ⟨o, es, ep, t, ho, hex, hd, _, _, _, hf, hn⟩ := hS
    have I2 : Inv X pins σ H1 { s1 with heap := h', toks := tk } := I1.kept fun b o e => hk b o (Heap.lt_size e) e
    exact PyProof.Rows.args_nil (call_len_set ho hex hd hf (by have := hc'.1; rw [hn] <;> omega) ⟨.int c, H1, I2.tok _, ⟨_, by rw [hn]⟩, q1 c (by have := hc'.2; rwa [List.take_length] at this)⟩)
  rcases hq with hq | hq
  · obtain ⟨its, r, pl, hz⟩ := I1.list hq
    exact SS2Y.call_setL (I1.ok.hd hc) pl.isList (by simpa using strsAre_of r) sb fin
  · obtain ⟨its, r, pl, hz⟩ := I1.tuple hq
    exact SS2Y.call_setT (I1.ok.hd hc) pl (by simpa using strsAre_of r) sb fin
end L2


namespace ToyY
open Toy
open PySem PySem.Spec L2 PyProof.Rows PySem.W
/-! ### forms, as the law tells them -/
def testsL : List Str := ["is", "equal", "at", "and", "or", "not"]
def walksL : List Str := ["same", "field", "item", "none", "fail", "pipe", "if"]
def moreL : List Str := ["every", "both", "try", "other"]
def kindL (ch : Bool) : List Str := walksL ++ (if ch = true then moreL else [])
def keyD : Dt → Str
  | .tup (.str k :: _) => k
  | _ => Str.empty
def valD : Dt → Dt
  | .tup [_, g] => g
  | x => x
def entD : Dt → Bool
  | .tup [.str k, _] => wordS k
  | _ => false
def strOfD : Dt → Str
  | .str x => x
  | _ => Str.empty
def uniq (ks : List Str) : Bool := decide ks.Nodup
def sgS (c : Nat) : Str := ⟨#[c]⟩
def entsD (l : List Dt) : Bool := l.all entD && uniq (l.map keyD)
def slt (p : Bool → Dt → Bool) (o : Bool → Dt → Bool) (c : Nat) (t : Dt) : Bool :=
  if decide (c ∈ ("fwc" : Str).cps.toList) = true then p true t && (decide (c = 102) || o (decide (c = 99)) t)
  else if decide (c = 116) = true then p false t
  else if decide (c ∈ ("kni" : Str).cps.toList) = true then (if decide (c = 105) = true then wholeD t else if decide (c = 107) = true then wordD t else freeD t)
  else if decide (c = 120) = true then leafD t
  else if decide (c = 115) = true then sortD t
  else match t with
    | .tup l => if decide (c = 112) = true then decide (l.length < 4) && (l.all freeD && uniq (l.map strOfD)) else if decide (c = 97) = true then decide (l.length < 4) && l.all (p true) else entsD l && l.all fun e => p true (valD e)
    | _ => false
def iso : Nat → Bool → Dt → Bool
  | 0, _, _ => false
  | n + 1, ch, t => match t with
    | .tup (.str w :: fs) => decide (w ∈ kindL ch) && (match slF.lookup w with
      | some x => (List.range fs.length).all fun i => !(decide (sg x i = 102) && !iso n ch (fs.getD i .non))
      | none => true)
    | _ => false
def slotOf (tr : Bool) (w : Str) : Option Str := if tr = true then slF.lookup w else slT.lookup w
def frm : Nat → Bool → Dt → Bool
  | 0, _, _ => false
  | n + 1, tr, t => match t with
    | .tup (.str w :: fs) => (match slotOf tr w with
      | some x => decide (fs.length = x.length) && (List.range fs.length).all fun i => slt (frm n) (iso n) (sg x i) (fs.getD i .non)
      | none => false)
    | _ => false
theorem frm_cases {n : Nat} {tr : Bool} {t : Dt} (h : frm (n + 1) tr t = true) : ∃ w fs x, t = .tup (.str w :: fs) ∧ slotOf tr w = some x ∧ fs.length = x.length ∧ ∀ i, i < fs.length → slt (frm n) (iso n) (sg x i) (fs.getD i .non) = true := by
  cases t with
  | tup l =>
    cases l with
    | nil => simp [frm] at h
    | cons a fs =>
      cases a with
      | str w =>
        rw [frm] at h
        cases hk : slotOf tr w with
        | none => simp only [hk] at h; exact absurd h Bool.false_ne_true
        | some x =>
          simp only [hk, Bool.and_eq_true, decide_eq_true_eq, List.all_eq_true, List.mem_range] at h
          exact ⟨w, fs, x, rfl, hk, h.1, h.2⟩
      | _ => simp [frm] at h
  | _ => simp [frm] at h
theorem frm_node (n : Nat) (tr : Bool) (w : Str) (fs : List Dt) : frm (n + 1) tr (.tup (.str w :: fs)) = (match slotOf tr w with
    | some x => decide (fs.length = x.length) && (List.range fs.length).all fun i => slt (frm n) (iso n) (sg x i) (fs.getD i .non)
    | none => false) := by rw [frm]
theorem iso_node (n : Nat) (ch : Bool) (w : Str) (fs : List Dt) {x : Str} (h : slF.lookup w = some x) : iso (n + 1) ch (.tup (.str w :: fs)) = (decide (w ∈ kindL ch) && (List.range fs.length).all fun i => !(decide (sg x i = 102) && !iso n ch (fs.getD i .non))) := by
  rw [iso]
  simp only [h]
theorem slF_small : ∀ p ∈ slF, p.2.length ≤ 4 ∧ p.2.cps.all (· < 128) = true := by decide +kernel
theorem slT_small : ∀ p ∈ slT, p.2.length ≤ 4 ∧ p.2.cps.all (· < 128) = true := by decide +kernel
theorem lookup_memS {w x : Str} : ∀ {L : List (Str × Str)}, L.lookup w = some x → (w, x) ∈ L
  | [], h => by cases h
  | (k, v) :: L, h => by
    by_cases e : w = k
    · subst e
      simp [List.lookup] at h
      subst h
      exact List.mem_cons_self
    · have : (w == k) = false := by simp [e]
      simp only [List.lookup, this] at h
      exact List.mem_cons_of_mem _ (lookup_memS h)
theorem slot_small {tr : Bool} {w x : Str} (h : slotOf tr w = some x) : x.length ≤ 4 := by
  unfold slotOf at h
  split at h
  · exact (slF_small _ (lookup_memS h)).1
  · exact (slT_small _ (lookup_memS h)).1
/-- a sign beside a sign -/
theorem sgE (c d : Nat) : decide (V.str ⟨#[c]⟩ = V.str ⟨#[d]⟩) = decide (c = d) := by
  refine decide_eq_decide.mpr ⟨fun h => ?_, fun h => by rw [h]⟩
  have := congrArg (fun s : Str => s.cps.toList) (V.str.inj h)
  simpa using this
theorem at_nat {xs : List V} {n : Nat} {v : V} (h : xs[n]? = some v) : atI xs (n : Int) = some v := atI_nat h
theorem cut_1 (a : V) (xs : List V) : cutV (a :: xs) (some 1) none = xs := by
  unfold cutV
  rw [show HT.sIx (a :: xs).length 0 (some 1) = min 1 (a :: xs).length from HT.sIx_nat _ _ 1, HT.sIx_none]
  rw [show min 1 (a :: xs).length = 1 by simp]
  simp
theorem tif_both {t1 t2 : TE} {c : Bool} {σ : L2.St} {H : Hp} {Q : VK} {R : Hp → Prop} {v : V} (hk : ∀ H3, R H3 → Q v H3) (h1 : c = true → ∀ Q' : VK, (∀ H3, R H3 → Q' v H3) → t1 σ H Q') (h2 : c = false → ∀ Q' : VK, (∀ H3, R H3 → Q' v H3) → t2 σ H Q') :
    if c = true then t1 σ H Q else t2 σ H Q := by
  cases c with
  | true => rw [if_pos rfl]; exact h1 rfl Q hk
  | false => rw [if_neg Bool.false_ne_true]; exact h2 rfl Q hk
theorem nx_run {D : Ends} {σ : L2.St} {H : Hp} (h : D.nx σ H) : tNext D σ H := h
theorem at_0 (a : V) (xs : List V) : atI (a :: xs) 0 = some a := at_nat (n := 0) rfl
theorem sg_some {x : Str} {i : Nat} (h : i < x.length) : atI x.cps.toList ((0 : Int) + (i : Int)) = some (sg x i) := by
  have h' : i < x.cps.toList.length := by rw [Array.length_toList]; exact h
  rw [Int.zero_add]
  refine atI_nat ?_
  unfold sg
  rw [List.getD_eq_getElem?_getD, List.getElem?_eq_getElem h']
  rfl
def spForm (K : PySem.W.Frag) (j : Nat) : Sp := fun vs H Q _ => ∃ (v : V) (tr : Bool) (t : Dt), vs = [v, .bl tr] ∧ Dv K H v t ∧ dep t ≤ j ∧ okd 300 t = true ∧ ∀ H', Same H H' → Q (.bl (frm j tr t)) H'
def spOf (K : PySem.W.Frag) (j : Nat) : Sp := fun vs H Q _ => ∃ (v : V) (c : Nat) (t : Dt), vs = [v, .str ⟨#[c]⟩] ∧ (c = 119 ∨ c = 99) ∧ Dv K H v t ∧ dep t ≤ j ∧ okd 300 t = true ∧ frm j true t = true ∧ ∀ H', Same H H' → Q (.bl (iso j (decide (c = 99)) t)) H'
def spSlt (K : PySem.W.Frag) (j : Nat) : Sp := fun vs H Q _ => ∃ (v : V) (c : Nat) (t : Dt), vs = [.str ⟨#[c]⟩, v] ∧ Dv K H v t ∧ dep t ≤ j ∧ okd 300 t = true ∧ ∀ H', Same H H' → Q (.bl (slt (frm j) (iso j) c t)) H'
abbrev sForm : Stmt := top 62
abbrev sOf : Stmt := top 63
abbrev NFo : List Str := ["_law_x", "_law_of_filters", "_law_slots_here", "_law_k"]
abbrev NOf : List Str := ["_law_term", "_law_slot", "_law_words", "_law_rows", "_law_kind", "_law_one"]
section
variable {P : Program} {w : World} {K : PySem.W.Frag} {mg : Str → Option Value} {base : Heap}
theorem scFo : FnScope NFo ["_law_x", "_law_of_filters"] (defScope sForm) := ⟨rfl, rfl, rfl, by decide +kernel, rfl, by decide +kernel, by decide +kernel⟩
theorem scOf : FnScope NOf ["_law_term", "_law_slot"] (defScope sOf) := ⟨rfl, rfl, rfl, by decide +kernel, rfl, by decide +kernel, by decide +kernel⟩
theorem okd_get {c : Nat} {l : List Dt} {i : Nat} {t : Dt} (h : okdL c l = true) (e : l[i]? = some t) : okd c t = true := by
  rw [okdL_all] at h
  exact List.all_eq_true.mp h t (List.mem_of_getElem? e)
theorem ok_form {j : Nat} {f fS fT fI : Addr} {fd fdS fdT fdI : FuncData} (F : Fun K "_law_is_form" "_law_is_form" sForm f fd)
    (GS : FnOk P w K mg base CX0 1 fS fdS ["_law_word"] (spSlot slF)) (mS : mg "_law_slots" = some (.ref fS)) (kS : PySem.W.keepIn K (.ref fS) = true) (bS : Binds K fdS ["_law_word"] [])
    (GT : FnOk P w K mg base CX0 1 fT fdT ["_law_word"] (spSlot slT)) (mT : mg "_law_test_slots" = some (.ref fT)) (kT : PySem.W.keepIn K (.ref fT) = true) (bT : Binds K fdT ["_law_word"] [])
    (ih : FnOk P w K mg base CX0 (2 * j + 5) fI fdI ["_law_slot", "_law_x"] (spSlt K j)) (mSl : mg "_law_is_slot" = some (.ref fI)) (kI : PySem.W.keepIn K (.ref fI) = true) (bI : Binds K fdI ["_law_slot", "_law_x"] [])
    (mI : mg "isinstance" = none) (mTu : mg "tuple" = none) (mStr : mg "str" = none) (mLen : mg "len" = none) (mR : mg "range" = none) : FnOk P w K mg base CX0 (2 * j + 6) f fd ["_law_x", "_law_of_filters"] (spForm K (j + 1)) := by
  refine F.ok (k := 2 * j + 5) scFo (fun vs H Q E h => ?_) (fun cdv A outer s H vs Q E hr h => ?_)
  · obtain ⟨v, tr, t, rfl, _⟩ := h
    rfl
  · obtain ⟨v, tr, t, rfl, hv, hdep, hok, q⟩ := h
    have hu := hr.units
    have hr1 : Room 1 _ := hr.mono (show 1 ≤ 2 * j + 5 by omega)
    refine ⟨_, pss_cons (ps_if (PW.pt (pw_or (pt_not (pt_val (pe_callB call_isi (by rfl) mI PyProof.Rows.boot_isinstance (pa_cons (pv 0) (pa_cons (pe_bltn (v := .ty "tuple") (by rfl) mTu (by decide +kernel) rfl) pa_nil)))))
          (pw_or (pt_cmpR (op_eqT0 hu) (pv 0) (pe_tup pa_nil) (nomark _)) (pw_or1 (pt_not (pt_val (pe_callB call_isi (by rfl) mI PyProof.Rows.boot_isinstance (pa_cons (pe_ix ix_tup (pv 0) pe_int (fun _ _ => rfl)) (pa_cons (pe_bltn (v := .ty "str") (by rfl) mStr (by decide +kernel) rfl) pa_nil))))))))) (pss_one (ps_ret pe_bl)) pss_nil)
      (pss_cons (ps_set (i := 2) scFo.nd rfl (Or.inr rfl) (pe_ifExp (pt_val (pv 1)) (pe_call GS hr1 (by rfl) mS kS bS .nil pass0 (pa_cons (pe_ix ix_tup (pv 0) pe_int (fun _ _ => rfl)) pa_nil)) (pe_call GT hr1 (by rfl) mT kT bT .nil pass0 (pa_cons (pe_ix ix_tup (pv 0) pe_int (fun _ _ => rfl)) pa_nil))))
      (pss_cons (ps_if (PW.pt (pw_or (pt_cmpR op_isN (pv 2) pe_non (nomark _)) (pw_or1 (pt_cmpR op_ne (pe_callB call_len_seq (by rfl) mLen PySem.boot_len (pa_cons (pv 0) pa_nil)) (pe_op op_add pe_int (pe_callB call_len_str (by rfl) mLen PySem.boot_len (pa_cons (pv 2) pa_nil))) (nomark _))))) (pss_one (ps_ret pe_bl)) pss_nil)
      (pss_one (ps_ret (pe_cmpR (op_eqE hu) (pe_lc (own := [("_law_k", 3)]) (g := gName 3) (te := tVar 3) (tt := tNot (tB (tCall (spSlt K j) [] E0 (tCons (tOp rIxS (tVar 2) (tVar 3)) (tCons (tOp (rIxT K) (tVar 0) (tOp (rI0 fun i j => .int (i + j)) (tVar 3) (tC (.int 1)))) tNil))))) (by rfl) scFo.nd (pi_range1 (by rfl) mR (pa_cons (pe_callB call_len_str (by rfl) mLen PySem.boot_len (pa_cons (pv 2) pa_nil)) pa_nil))
        (blkOk_by (own := [("_law_k", 3)]) (N := NFo) (sc := defScope sForm) (by decide +kernel)) (fun _ _ _ _ _ => pg_name (i := 3) scFo.nd rfl (Or.inl rfl))
        (fun _ _ _ _ _ => pts_one (pt_not (pt_val (pe_call ih hr (by rfl) mSl kI bI .nil pass0 (pa_cons (pe_ix ix_str (pv 2) (pv 3) (fun _ _ => rfl)) (pa_cons (pe_ix ix_tup (pv 0) (pe_op op_add (pv 3) pe_int) (fun _ _ => rfl)) pa_nil)))))) (fun _ _ _ _ _ => pv 3)) (pe_lst pa_nil) (nomark _)))))), ?_⟩
    refine ⟨_, rfl, isT hv ⟨_, rfl, ?_⟩⟩
    cases hv with
    | non => exact iteT (iteT (q H same_id))
    | bl b => exact iteT (iteT (q H same_id))
    | int i => exact iteT (iteT (q H same_id))
    | str x => exact iteT (iteT (q H same_id))
    | lst _ => exact iteT (iteT (q H same_id))
    | dct _ => exact iteT (iteT (q H same_id))
    | @tup a xs ts hs hall =>
      refine iteF ⟨_, rfl, few (by show 0 ≤ 1000; decide), fun T nT => ?_⟩
      have s1 : Same H (upd H T (.tup [])) := same_new same_id nT
      have hT1 : SqT K (upd H T (.tup [])) T [] := SqT.of upd_same
      generalize upd H T (.tup []) = H1 at s1 hT1 ⊢
      have hs1 := same_seqT s1 hs
      refine ⟨a, T, xs, rfl, rfl, hs1, hT1, _, rfl, ?_⟩
      cases hall with
      | nil => exact iteT (iteT (q H1 s1))
      | @cons u d us ds hd hds =>
        refine iteF ⟨_, rfl, a, _, 0, u, rfl, rfl, hs1, at_0 _ _, isS (dvM s1 hd) ⟨_, rfl, ?_⟩⟩
        cases hd with
        | non => exact iteT (q H1 s1)
        | bl b => exact iteT (q H1 s1)
        | int i => exact iteT (q H1 s1)
        | tup _ _ => exact iteT (q H1 s1)
        | lst _ => exact iteT (q H1 s1)
        | dct _ => exact iteT (q H1 s1)
        | str w =>
          refine iteF ?_
          have lu := dvl_len hds
          simp only [okd, okdL, List.length_cons, Bool.and_eq_true, decide_eq_true_eq] at hok
          simp only [dep, depL] at hdep
          rw [frm_node] at q
          refine nx_run ?_
          dsimp only
          refine asg_run ?_
          refine ⟨_, rfl, _, rfl, tif_both (R := fun H3 => Same H1 H3) (v := optS (slotOf tr w)) (fun H3 s3 => ?_) (fun hc Q' k => ?_) (fun hc Q' k => ?_)⟩
          rotate_left
          · subst hc
            exact ⟨_, rfl, a, _, 0, _, rfl, rfl, hs1, at_0 _ _, w, rfl, fun H3 s3 => k H3 s3⟩
          · subst hc
            exact ⟨_, rfl, a, _, 0, _, rfl, rfl, hs1, at_0 _ _, w, rfl, fun H3 s3 => k H3 s3⟩
          have hs3 := same_seqT s3 hs1
          have s13 := s1.trans s3
          cases hk : slotOf tr w with
          | none =>
            rw [hk] at q
            dsimp only at q
            exact ⟨_, rfl, rfl, _, rfl, iteT (iteT (q H3 s13))⟩
          | some x =>
            rw [hk] at q
            dsimp only at q
            have x4 := slot_small hk
            refine ⟨_, rfl, rfl, _, rfl, iteF ⟨_, rfl, a, _, rfl, .inr hs3, _, rfl, x, rfl, few (by omega), _, _, rfl, rfl, rfl, _, rfl, ?_⟩⟩
            by_cases hl : ds.length = x.length
            · rw [decide_eq_true hl, Bool.true_and] at q
              rw [decide_eq_true (show V.int ((V.str w :: us).length : Nat) = V.int (1 + (x.length : Int)) by
                congr 1
                rw [List.length_cons]
                omega)]
              refine iteF ?_
              refine ⟨_, rfl, x, rfl, few (by omega), (x.length : Int), rfl, by omega, by omega, fun D nD => ?_⟩
              have et : ((x.length : Int)).toNat = x.length := by omega
              rw [et]
              refine lc_none walk_range (fun i => !slt (frm j) (iso j) (sg x i) (ds.getD i .non)) (by omega) nD (fun _ _ => trivial) yFn_same ?_ ?_
              · rintro i y H2 P1 P0 hi s2 ⟨_, rfl⟩ h1 h0
                have hui : us[i]? = some us[i] := List.getElem?_eq_getElem (by omega)
                obtain ⟨ti, hti, hdi⟩ := dvl_get hds hui
                have eg : ds.getD i .non = ti := by rw [List.getD_eq_getElem?_getD, hti]; rfl
                rw [eg] at h1 h0
                have hdt : dep ti ≤ depL ds := dep_mem (List.mem_of_getElem? hti)
                refine ⟨rfl, _, rfl, _, rfl, x, _, sg x i, rfl, rfl, few (by omega), sg_some hi, _, rfl, _, rfl, _, _, rfl, rfl, a, _, _, us[i], rfl, rfl, same_seqT s2 hs3, ?_, us[i], sg x i, ti, rfl, dvM (s13.trans s2) hdi, by omega, okd_get hok.2.2 hti, fun H4 s4 => ⟨_, rfl, ?_⟩⟩
                · rw [show (0 : Int) + (i : Int) + 1 = ((i + 1 : Nat) : Int) by omega]
                  exact at_nat (by rw [List.getElem?_cons_succ]; exact hui)
                · exact ite2 (fun c => ⟨_, rfl, h1 c _ _ s4⟩) (fun c => h0 (by simpa using c) _ s4)
              · intro H2 acc s2 hD ha
                refine ⟨few (by show 0 ≤ 1000; decide), fun T2 nT2 => ⟨D, T2, acc, rfl, rfl, (upd_ne (ne_of_none hD nT2)).trans hD, upd_same, ?_⟩⟩
                rw [ha]
                simp only [Bool.not_not]
                rw [← hl]
                exact q _ (same_new (s13.trans s2) nT2)
            · rw [decide_eq_false hl, Bool.false_and] at q
              rw [decide_eq_false (show ¬ V.int ((V.str w :: us).length : Nat) = V.int (1 + (x.length : Int)) by
                intro e
                have e := V.int.inj e
                rw [List.length_cons] at e
                omega)]
              exact iteT (q H3 s13)
end
end ToyY


namespace ToyY
open Toy
open PySem PySem.Spec L2 PyProof.Rows PySem.W
theorem paired_get {α β : Type} {F : α → β → Prop} : ∀ {xs : List α} {ys : List β}, Paired F xs ys → ∀ {i : Nat} {y : β}, ys[i]? = some y → ∃ x, xs[i]? = some x ∧ F x y
  | _, _, .nil, i, y, h => by cases h
  | _, _, .cons r t, 0, y, h => by
    have e := Option.some.inj h
    subst e
    exact ⟨_, rfl, r⟩
  | _, _, .cons r t, i + 1, y, h => paired_get t h
theorem paired_len {α β : Type} {F : α → β → Prop} : ∀ {xs : List α} {ys : List β}, Paired F xs ys → xs.length = ys.length
  | _, _, .nil => rfl
  | _, _, .cons r t => congrArg Nat.succ (paired_len t)
theorem signs_get {x : Str} {i : Nat} (h : i < x.length) : (L2.signs x)[i]? = some (V.str ⟨#[sg x i]⟩) := by
  have h' : i < x.cps.toList.length := by rw [Array.length_toList]; exact h
  unfold L2.signs sg
  rw [List.getElem?_map, List.getD_eq_getElem?_getD, List.getElem?_eq_getElem h']
  rfl
theorem signs_len (x : Str) : (L2.signs x).length = x.length := by
  unfold L2.signs
  rw [List.length_map, Array.length_toList]
  rfl
theorem slt_of_f {p o : Bool → Dt → Bool} {t : Dt} (h : slt p o 102 t = true) : p true t = true := by
  unfold slt at h
  rw [if_pos (by decide +kernel), Bool.and_eq_true] at h
  exact h.1
theorem sg_t (c : Nat) : decide (V.str ⟨#[c]⟩ = V.str ("t" : Str)) = decide (c = 116) := by rw [show ("t" : Str) = ⟨#[116]⟩ by decide +kernel]; exact sgE c 116
theorem sg_f (c : Nat) : decide (V.str ⟨#[c]⟩ = V.str ("f" : Str)) = decide (c = 102) := by rw [show ("f" : Str) = ⟨#[102]⟩ by decide +kernel]; exact sgE c 102
theorem sg_c (c : Nat) : decide (V.str ⟨#[c]⟩ = V.str ("c" : Str)) = decide (c = 99) := by rw [show ("c" : Str) = ⟨#[99]⟩ by decide +kernel]; exact sgE c 99
theorem sg_i (c : Nat) : decide (V.str ⟨#[c]⟩ = V.str ("i" : Str)) = decide (c = 105) := by rw [show ("i" : Str) = ⟨#[105]⟩ by decide +kernel]; exact sgE c 105
theorem sg_k (c : Nat) : decide (V.str ⟨#[c]⟩ = V.str ("k" : Str)) = decide (c = 107) := by rw [show ("k" : Str) = ⟨#[107]⟩ by decide +kernel]; exact sgE c 107
theorem sg_x (c : Nat) : decide (V.str ⟨#[c]⟩ = V.str ("x" : Str)) = decide (c = 120) := by rw [show ("x" : Str) = ⟨#[120]⟩ by decide +kernel]; exact sgE c 120
theorem sg_s (c : Nat) : decide (V.str ⟨#[c]⟩ = V.str ("s" : Str)) = decide (c = 115) := by rw [show ("s" : Str) = ⟨#[115]⟩ by decide +kernel]; exact sgE c 115
theorem sg_p (c : Nat) : decide (V.str ⟨#[c]⟩ = V.str ("p" : Str)) = decide (c = 112) := by rw [show ("p" : Str) = ⟨#[112]⟩ by decide +kernel]; exact sgE c 112
theorem sg_a (c : Nat) : decide (V.str ⟨#[c]⟩ = V.str ("a" : Str)) = decide (c = 97) := by rw [show ("a" : Str) = ⟨#[97]⟩ by decide +kernel]; exact sgE c 97
theorem kinds_run {b : Bool} {t1 t2 : TE} {σ : L2.St} {H : Hp} {Q : VK} (h1 : ∀ Q' : VK, (∀ T, H T = none → Q' (.ref T) (upd H T (.lst (moreL.map V.str)))) → t1 σ H Q') (h2 : ∀ Q' : VK, (∀ T, H T = none → Q' (.ref T) (upd H T (.lst []))) → t2 σ H Q')
    (k : ∀ T, H T = none → Q (.ref T) (upd H T (.lst ((if b = true then moreL else []).map V.str)))) : if b = true then t1 σ H Q else t2 σ H Q := by
  cases b with
  | true =>
    rw [if_pos rfl]
    exact h1 Q fun T n => by simpa using k T n
  | false =>
    rw [if_neg Bool.false_ne_true]
    exact h2 Q fun T n => by simpa using k T n
section
variable {P : Program} {w : World} {K : PySem.W.Frag} {mg : Str → Option Value} {base : Heap}
theorem of_zero {f : Addr} {fd : FuncData} (F : Fun K "_law_is_of" "_law_is_of" sOf f fd) : FnOk P w K mg base CX0 3 f fd ["_law_term", "_law_slot"] (spOf K 0) :=
  F.ok (k := 2) scOf (fun vs H Q E h => by obtain ⟨v, c, t, _, _, _, _, _, h0, _⟩ := h; cases h0) (fun cdv A outer s H vs Q E hr h => by obtain ⟨v, c, t, _, _, _, _, _, h0, _⟩ := h; cases h0)
theorem ok_of1 {j : Nat} {f fS : Addr} {fd fdS : FuncData} (F : Fun K "_law_is_of" "_law_is_of" sOf f fd)
    (GS : FnOk P w K mg base CX0 1 fS fdS ["_law_word"] (spSlot slF)) (mS : mg "_law_slots" = some (.ref fS)) (kS : PySem.W.keepIn K (.ref fS) = true) (bS : Binds K fdS ["_law_word"] [])
    (ih : FnOk P w K mg base CX0 (j + 3) f fd ["_law_term", "_law_slot"] (spOf K j)) (mF : mg "_law_is_of" = some (.ref f)) (kF : PySem.W.keepIn K (.ref f) = true) (bF : Binds K fd ["_law_term", "_law_slot"] [])
    (mLi : mg "list" = none) (mZip : mg "zip" = none) : FnOk P w K mg base CX0 (j + 4) f fd ["_law_term", "_law_slot"] (spOf K (j + 1)) := by
  refine F.ok (k := j + 3) scOf (fun vs H Q E h => ?_) (fun cdv A outer s H vs Q E hr h => ?_)
  · obtain ⟨v, c, t, rfl, _⟩ := h
    rfl
  · obtain ⟨v, c, t, rfl, hc, hv, hdep, hok, hfr, q⟩ := h
    have hu := hr.units
    have hr1 : Room 1 _ := hr.mono (show 1 ≤ j + 3 by omega)
    refine ⟨_, pss_cons (ps_set (i := 2) scOf.nd rfl (Or.inl rfl) (pe_lst (pa_cons pe_str (pa_cons pe_str (pa_cons pe_str (pa_cons pe_str (pa_cons pe_str (pa_cons pe_str (pa_cons pe_str pa_nil)))))))))
      (pss_cons (ps_if (pt_cmpR op_notIn_seq (pe_ix ix_tup (pv 0) pe_int (fun _ _ => rfl)) (pe_op op_cat (pv 2) (pe_ifExp (pt_cmpR op_eq (pv 1) pe_str (nomark _)) (pe_lst (pa_cons pe_str (pa_cons pe_str (pa_cons pe_str (pa_cons pe_str pa_nil))))) (pe_lst pa_nil))) (by rfl)) (pss_one (ps_ret pe_bl)) pss_nil)
      (pss_cons (ps_set (i := 3) scOf.nd rfl (Or.inl rfl) (L2.pe_lstZipS rfl (by rfl) mLi (by rfl) mZip (pa_cons (pe_call GS hr1 (by rfl) mS kS bS .nil pass0 (pa_cons (pe_ix ix_tup (pv 0) pe_int (fun _ _ => rfl)) pa_nil)) (pa_cons (pe_slice sl_tupA (pv 0) (po_some pe_int) po_none) pa_nil))))
      (pss_one (ps_ret (pe_cmpR (op_eqE hu) (pe_lc (own := [("_law_kind", 4), ("_law_one", 5)]) (g := gTup K 2 (gCons (gName 4) (gCons (gName 5) gNil))) (te := tVar 5) (tt := tAnd (tTest (tOp rEq (tVar 4) (tC (.str "f")))) (tNot (tB (tCall (spOf K j) [] E0 (tCons (tVar 5) (tCons (tVar 1) tNil)))))) (by rfl) scOf.nd (pi_list (pv 3))
        (blkOk_by (own := [("_law_kind", 4), ("_law_one", 5)]) (N := NOf) (sc := defScope sOf) (by decide +kernel)) (fun _ _ _ _ _ => by exact (pg_tup rfl (pgs_cons (by exact (pg_name (i := 4) scOf.nd rfl (Or.inl rfl))) (pgs_cons (by exact (pg_name (i := 5) scOf.nd rfl (Or.inl rfl))) pgs_nil))))
        (fun _ _ _ _ _ => pts_one (PW.pt (pw_and (pt_cmpR op_eq (pv 4) pe_str (nomark _)) (pw_and1 (pt_not (pt_val (pe_call ih hr (by rfl) mF kF bF .nil pass0 (pa_cons (pv 5) (pa_cons (pv 1) pa_nil))))))))) (fun _ _ _ _ _ => pv 5)) (pe_lst pa_nil) (nomark _)))))), ?_⟩
    obtain ⟨wd, fs, x, rfl, hk, hl, hsl⟩ := frm_cases hfr
    have hk : slF.lookup wd = some x := hk
    have x4 := (slF_small _ (lookup_memS hk)).1
    have xa := (slF_small _ (lookup_memS hk)).2
    rw [iso_node _ _ _ _ hk] at q
    cases hv with
    | @tup a xs _ hs hall =>
    cases hall with
    | @cons u d us ds hd hds =>
    cases hd
    have lu := dvl_len hds
    simp only [okd, okdL, List.length_cons, Bool.and_eq_true, decide_eq_true_eq] at hok
    simp only [dep, depL] at hdep
    refine asg_run ⟨few (by show 7 ≤ 1000; decide), fun L nL => ?_⟩
    have s1 : Same H (upd H L (.lst (walksL.map V.str))) := same_new same_id nL
    have hL1 : (upd H L (.lst (walksL.map V.str))) L = some (.lst (walksL.map V.str)) := upd_same
    show (tSeq (tIfS _ _ _) _) _ _ (upd H L (.lst (walksL.map V.str)))
    generalize upd H L (.lst (walksL.map V.str)) = H1 at s1 hL1 ⊢
    have hs1 := same_seqT s1 hs
    refine ⟨_, rfl, a, _, 0, _, rfl, rfl, hs1, at_0 _ _, _, rfl, ⟨_, rfl, rfl, _, rfl, ?_⟩⟩
    rw [sg_c]
    refine kinds_run (fun Q' k => ⟨few (by show 4 ≤ 1000; decide), fun T nT => k T nT⟩) (fun Q' k => ⟨few (by show 0 ≤ 1000; decide), fun T nT => k T nT⟩) fun T nT => ?_
    have s2 := same_new (u := .lst ((if decide (c = 99) = true then moreL else []).map V.str)) s1 nT
    refine ⟨L, T, _, _, rfl, rfl, (upd_ne (ne_of_none hL1 nT)).trans hL1, upd_same, few (by
      rw [List.length_map, List.length_map]
      split <;> decide), fun G nG => ?_⟩
    have s3 := same_new (u := .lst (walksL.map V.str ++ (if decide (c = 99) = true then moreL else []).map V.str)) s2 nG
    refine ⟨G, _, rfl, .inl (SqL.of upd_same), rfl, ?_, _, rfl, ?_⟩
    · rw [← List.map_append]
      exact flat_strs _
    have ein : inV (V.str wd) (walksL.map V.str ++ (if decide (c = 99) = true then moreL else []).map V.str) = decide (wd ∈ kindL (decide (c = 99))) := by
      rw [← List.map_append]
      exact inV_strs wd _
    show (if (!inV (V.str wd) (walksL.map V.str ++ (if decide (c = 99) = true then moreL else []).map V.str)) = true then _ else _)
    rw [ein]
    have hs3 := same_seqT s3 hs
    generalize upd (upd H1 T (.lst ((if decide (c = 99) = true then moreL else []).map V.str))) G (.lst (walksL.map V.str ++ (if decide (c = 99) = true then moreL else []).map V.str)) = H3 at s3 hs3 ⊢
    cases hin : decide (wd ∈ kindL (decide (c = 99))) with
    | false =>
      rw [hin, Bool.false_and] at q
      exact iteT (q H3 s3)
    | true =>
      rw [hin, Bool.true_and] at q
      refine iteF ?_
      refine nx_run ?_
      dsimp only
      refine asg_run ?_
      refine ⟨_, rfl, a, _, 0, _, rfl, rfl, hs3, at_0 _ _, wd, rfl, fun H4 s4 => ?_⟩
      have hs4 := same_seqT s4 hs3
      refine ⟨_, rfl, 1, rfl, sl_runN hs4 fun H5 B s5 hB => ?_⟩
      rw [cut_1] at hB
      refine ⟨x, B, us, by rw [hk]; rfl, xa, hB, by rw [lu, hl]; rfl, by omega, fun H6 ts t zn t0 ht => ?_⟩
      obtain ⟨s6, zp⟩ := zn
      have s06 : Same H H6 := s3.trans (s4.trans (s5.trans s6))
      have lts : ts.length = x.length := by
        have := paired_len zp
        rw [List.length_zip, signs_len] at this
        omega
      refine ⟨_, rfl, t, rfl, ⟨_, SqL.of ht⟩, fun D nD => ?_⟩
      refine lc_none (walk_list (K := K) (a := t) (xs := ts.map V.ref)) (fun i => decide (sg x i = 102) && !iso j (decide (c = 99)) (fs.getD i .non)) (by rw [List.length_map]; omega) nD (fun H' s' => SqL.of (s' _ _ ht)) yAt_same ?_ ?_
      · rintro i y H7 P1 P0 hi s7 ⟨_, hy⟩ h1 h0
        rw [List.length_map] at hi
        have hui : us[i]? = some us[i] := List.getElem?_eq_getElem (by omega)
        have hz : ((L2.signs x).zip us)[i]? = some (V.str ⟨#[sg x i]⟩, us[i]) := by
          rw [List.getElem?_zip_eq_some]
          exact ⟨signs_get (by omega), hui⟩
        obtain ⟨T', hT', _, hT6⟩ := paired_get zp hz
        rw [List.getElem?_map, hT'] at hy
        cases hy
        obtain ⟨ti, hti, hdi⟩ := dvl_get hds hui
        have eg : fs.getD i .non = ti := by rw [List.getD_eq_getElem?_getD, hti]; rfl
        rw [eg] at h1 h0
        have hdt : dep ti ≤ depL fs := dep_mem (List.mem_of_getElem? hti)
        refine ⟨T', _, rfl, SqT.of (s7 _ _ hT6), rfl, _, _, rfl, _, _, rfl, rfl, rfl, _, rfl, rfl, _, rfl, ?_⟩
        rw [sg_f]
        cases h102 : decide (sg x i = 102) with
        | false =>
          rw [h102, Bool.false_and] at h0
          exact iteF (iteF (h0 rfl _ same_id))
        | true =>
          rw [h102, Bool.true_and] at h1 h0
          have es := hsl i (by omega)
          rw [of_decide_eq_true h102, eg] at es
          refine iteT ⟨_, rfl, _, rfl, us[i], c, ti, rfl, hc, dvM (s06.trans s7) hdi, by omega, okd_get hok.2.2 hti, slt_of_f es, fun H8 s8 => ⟨_, rfl, ?_⟩⟩
          exact ite2 (fun c => ⟨_, rfl, h1 c _ _ s8⟩) (fun c => h0 (by simpa using c) _ s8)
      · intro H7 acc s7 hD ha
        refine ⟨few (by show 0 ≤ 1000; decide), fun T2 nT2 => ⟨D, T2, acc, rfl, rfl, (upd_ne (ne_of_none hD nT2)).trans hD, upd_same, ?_⟩⟩
        rw [ha, List.length_map, lts, ← hl]
        exact q _ (same_new (s06.trans s7) nT2)
end
end ToyY


namespace ToyY
open Toy
open PySem PySem.Spec L2 PyProof.Rows PySem.W
abbrev sSlot : Stmt := top 61
abbrev NSl : List Str := ["_law_slot", "_law_x", "_law_keys", "_law_entry", "_law_one"]
theorem fwc_of {c : Nat} (h : decide (c ∈ ("fwc" : Str).cps.toList) = true) (n : decide (c = 102) = false) : c = 119 ∨ c = 99 := by
  rw [show ("fwc" : Str).cps.toList = [102, 119, 99] by decide +kernel] at h
  have h := of_decide_eq_true h
  have n := of_decide_eq_false n
  simp only [List.mem_cons, List.not_mem_nil, or_false] at h
  omega
theorem strs_of {K : PySem.W.Frag} {H : Hp} : ∀ {us : List V} {ts : List Dt}, DvL K H us ts → ts.all freeD = true → us = (ts.map strOfD).map V.str
  | _, _, .nil, _ => rfl
  | _, t :: ts, .cons a b, h => by
    rw [List.all_cons, Bool.and_eq_true] at h
    have ih := strs_of b h.2
    cases a with
    | str x =>
      rw [ih]
      rfl
    | _ => simp [freeD] at h
theorem all_dv {l : List Dt} {p : Dt → Bool} : ((List.range l.length).all fun i => p (l.getD i .non)) = l.all p := by
  refine all_range l p _ fun i hi => ?_
  rw [List.getD_eq_getElem?_getD, List.getElem?_eq_getElem hi]
  rfl
theorem getD_of {l : List Dt} {i : Nat} {t : Dt} (h : l[i]? = some t) : l.getD i .non = t := by
  rw [List.getD_eq_getElem?_getD, h]
  rfl
theorem ent_cases {t : Dt} (h : entD t = true) : ∃ k g, t = .tup [.str k, g] ∧ wordS k = true := by
  unfold entD at h
  split at h
  · exact ⟨_, _, rfl, h⟩
  · cases h
theorem ents_bad {l : List Dt} {i : Nat} {t : Dt} (h : l[i]? = some t) (b : entD t = false) : entsD l = false := by
  unfold entsD
  have : l.all entD = false := by
    rw [List.all_eq_false]
    exact ⟨t, List.mem_of_getElem? h, by rw [b]; exact Bool.false_ne_true⟩
  rw [this, Bool.false_and]
theorem ents_twice {l : List Dt} {i : Nat} {t : Dt} (h : l[i]? = some t) (m : keyD t ∈ (l.take i).map keyD) : entsD l = false := by
  unfold entsD uniq
  have : decide ((l.map keyD).Nodup) = false := by
    refine decide_eq_false fun nd => ?_
    have hi : i < l.length := (List.getElem?_eq_some_iff.mp h).1
    have e : l[i] = t := (List.getElem?_eq_some_iff.mp h).2
    rw [← List.take_append_drop i l, List.map_append, List.nodup_append] at nd
    refine nd.2.2 _ m _ ?_ rfl
    rw [List.mem_map]
    exact ⟨t, by rw [← e, ← List.getElem_cons_drop hi]; exact List.mem_cons_self, rfl⟩
  rw [this, Bool.and_false]
section
variable {P : Program} {w : World} {K : PySem.W.Frag} {mg : Str → Option Value} {base : Heap}
theorem scSlt : FnScope NSl ["_law_slot", "_law_x"] (defScope sSlot) := ⟨rfl, rfl, rfl, by decide +kernel, rfl, by decide +kernel, by decide +kernel⟩
theorem ok_slt {j : Nat} {f fFo fOf fWh fWd fFr fLf : Addr} {fd fdFo fdOf fdWh fdWd fdFr fdLf : FuncData} (F : Fun K "_law_is_slot" "_law_is_slot" sSlot f fd)
    (GFo : FnOk P w K mg base CX0 (2 * j + 4) fFo fdFo ["_law_x", "_law_of_filters"] (spForm K j)) (mFo : mg "_law_is_form" = some (.ref fFo)) (kFo : PySem.W.keepIn K (.ref fFo) = true) (bFo : Binds K fdFo ["_law_x", "_law_of_filters"] [])
    (GOf : FnOk P w K mg base CX0 (j + 3) fOf fdOf ["_law_term", "_law_slot"] (spOf K j)) (mOf : mg "_law_is_of" = some (.ref fOf)) (kOf : PySem.W.keepIn K (.ref fOf) = true) (bOf : Binds K fdOf ["_law_term", "_law_slot"] [])
    (GWh : FnOk P w K mg base CX0 1 fWh fdWh ["_law_x", "_law_most"] (spWh K)) (mWh : mg "_law_is_whole" = some (.ref fWh)) (kWh : PySem.W.keepIn K (.ref fWh) = true) (bWh : Binds K fdWh ["_law_x", "_law_most"] [])
    (GWd : FnOk P w K mg base CX0 1 fWd fdWd ["_law_x"] (spM K wordD)) (mWd : mg "_law_is_word" = some (.ref fWd)) (kWd : PySem.W.keepIn K (.ref fWd) = true) (bWd : Binds K fdWd ["_law_x"] [])
    (GFr : FnOk P w K mg base CX0 2 fFr fdFr ["_law_x"] (spM K freeD)) (mFr : mg "_law_is_free" = some (.ref fFr)) (kFr : PySem.W.keepIn K (.ref fFr) = true) (bFr : Binds K fdFr ["_law_x"] [])
    (GLf : FnOk P w K mg base CX0 1 fLf fdLf ["_law_x"] (spM K leafD)) (mLf : mg "_law_is_leaf" = some (.ref fLf)) (kLf : PySem.W.keepIn K (.ref fLf) = true) (bLf : Binds K fdLf ["_law_x"] [])
    (mI : mg "isinstance" = none) (mTu : mg "tuple" = none) (mStr : mg "str" = none) (mLen : mg "len" = none) (mSet : mg "set" = none) : FnOk P w K mg base CX0 (2 * j + 5) f fd ["_law_slot", "_law_x"] (spSlt K j) := by
  refine F.ok (k := 2 * j + 4) scSlt (fun vs H Q E h => ?_) (fun cdv A outer s H vs Q E hr h => ?_)
  · obtain ⟨v, c, t, rfl, _⟩ := h
    rfl
  · obtain ⟨v, c, t, rfl, hv, hdep, hok, q⟩ := h
    have hu := hr.units
    have hr1 : Room 1 _ := hr.mono (show 1 ≤ 2 * j + 4 by omega)
    have hr2 : Room 2 _ := hr.mono (show 2 ≤ 2 * j + 4 by omega)
    have hrO : Room (j + 3) _ := hr.mono (show j + 3 ≤ 2 * j + 4 by omega)
    refine ⟨_, pss_cons (ps_if (pt_cmpR op_in_sign (pv 0) pe_str (by with_unfolding_all rfl)) (pss_one (ps_ret (pe_and (pe_call GFo hr (by rfl) mFo kFo bFo .nil pass0 (pa_cons (pv 1) (pa_cons pe_bl pa_nil))) (pe_one (pe_or (pe_cmpR op_eq (pv 0) pe_str (nomark _)) (pe_one (pe_call GOf hrO (by rfl) mOf kOf bOf .nil pass0 (pa_cons (pv 1) (pa_cons (pv 0) pa_nil))))))))) pss_nil)
      (pss_cons (ps_if (pt_cmpR op_eq (pv 0) pe_str (nomark _)) (pss_one (ps_ret (pe_call GFo hr (by rfl) mFo kFo bFo .nil pass0 (pa_cons (pv 1) (pa_cons pe_bl pa_nil))))) pss_nil)
      (pss_cons (ps_if (pt_cmpR op_in_sign (pv 0) pe_str (by with_unfolding_all rfl)) (pss_one (ps_ret (pe_ifExp (pt_cmpR op_eq (pv 0) pe_str (nomark _)) (pe_call GWh hr1 (by rfl) mWh kWh bWh .nil pass0 (pa_cons (pv 1) (pa_cons pe_int pa_nil)))
        (pe_ifExp (pt_cmpR op_eq (pv 0) pe_str (nomark _)) (pe_call GWd hr1 (by rfl) mWd kWd bWd .nil pass0 (pa_cons (pv 1) pa_nil)) (pe_call GFr hr2 (by rfl) mFr kFr bFr .nil pass0 (pa_cons (pv 1) pa_nil)))))) pss_nil)
      (pss_cons (ps_if (pt_cmpR op_eq (pv 0) pe_str (nomark _)) (pss_one (ps_ret (pe_call GLf hr1 (by rfl) mLf kLf bLf .nil pass0 (pa_cons (pv 1) pa_nil)))) pss_nil)
      (pss_cons (ps_if (pt_cmpR op_eq (pv 0) pe_str (nomark _)) (pss_one (ps_ret (pe_and (pe_callB call_isi (by rfl) mI PyProof.Rows.boot_isinstance (pa_cons (pv 1) (pa_cons (pe_bltn (v := .ty "str") (by rfl) mStr (by decide +kernel) rfl) pa_nil)))
        (pe_one (pe_cmpR op_in_seq (pv 1) (pe_lst (pa_cons pe_str (pa_cons pe_str (pa_cons pe_str (pa_cons pe_str (pa_cons pe_str (pa_cons pe_str (pa_cons pe_str pa_nil)))))))) (by rfl)))))) pss_nil)
      (pss_cons (ps_if (pt_not (pt_val (pe_callB call_isi (by rfl) mI PyProof.Rows.boot_isinstance (pa_cons (pv 1) (pa_cons (pe_bltn (v := .ty "tuple") (by rfl) mTu (by decide +kernel) rfl) pa_nil))))) (pss_one (ps_ret pe_bl)) pss_nil)
      (pss_cons (ps_if (pt_cmpR op_eq (pv 0) pe_str (nomark _)) (pss_one (ps_ret (pe_and (pe_cmpR op_lt (pe_callB call_len_seq (by rfl) mLen PySem.boot_len (pa_cons (pv 1) pa_nil)) pe_int (nomark _))
        (pe_and (pe_cmpR (op_eqE hu) (pe_lc (own := [("_law_one", 4)]) (g := gName 4) (te := tVar 4) (tt := tNot (tB (tCall (spM K freeD) [] E0 (tCons (tVar 4) tNil)))) (by rfl) scSlt.nd (pi_tup (pv 1))
          (blkOk_by (own := [("_law_one", 4)]) (N := NSl) (sc := defScope sSlot) (by decide +kernel)) (fun _ _ _ _ _ => pg_name (i := 4) scSlt.nd rfl (Or.inl rfl))
          (fun _ _ _ _ _ => pts_one (pt_not (pt_val (pe_call GFr hr2 (by rfl) mFr kFr bFr .nil pass0 (pa_cons (pv 4) pa_nil))))) (fun _ _ _ _ _ => pv 4)) (pe_lst pa_nil) (nomark _))
          (pe_one (pe_cmpR op_eq (L2.pe_lenSetY rfl (by rfl) mLen (by rfl) mSet (pv 1)) (pe_callB call_len_seq (by rfl) mLen PySem.boot_len (pa_cons (pv 1) pa_nil)) (nomark _))))))) pss_nil)
      (pss_cons (ps_if (pt_cmpR op_eq (pv 0) pe_str (nomark _)) (pss_one (ps_ret (pe_and (pe_cmpR op_lt (pe_callB call_len_seq (by rfl) mLen PySem.boot_len (pa_cons (pv 1) pa_nil)) pe_int (nomark _))
        (pe_one (pe_cmpR (op_eqE hu) (pe_lc (own := [("_law_one", 4)]) (g := gName 4) (te := tVar 4) (tt := tNot (tB (tCall (spForm K j) [] E0 (tCons (tVar 4) (tCons (tC (.bl true)) tNil))))) (by rfl) scSlt.nd (pi_tup (pv 1))
          (blkOk_by (own := [("_law_one", 4)]) (N := NSl) (sc := defScope sSlot) (by decide +kernel)) (fun _ _ _ _ _ => pg_name (i := 4) scSlt.nd rfl (Or.inl rfl))
          (fun _ _ _ _ _ => pts_one (pt_not (pt_val (pe_call GFo hr (by rfl) mFo kFo bFo .nil pass0 (pa_cons (pv 4) (pa_cons pe_bl pa_nil)))))) (fun _ _ _ _ _ => pv 4)) (pe_lst pa_nil) (nomark _)))))) pss_nil)
      (pss_cons (ps_set (i := 2) scSlt.nd rfl (Or.inl rfl) (pe_lst pa_nil))
      (pss_cons (ps_for PassesOwn.never rfl (pi_tup (pv 1)) (pg_name (i := 3) scSlt.nd rfl (.inl rfl))
        (pss_cons (ps_if (PW.pt (pw_or (pt_not (pt_val (pe_callB call_isi (by rfl) mI PyProof.Rows.boot_isinstance (pa_cons (pv 3) (pa_cons (pe_bltn (v := .ty "tuple") (by rfl) mTu (by decide +kernel) rfl) pa_nil)))))
            (pw_or (pt_cmpR op_ne (pe_callB call_len_seq (by rfl) mLen PySem.boot_len (pa_cons (pv 3) pa_nil)) pe_int (nomark _)) (pw_or (pt_not (pt_val (pe_call GWd hr1 (by rfl) mWd kWd bWd .nil pass0 (pa_cons (pe_ix ix_tup (pv 3) pe_int (fun _ _ => rfl)) pa_nil))))
              (pw_or1 (pt_cmpR op_in_seq (pe_ix ix_tup (pv 3) pe_int (fun _ _ => rfl)) (pv 2) (by rfl))))))) (pss_one (ps_ret pe_bl)) pss_nil)
        (pss_one (ps_expr (pe_bm PySem.F.plainAttrs_list PySem.F.slot_list_append PySem.F.type_list_append mt_append (pv 2) (pa_cons (pe_ix ix_tup (pv 3) pe_int (fun _ _ => rfl)) pa_nil))))))
      (pss_one (ps_ret (pe_cmpR (op_eqE hu) (pe_lc (own := [("_law_entry", 3)]) (g := gName 3) (te := tVar 3) (tt := tNot (tB (tCall (spForm K j) [] E0 (tCons (tOp (rIxT K) (tVar 3) (tC (.int 1))) (tCons (tC (.bl true)) tNil))))) (by rfl) scSlt.nd (pi_tup (pv 1))
        (blkOk_by (own := [("_law_entry", 3)]) (N := NSl) (sc := defScope sSlot) (by decide +kernel)) (fun _ _ _ _ _ => pg_name (i := 3) scSlt.nd rfl (Or.inl rfl))
        (fun _ _ _ _ _ => pts_one (pt_not (pt_val (pe_call GFo hr (by rfl) mFo kFo bFo .nil pass0 (pa_cons (pe_ix ix_tup (pv 3) pe_int (fun _ _ => rfl)) (pa_cons pe_bl pa_nil)))))) (fun _ _ _ _ _ => pv 3)) (pe_lst pa_nil) (nomark _))))))))))))), ?_⟩
    unfold slt at q
    refine ⟨_, rfl, c, _, rfl, rfl, _, rfl, ite2 (fun c1 => ?_) (fun c1 => ?_)⟩
    · rw [if_pos c1] at q
      refine ⟨_, rfl, v, true, t, rfl, hv, hdep, hok, fun H1 s1 => ⟨_, rfl, ?_⟩⟩
      cases hf : frm j true t with
      | false =>
        rw [hf, Bool.false_and] at q
        exact iteF (q H1 s1)
      | true =>
        rw [hf, Bool.true_and] at q
        refine iteT ⟨_, rfl, rfl, _, rfl, ?_⟩
        rw [sg_f]
        cases h102 : decide (c = 102) with
        | true =>
          rw [h102, Bool.true_or] at q
          exact iteT (q H1 s1)
        | false =>
          rw [h102, Bool.false_or] at q
          exact iteF ⟨_, rfl, _, rfl, v, c, t, rfl, fwc_of c1 h102, dvM s1 hv, hdep, hok, hf, fun H2 s2 => q H2 (s1.trans s2)⟩
    rw [if_neg c1] at q
    refine ⟨_, rfl, rfl, _, rfl, ?_⟩
    rw [sg_t]
    refine ite2 (fun c2 => ?_) (fun c2 => ?_)
    · rw [if_pos c2] at q
      exact ⟨_, rfl, v, false, t, rfl, hv, hdep, hok, fun H1 s1 => q H1 s1⟩
    rw [if_neg c2] at q
    refine ⟨_, rfl, c, _, rfl, rfl, _, rfl, ite2 (fun c3 => ?_) (fun c3 => ?_)⟩
    · rw [if_pos c3] at q
      refine ⟨_, rfl, rfl, _, rfl, ?_⟩
      rw [sg_i]
      refine ite2 (fun c4 => ?_) (fun c4 => ?_)
      · rw [if_pos c4] at q
        exact ⟨_, rfl, v, t, rfl, hv, fun H1 s1 => q H1 s1⟩
      rw [if_neg c4] at q
      refine ⟨_, rfl, rfl, _, rfl, ?_⟩
      rw [sg_k]
      refine ite2 (fun c5 => ?_) (fun c5 => ?_)
      · rw [if_pos c5] at q
        exact ⟨_, rfl, v, t, rfl, hv, hok, fun H1 s1 => q H1 s1⟩
      · rw [if_neg c5] at q
        exact ⟨_, rfl, v, t, rfl, hv, hok, fun H1 s1 => q H1 s1⟩
    rw [if_neg c3] at q
    refine ⟨_, rfl, rfl, _, rfl, ?_⟩
    rw [sg_x]
    refine ite2 (fun c4 => ?_) (fun c4 => ?_)
    · rw [if_pos c4] at q
      exact ⟨_, rfl, v, t, rfl, hv, hok, fun H1 s1 => q H1 s1⟩
    rw [if_neg c4] at q
    refine ⟨_, rfl, rfl, _, rfl, ?_⟩
    rw [sg_s]
    refine ite2 (fun c5 => ?_) (fun c5 => ?_)
    · rw [if_pos c5] at q
      refine ⟨_, rfl, isS hv ⟨_, rfl, ?_⟩⟩
      cases hv with
      | str x =>
        refine iteT ⟨_, rfl, few (by show 7 ≤ 1000; decide), fun L nL => ⟨L, sortsL.map V.str, rfl, .inl (SqL.of upd_same), rfl, flat_strs _, ?_⟩⟩
        show Q (.bl (inV (.str x) (sortsL.map V.str))) _
        rw [inV_strs]
        exact q _ (same_new same_id nL)
      | non => exact iteF (q H same_id)
      | bl b => exact iteF (q H same_id)
      | int i => exact iteF (q H same_id)
      | tup _ _ => exact iteF (q H same_id)
      | lst _ => exact iteF (q H same_id)
      | dct _ => exact iteF (q H same_id)
    rw [if_neg c5] at q
    refine ⟨_, rfl, isT hv ⟨_, rfl, ?_⟩⟩
    cases hv with
    | non => exact iteT (q H same_id)
    | bl b => exact iteT (q H same_id)
    | int i => exact iteT (q H same_id)
    | str x => exact iteT (q H same_id)
    | lst _ => exact iteT (q H same_id)
    | dct _ => exact iteT (q H same_id)
    | @tup a xs l hs hall =>
      refine iteF ?_
      refine nx_run ?_
      dsimp only at q ⊢
      have lx := dvl_len hall
      simp only [okd, Bool.and_eq_true, decide_eq_true_eq] at hok
      simp only [dep] at hdep
      have e4 : decide ((xs.length : Int) < 4) = decide (l.length < 4) := decide_eq_decide.mpr (by omega)
      refine ⟨_, rfl, rfl, _, rfl, ?_⟩
      rw [sg_p]
      refine ite2 (fun c6 => ?_) (fun c6 => ?_)
      · rw [if_pos c6] at q
        refine ⟨_, rfl, a, xs, rfl, .inr hs, _, _, rfl, rfl, _, rfl, ?_⟩
        refine ite2 (fun c7 => ?_) (fun c7 => ?_)
        · rw [e4.symm.trans c7, Bool.true_and] at q
          refine ⟨_, rfl, a, rfl, ⟨xs, hs⟩, fun D nD => ?_⟩
          refine lc_none (walk_tup (K := K) (a := a) (xs := xs)) (fun i => !freeD (l.getD i .non)) (by omega) nD (fun H' s' => same_seqT s' hs) yAt_same ?_ ?_
          · rintro i y H2 P1 P0 hi s2 ⟨_, hy⟩ h1 h0
            obtain ⟨ti, hti, hdi⟩ := dvl_get hall hy
            rw [getD_of hti] at h1 h0
            exact ⟨rfl, _, rfl, y, ti, rfl, dvM s2 hdi, okd_get hok.2 hti, fun H3 s3 => ⟨_, rfl, ite2 (fun c8 => ⟨_, rfl, h1 c8 _ _ s3⟩) (fun c8 => h0 (by simpa using c8) _ s3)⟩⟩
          · intro H2 acc s2 hD ha
            refine ⟨few (by show 0 ≤ 1000; decide), fun T2 nT2 => ⟨D, T2, acc, rfl, rfl, (upd_ne (ne_of_none hD nT2)).trans hD, upd_same, _, rfl, ?_⟩⟩
            rw [ha]
            simp only [Bool.not_not]
            rw [lx, all_dv]
            have s3 := same_new (u := .lst []) s2 nT2
            cases hfa : l.all freeD with
            | false =>
              rw [hfa, Bool.false_and] at q
              exact iteF (q _ s3)
            | true =>
              rw [hfa, Bool.true_and] at q
              have ek := strs_of hall hfa
              have hs3 := same_seqT s3 hs
              rw [ek] at hs3
              refine iteT ⟨_, rfl, a, l.map strOfD, rfl, .inr hs3, by rw [List.length_map]; omega, fun n hn => ⟨_, rfl, a, _, rfl, .inr hs3, rfl, ?_⟩⟩
              have eu : decide (V.int (n : Int) = V.int (((l.map strOfD).map V.str).length : Nat)) = uniq (l.map strOfD) := by
                unfold uniq
                refine decide_eq_decide.mpr ?_
                rw [List.length_map, ← hn]
                constructor
                · intro z
                  have := V.int.inj z
                  omega
                · intro z
                  rw [z]
              rw [eu]
              exact q _ s3
        · have c7 : decide (l.length < 4) = false := by rw [← e4]; simpa using c7
          rw [c7, Bool.false_and] at q
          exact q H same_id
      rw [if_neg c6] at q
      refine ⟨_, rfl, rfl, _, rfl, ?_⟩
      rw [sg_a]
      refine ite2 (fun c6 => ?_) (fun c6 => ?_)
      · rw [if_pos c6] at q
        refine ⟨_, rfl, a, xs, rfl, .inr hs, _, _, rfl, rfl, _, rfl, ?_⟩
        refine ite2 (fun c7 => ?_) (fun c7 => ?_)
        · rw [e4.symm.trans c7, Bool.true_and] at q
          refine ⟨_, rfl, a, rfl, ⟨xs, hs⟩, fun D nD => ?_⟩
          refine lc_none (walk_tup (K := K) (a := a) (xs := xs)) (fun i => !frm j true (l.getD i .non)) (by omega) nD (fun H' s' => same_seqT s' hs) yAt_same ?_ ?_
          · rintro i y H2 P1 P0 hi s2 ⟨_, hy⟩ h1 h0
            obtain ⟨ti, hti, hdi⟩ := dvl_get hall hy
            rw [getD_of hti] at h1 h0
            have hdt : dep ti ≤ depL l := dep_mem (List.mem_of_getElem? hti)
            exact ⟨rfl, _, rfl, y, true, ti, rfl, dvM s2 hdi, by omega, okd_get hok.2 hti, fun H3 s3 => ⟨_, rfl, ite2 (fun c8 => ⟨_, rfl, h1 c8 _ _ s3⟩) (fun c8 => h0 (by simpa using c8) _ s3)⟩⟩
          · intro H2 acc s2 hD ha
            refine ⟨few (by show 0 ≤ 1000; decide), fun T2 nT2 => ⟨D, T2, acc, rfl, rfl, (upd_ne (ne_of_none hD nT2)).trans hD, upd_same, ?_⟩⟩
            rw [ha]
            simp only [Bool.not_not]
            rw [lx, all_dv]
            exact q _ (same_new s2 nT2)
        · have c7 : decide (l.length < 4) = false := by rw [← e4]; simpa using c7
          rw [c7, Bool.false_and] at q
          exact q H same_id
      rw [if_neg c6] at q
      refine nx_run ?_
      dsimp only
      refine asg_run ?_
      refine ⟨few (by show 0 ≤ 1000; decide), fun G nG => ?_⟩
      have sG : Same H (upd H G (.lst [])) := same_new same_id nG
      have hG0 : (upd H G (.lst [])) G = some (.lst []) := upd_same
      refine ⟨_, rfl, a, rfl, ⟨xs, same_seqT sG hs⟩, ?_⟩
      refine for_tup (K := K) (a := a) (xs := xs) (fun i σ H' => ∃ o, σ = [some (.str ⟨#[c]⟩), some (.ref a), some (.ref G), o, none] ∧ Same H H' ∧ H' G = some (.lst (((l.take i).map keyD).map V.str)) ∧ (l.take i).all entD = true ∧ ((l.take i).map keyD).Nodup) ⟨none, rfl, sG, hG0, rfl, List.nodup_nil⟩ ?_ ?_ ?_
      · rintro i σ H' _ ⟨o, _, s2, _⟩
        exact same_seqT s2 hs
      · rintro i y σ H2 hy ⟨o, rfl, s2, hG2, hea, hnd⟩
        obtain ⟨ti, hti, hdi⟩ := dvl_get hall hy
        have hil : i < l.length := (List.getElem?_eq_some_iff.mp hti).1
        have hd2 := dvM s2 hdi
        have bad : entD ti = false → ∀ H3, Same H H3 → Q (.bl false) H3 := fun b H3 s3 => by
          have z := q H3 s3
          rw [ents_bad hti b, Bool.false_and] at z
          exact z
        refine ⟨_, rfl, isT hd2 ⟨_, rfl, ?_⟩⟩
        cases hd2 with
        | non => exact iteT (iteT (bad rfl H2 s2))
        | bl b => exact iteT (iteT (bad rfl H2 s2))
        | int i => exact iteT (iteT (bad rfl H2 s2))
        | str x => exact iteT (iteT (bad rfl H2 s2))
        | lst _ => exact iteT (iteT (bad rfl H2 s2))
        | dct _ => exact iteT (iteT (bad rfl H2 s2))
        | @tup e ys l2 hse hl2 =>
          have ly := dvl_len hl2
          refine iteF ⟨_, rfl, e, ys, rfl, .inr hse, rfl, _, rfl, ?_⟩
          by_cases h2 : ys.length = 2
          · rw [decide_eq_true (show V.int (ys.length : Nat) = V.int 2 by rw [h2]; rfl)]
            refine iteF ?_
            cases hl2 with
            | nil => simp at h2
            | @cons y1 d1 r1 l1 g1 hr1' =>
            cases hr1' with
            | nil => simp at h2
            | @cons y2 d2 r2 l2' g2 hr2' =>
            cases hr2' with
            | cons _ _ => simp at h2
            | nil =>
              have hok2 := okd_get hok.2 hti
              simp only [okd, okdL, Bool.and_eq_true] at hok2
              refine ⟨_, rfl, e, _, 0, y1, rfl, rfl, hse, at_0 _ _, y1, d1, rfl, g1, hok2.2.1, fun H3 s3 => ⟨_, rfl, ?_⟩⟩
              cases g1 with
              | str k =>
                cases hw : wordS k with
                | false =>
                  rw [show wordD (.str k) = false from hw]
                  exact iteT (iteT (bad hw H3 (s2.trans s3)))
                | true =>
                  rw [show wordD (.str k) = true from hw]
                  refine iteF ?_
                  have hse3 := same_seqT s3 hse
                  have hG3 := s3 _ _ hG2
                  refine ⟨_, rfl, e, _, 0, _, rfl, rfl, hse3, at_0 _ _, _, rfl, G, _, rfl, .inl (SqL.of hG3), rfl, flat_strs _, _, rfl, ?_⟩
                  show (if inV (V.str k) (((l.take i).map keyD).map V.str) = true then _ else _)
                  rw [inV_strs]
                  refine ite2 (fun c8 => ?_) (fun c8 => ?_)
                  · have z := q H3 (s2.trans s3)
                    rw [ents_twice hti (of_decide_eq_true c8), Bool.false_and] at z
                    exact z
                  · have nk : k ∉ (l.take i).map keyD := fun m => c8 (decide_eq_true m)
                    refine nx_run ?_
                    dsimp only
                    refine ⟨_, rfl, .inl ⟨rfl, _, SqL.of hG3⟩, _, rfl, e, _, 0, _, rfl, rfl, hse3, at_0 _ _, G, _, _, rfl, rfl, hG3, small1000 (by
                      rw [List.length_map, List.length_map, List.length_take]
                      omega), ?_⟩
                    have et : l.take (i + 1) = l.take i ++ [.tup [.str k, d2]] := by
                      rw [List.take_add_one, hti]
                      rfl
                    refine ⟨_, rfl, ?_, ?_, ?_, ?_⟩
                    · intro b o ho
                      rw [upd_ne (ne_of_none ho nG)]
                      exact s3 _ _ (s2 _ _ ho)
                    · rw [upd_same, et, List.map_append, List.map_append]
                      rfl
                    · rw [et, List.all_append, hea]
                      simpa [entD] using hw
                    · rw [et, List.map_append, List.nodup_append]
                      refine ⟨hnd, by simp, fun x hx y hy e => ?_⟩
                      have : y = k := by simpa [keyD] using hy
                      rw [e, this] at hx
                      exact nk hx
              | non => exact iteT (iteT (bad rfl H3 (s2.trans s3)))
              | bl b => exact iteT (iteT (bad rfl H3 (s2.trans s3)))
              | int i => exact iteT (iteT (bad rfl H3 (s2.trans s3)))
              | tup _ _ => exact iteT (iteT (bad rfl H3 (s2.trans s3)))
              | lst _ => exact iteT (iteT (bad rfl H3 (s2.trans s3)))
              | dct _ => exact iteT (iteT (bad rfl H3 (s2.trans s3)))
          · rw [decide_eq_false (show ¬ V.int (ys.length : Nat) = V.int 2 by
              intro z
              have := V.int.inj z
              omega)]
            refine iteT (iteT (bad ?_ H2 s2))
            cases he : entD (.tup l2) with
            | false => rfl
            | true =>
              obtain ⟨k, g, e2, _⟩ := ent_cases he
              cases e2
              exact absurd ly h2
      · rintro σ H2 ⟨o, rfl, s2, hG2, hea, hnd⟩
        rw [lx, List.take_length] at hea hnd
        have en : entsD l = true := by
          unfold entsD uniq
          rw [hea, decide_eq_true hnd]
          rfl
        rw [en, Bool.true_and] at q
        dsimp only
        refine ret_run ?_
        refine ⟨_, rfl, a, rfl, ⟨xs, same_seqT s2 hs⟩, fun D nD => ?_⟩
        refine lc_none (walk_tup (K := K) (a := a) (xs := xs)) (fun i => !frm j true (valD (l.getD i .non))) (by omega) nD (fun H' s' => same_seqT (s2.trans s') hs) yAt_same ?_ ?_
        · rintro i y H3 P1 P0 hi s3 ⟨_, hy⟩ h1 h0
          obtain ⟨ti, hti, hdi⟩ := dvl_get hall hy
          rw [getD_of hti] at h1 h0
          have hdt : dep ti ≤ depL l := dep_mem (List.mem_of_getElem? hti)
          have hok2 := okd_get hok.2 hti
          obtain ⟨k, g, rfl, _⟩ := ent_cases (List.all_eq_true.mp hea ti (List.mem_of_getElem? hti))
          have hd3 := dvM (s2.trans s3) hdi
          cases hd3 with
          | @tup e ys _ hse hl2 =>
          cases hl2 with
          | @cons y1 _ ys1 _ g1 g2 =>
          cases g2 with
          | @cons y2 _ ys2 _ g2 g3 =>
          cases g3
          cases g1
          simp only [okd, okdL, Bool.and_eq_true] at hok2
          simp only [dep, depL] at hdt
          exact ⟨rfl, _, rfl, e, _, 1, y2, rfl, rfl, hse, at_nat (n := 1) rfl, y2, true, g, rfl, g2, by omega, hok2.2.2.1, fun H4 s4 => ⟨_, rfl, ite2 (fun c8 => ⟨_, rfl, h1 c8 _ _ s4⟩) (fun c8 => h0 (by simpa [valD] using c8) _ s4)⟩⟩
        · intro H3 acc s3 hD ha
          refine ⟨few (by show 0 ≤ 1000; decide), fun T2 nT2 => ⟨D, T2, acc, rfl, rfl, (upd_ne (ne_of_none hD nT2)).trans hD, upd_same, ?_⟩⟩
          rw [ha]
          simp only [Bool.not_not]
          rw [lx, all_dv (p := fun e => frm j true (valD e))]
          exact q _ (same_new (s2.trans s3) nT2)
end
end ToyY


namespace ToyY
open Toy
open PySem PySem.Spec L2 PyProof.Rows PySem.W
section
variable {P : Program} {w : World} {K : PySem.W.Frag} {mg : Str → Option Value} {base : Heap}
theorem form_zero {f : Addr} {fd : FuncData} (F : Fun K "_law_is_form" "_law_is_form" sForm f fd) (mI : mg "isinstance" = none) (mTu : mg "tuple" = none) (mStr : mg "str" = none) : FnOk P w K mg base CX0 4 f fd ["_law_x", "_law_of_filters"] (spForm K 0) := by
  refine F.ok (k := 3) scFo (fun vs H Q E h => ?_) (fun cdv A outer s H vs Q E hr h => ?_)
  · obtain ⟨v, tr, t, rfl, _⟩ := h
    rfl
  · obtain ⟨v, tr, t, rfl, hv, hdep, hok, q⟩ := h
    have hu := hr.units
    refine ⟨_, pss_cons (ps_if (PW.pt (pw_or (pt_not (pt_val (pe_callB call_isi (by rfl) mI PyProof.Rows.boot_isinstance (pa_cons (pv 0) (pa_cons (pe_bltn (v := .ty "tuple") (by rfl) mTu (by decide +kernel) rfl) pa_nil)))))
          (pw_or (pt_cmpR (op_eqT0 hu) (pv 0) (pe_tup pa_nil) (nomark _)) (pw_or1 (pt_not (pt_val (pe_callB call_isi (by rfl) mI PyProof.Rows.boot_isinstance (pa_cons (pe_ix ix_tup (pv 0) pe_int (fun _ _ => rfl)) (pa_cons (pe_bltn (v := .ty "str") (by rfl) mStr (by decide +kernel) rfl) pa_nil))))))))) (pss_one (ps_ret pe_bl)) pss_nil) pss_never, ?_⟩
    refine ⟨_, rfl, isT hv ⟨_, rfl, ?_⟩⟩
    cases hv with
    | non => exact iteT (iteT (q H same_id))
    | bl b => exact iteT (iteT (q H same_id))
    | int i => exact iteT (iteT (q H same_id))
    | str x => exact iteT (iteT (q H same_id))
    | lst _ => exact iteT (iteT (q H same_id))
    | dct _ => exact iteT (iteT (q H same_id))
    | tup _ _ =>
      rw [dep] at hdep
      omega
/-- the law's own look, of values of any depth -/
theorem ok_look {f fO fSl fS fT fWh fWd fFr fLf : Addr} {fd fdO fdSl fdS fdT fdWh fdWd fdFr fdLf : FuncData} (F : Fun K "_law_is_form" "_law_is_form" sForm f fd) (FO : Fun K "_law_is_of" "_law_is_of" sOf fO fdO) (FSl : Fun K "_law_is_slot" "_law_is_slot" sSlot fSl fdSl)
    (GS : FnOk P w K mg base CX0 1 fS fdS ["_law_word"] (spSlot slF)) (mS : mg "_law_slots" = some (.ref fS)) (kS : PySem.W.keepIn K (.ref fS) = true) (bS : Binds K fdS ["_law_word"] [])
    (GT : FnOk P w K mg base CX0 1 fT fdT ["_law_word"] (spSlot slT)) (mT : mg "_law_test_slots" = some (.ref fT)) (kT : PySem.W.keepIn K (.ref fT) = true) (bT : Binds K fdT ["_law_word"] [])
    (GWh : FnOk P w K mg base CX0 1 fWh fdWh ["_law_x", "_law_most"] (spWh K)) (mWh : mg "_law_is_whole" = some (.ref fWh)) (kWh : PySem.W.keepIn K (.ref fWh) = true) (bWh : Binds K fdWh ["_law_x", "_law_most"] [])
    (GWd : FnOk P w K mg base CX0 1 fWd fdWd ["_law_x"] (spM K wordD)) (mWd : mg "_law_is_word" = some (.ref fWd)) (kWd : PySem.W.keepIn K (.ref fWd) = true) (bWd : Binds K fdWd ["_law_x"] [])
    (GFr : FnOk P w K mg base CX0 2 fFr fdFr ["_law_x"] (spM K freeD)) (mFr : mg "_law_is_free" = some (.ref fFr)) (kFr : PySem.W.keepIn K (.ref fFr) = true) (bFr : Binds K fdFr ["_law_x"] [])
    (GLf : FnOk P w K mg base CX0 1 fLf fdLf ["_law_x"] (spM K leafD)) (mLf : mg "_law_is_leaf" = some (.ref fLf)) (kLf : PySem.W.keepIn K (.ref fLf) = true) (bLf : Binds K fdLf ["_law_x"] [])
    (mF : mg "_law_is_form" = some (.ref f)) (kF : PySem.W.keepIn K (.ref f) = true) (bF : Binds K fd ["_law_x", "_law_of_filters"] []) (mO : mg "_law_is_of" = some (.ref fO)) (kO : PySem.W.keepIn K (.ref fO) = true) (bO : Binds K fdO ["_law_term", "_law_slot"] []) (mSl : mg "_law_is_slot" = some (.ref fSl)) (kSl : PySem.W.keepIn K (.ref fSl) = true) (bSl : Binds K fdSl ["_law_slot", "_law_x"] [])
    (mI : mg "isinstance" = none) (mTu : mg "tuple" = none) (mStr : mg "str" = none) (mLen : mg "len" = none) (mSet : mg "set" = none) (mR : mg "range" = none) (mLi : mg "list" = none) (mZip : mg "zip" = none) (j : Nat) :
    FnOk P w K mg base CX0 (2 * j + 4) f fd ["_law_x", "_law_of_filters"] (spForm K j) ∧ FnOk P w K mg base CX0 (j + 3) fO fdO ["_law_term", "_law_slot"] (spOf K j) := by
  induction j with
  | zero => exact ⟨form_zero F mI mTu mStr, of_zero FO⟩
  | succ j ih =>
    have sl := ok_slt (j := j) FSl ih.1 mF kF bF ih.2 mO kO bO GWh mWh kWh bWh GWd mWd kWd bWd GFr mFr kFr bFr GLf mLf kLf bLf mI mTu mStr mLen mSet
    exact ⟨ok_form F GS mS kS bS GT mT kT bT sl mSl kSl bSl mI mTu mStr mLen mR, ok_of1 FO GS mS kS bS ih.2 mO kO bO mLi mZip⟩
end
end ToyY


namespace ToyY
open Toy
open PySem PySem.Spec L2 PyProof.Rows PySem.W
/-! ### terms, as the law looks at them -/
mutual
def toDt : PyData → Dt
  | .none => .non
  | .bool b => .bl b
  | .int i => .int i
  | .str x => .str x
  | .tuple l => .tup (toDtL l)
  | .list _ => .opq
  | .dict _ => .opq
def toDtL : List PyData → List Dt
  | [] => []
  | d :: l => toDt d :: toDtL l
end
mutual
theorem dv_of {K : PySem.W.Frag} {H : Hp} : ∀ {d : PyData} {v : V}, Dp K H v d → noL d = true → Dv K H v (toDt d)
  | .none, _, h, _ => by cases h; exact .non
  | .bool b, _, h, _ => by cases h; exact .bl b
  | .int i, _, h, _ => by cases h; exact .int i
  | .str x, _, h, _ => by cases h; exact .str x
  | .tuple l, _, h, n => by
    cases h with
    | tup hs ha =>
      rw [toDt]
      exact .tup hs (dvl_of ha (by simpa [noL] using n))
  | .list _, _, _, n => by simp [noL] at n
  | .dict _, _, h, _ => by cases h
theorem dvl_of {K : PySem.W.Frag} {H : Hp} : ∀ {ds : List PyData} {vs : List V}, DpAll K H vs ds → noLs ds = true → DvL K H vs (toDtL ds)
  | [], _, h, _ => by cases h; exact .nil
  | d :: ds, _, h, n => by
    cases h with
    | cons a b =>
      simp only [noLs, Bool.and_eq_true] at n
      rw [toDtL]
      exact .cons (dv_of a n.1) (dvl_of b n.2)
end
mutual
theorem dep_of : ∀ d : PyData, dep (toDt d) ≤ d.depth
  | .none => Nat.zero_le _
  | .bool _ => Nat.zero_le _
  | .int _ => Nat.zero_le _
  | .str _ => Nat.zero_le _
  | .tuple l => by
    have := depL_of l
    rw [toDt, dep]
    show _ ≤ PyData.depthAll l + 1
    omega
  | .list _ => Nat.zero_le _
  | .dict _ => Nat.zero_le _
theorem depL_of : ∀ l : List PyData, depL (toDtL l) ≤ PyData.depthAll l
  | [] => Nat.zero_le _
  | d :: l => by
    have h1 := dep_of d
    have h2 := depL_of l
    rw [toDtL, depL]
    show _ ≤ max d.depth (PyData.depthAll l)
    omega
end
theorem toDtL_len : ∀ l : List PyData, (toDtL l).length = l.length
  | [] => rfl
  | d :: l => by rw [toDtL, List.length_cons, List.length_cons, toDtL_len l]
theorem okL_all {c : Nat} : ∀ {l : List PyData}, (∀ d ∈ l, okd c (toDt d) = true) → okdL c (toDtL l) = true
  | [], _ => rfl
  | d :: l, h => by
    rw [toDtL, okdL, h d List.mem_cons_self, okL_all fun x hx => h x (List.mem_cons_of_mem _ hx)]
    rfl
theorem ok_tupD {l : List PyData} (h : ∀ d ∈ l, okd 300 (toDt d) = true) (n : l.length ≤ 300) : okd 300 (toDt (.tuple l)) = true := by
  rw [toDt, okd, toDtL_len, okL_all h, Bool.and_true]
  exact decide_eq_true n
theorem ok_strD {f : PyData} (h : isStrD f = true) : okd 300 (toDt f) = true := by
  cases f with
  | str x => exact h
  | _ => simp [isStrD] at h
theorem ok_fldD {n : Nat} (ih : ∀ t, wf n t = true → okd 300 (toDt t) = true) {k : Str} {f : PyData} (h : fldOk (wf n) k f = true) : okd 300 (toDt f) = true := by
  unfold fldOk at h
  split at h
  · exact ih f h
  · split at h
    · obtain ⟨gs, rfl, l2, ha⟩ := tupAll_cases h
      exact ok_tupD (fun d hd => ih d (List.all_eq_true.mp ha d hd)) (by omega)
    · split at h
      · obtain ⟨gs, rfl, l2, ha⟩ := tupAll_cases h
        refine ok_tupD (fun d hd => ?_) (by omega)
        obtain ⟨x, g, rfl, hx, hg⟩ := isEnt_cases (List.all_eq_true.mp ha d hd)
        refine ok_tupD (fun e he => ?_) (by show 2 ≤ 300; decide)
        rcases List.mem_cons.mp he with rfl | he
        · exact hx
        · rw [List.mem_singleton.mp he]
          exact ih g hg
      · split at h
        · obtain ⟨gs, rfl, l2, ha⟩ := tupAll_cases h
          exact ok_tupD (fun d hd => ok_strD (List.all_eq_true.mp ha d hd)) (by omega)
        · split at h
          · cases f with
            | int i => rfl
            | _ => simp [isIntD] at h
          · split at h
            · cases f with
              | none => rfl
              | bool x => rfl
              | int i => rfl
              | str x =>
                have h' : (okK x && decide (37 ∉ x.cps.toList)) = true := h
                rw [Bool.and_eq_true] at h'
                exact h'.1
              | _ => simp [isLeafD] at h
            · exact ok_strD h
theorem ok_fldsD {n : Nat} (ih : ∀ t, wf n t = true → okd 300 (toDt t) = true) : ∀ {ks : List Str} {fs : List PyData}, flds (wf n) ks fs = true → ∀ f ∈ fs, okd 300 (toDt f) = true
  | [], [], _ => fun f hf => by cases hf
  | k :: ks, f :: fs, h => fun g hg => by
    simp only [flds, Bool.and_eq_true] at h
    rcases List.mem_cons.mp hg with rfl | hg
    · exact ok_fldD ih h.1
    · exact ok_fldsD ih h.2 g hg
  | [], _ :: _, h => by cases h
  | _ :: _, [], h => by cases h
theorem forms_okK : ∀ p ∈ formsL, okK p.1 = true := by decide +kernel
theorem wf_okd : ∀ {n : Nat} {t : PyData}, wf n t = true → okd 300 (toDt t) = true
  | 0, _, h => by cases h
  | n + 1, t, h => by
    obtain ⟨w, fs, ks, rfl, hk, hf⟩ := wf_cases h
    have hm := lookup_mem hk
    have h3 : ks.length ≤ 4 := forms_len _ hm
    have h4 := flds_len hf
    refine ok_tupD (fun d hd => ?_) (by rw [List.length_cons]; omega)
    rcases List.mem_cons.mp hd with rfl | hd
    · exact forms_okK _ hm
    · exact ok_fldsD (fun t => wf_okd (n := n) (t := t)) hf d hd
end ToyY
namespace Toy
open PySem PySem.Spec L2 PyProof.Rows PySem.W
/-- the law's look at a term: some truth -/
def spIsF (K : PySem.W.Frag) (j : Nat) : Sp := fun vs H Q _ => ∃ (v : V) (tr : Bool) (n : Nat) (t : PyData), vs = [v, .bl tr] ∧ Dp K H v t ∧ wf n t = true ∧ 3 * n ≤ j ∧ ∀ H' b, Same H H' → Q (.bl b) H'
theorem spIsF_of {K : PySem.W.Frag} {j : Nat} {vs : List V} {H : Hp} {Q : VK} {E : XK} (h : spIsF K j vs H Q E) : ToyY.spForm K j vs H Q E := by
  obtain ⟨v, tr, n, t, rfl, hv, hw, hn, q⟩ := h
  exact ⟨v, tr, ToyY.toDt t, rfl, ToyY.dv_of hv (noL_wf hw), Nat.le_trans (ToyY.dep_of t) (Nat.le_trans (wf_fit hw).dep hn), ToyY.wf_okd hw, fun H' s => q H' _ s⟩
end Toy


namespace Toy
open PySem PySem.Spec L2 PyProof.Rows PySem.W
/-! ### some truth is told -/
abbrev sIsInt : Stmt := top 15
abbrev sName : Stmt := top 16
abbrev sFree : Stmt := top 17
abbrev sLeafV : Stmt := top 28
abbrev sTxt : Stmt := top 29
def spStr : Sp := fun vs H Q _ => ∃ k : Str, vs = [.str k] ∧ okK k = true ∧ ∀ H' b, Same H H' → Q (.bl b) H'
def spInt : Sp := fun vs H Q _ => ∃ i : Int, vs = [.int i] ∧ ∀ H' b, Same H H' → Q (.bl b) H'
def LfV (v : V) : Prop := v = .non ∨ (∃ b, v = .bl b) ∨ (∃ i, v = .int i) ∨ ∃ x, v = .str x ∧ okK x = true
def spLf : Sp := fun vs H Q _ => ∃ v : V, vs = [v] ∧ LfV v ∧ ∀ H' b, Same H H' → Q (.bl b) H'
abbrev NTx : List Str := ["text", "codes", "letter", "code"]
section
variable {P : Program} {w : World} {K : PySem.W.Frag} {mg : Str → Option Value} {base : Heap}
theorem scNm : FnScope ["value", "letter"] ["value"] (defScope sName) := ⟨rfl, rfl, rfl, by decide +kernel, rfl, by decide +kernel, by decide +kernel⟩
theorem scV1 : FnScope ["value"] ["value"] (defScope sIsInt) := ⟨rfl, rfl, rfl, by decide +kernel, rfl, by decide +kernel, by decide +kernel⟩
theorem scV2 : FnScope ["value"] ["value"] (defScope sFree) := ⟨rfl, rfl, rfl, by decide +kernel, rfl, by decide +kernel, by decide +kernel⟩
theorem scV3 : FnScope ["value"] ["value"] (defScope sLeafV) := ⟨rfl, rfl, rfl, by decide +kernel, rfl, by decide +kernel, by decide +kernel⟩
theorem scTx : FnScope NTx ["text"] (defScope sTxt) := ⟨rfl, rfl, rfl, by decide +kernel, rfl, by decide +kernel, by decide +kernel⟩
theorem ok_isInt {f : Addr} {fd : FuncData} (F : Fun K "is_integer" "is_integer" sIsInt f fd) (mI : mg "isinstance" = none) (mB : mg "bool" = none) (mN : mg "int" = none) : FnOk P w K mg base CX0 1 f fd ["value"] spInt := by
  refine F.ok scV1 (fun vs H Q E h => ?_) (fun cdv A outer s H vs Q E hr h => ?_)
  · obtain ⟨i, rfl, _⟩ := h
    rfl
  · obtain ⟨i, rfl, q⟩ := h
    refine ⟨_, pss_one (ps_ret (pe_and (pe_callB call_isi (by rfl) mI PyProof.Rows.boot_isinstance (pa_cons (pv 0) (pa_cons (pe_bltn (v := .ty "int") (by rfl) mN (by decide +kernel) rfl) pa_nil))) (pe_one (pe_not (pe_callB call_isi (by rfl) mI PyProof.Rows.boot_isinstance (pa_cons (pv 0) (pa_cons (pe_bltn (v := .ty "bool") (by rfl) mB (by decide +kernel) rfl) pa_nil))))))), ?_⟩
    have ty : TyX K H (.int i) (.type "int") := .base (.int i)
    exact ⟨_, rfl, _, _, _, _, true, rfl, .ty _, ty, kit_ty (by decide +kernel), _, rfl, iteT ⟨_, rfl, _, _, _, _, false, rfl, .ty _, ty, kit_ty (by decide +kernel), _, rfl, q H _ same_id⟩⟩
theorem ok_name {f : Addr} {fd : FuncData} {u8 : Value} (F : Fun K "is_name" "is_name" sName f fd) (m8 : mg "MOST_LETTERS_words" = some u8) (r8 : RelV (.int 8) u8) (mI : mg "isinstance" = none) (mS : mg "str" = none) (mLen : mg "len" = none) (mA : mg "all" = none) : FnOk P w K mg base CX0 1 f fd ["value"] spStr := by
  refine F.ok scNm (fun vs H Q E h => ?_) (fun cdv A outer s H vs Q E hr h => ?_)
  · obtain ⟨k, rfl, _⟩ := h
    rfl
  · obtain ⟨k, rfl, hok, q⟩ := h
    refine ⟨_, pss_cons (ps_if (PW.pt (pw_or (pt_not (pt_val (pe_callB call_isi (by rfl) mI PyProof.Rows.boot_isinstance (pa_cons (pv 0) (pa_cons (pe_bltn (v := .ty "str") (by rfl) mS (by decide +kernel) rfl) pa_nil)))))
          (pw_or1 (pt_not (pt_chain op_le op_le pe_int (pe_callB call_len_str (by rfl) mLen PySem.boot_len (pa_cons (pv 0) pa_nil)) (pe_glob (v := .int 8) (by rfl) m8 r8)))))) (pss_one (ps_ret pe_bl)) pss_nil)
      (pss_one (ps_ret (pe_callB (cr_all rfl) (by rfl) mA (by decide +kernel) (pa_cons (pe_lc (own := [("letter", 1)]) (g := gName 1) (by rfl) scNm.nd (pi_str (pv 0))
            (blkOk_by (own := [("letter", 1)]) (N := ["value", "letter"]) (sc := defScope sName) (by decide +kernel)) (fun _ _ _ _ _ => pg_name (i := 1) scNm.nd rfl (Or.inl rfl)) (fun _ _ _ _ _ => pts_nil)
            (fun _ _ _ _ _ => pe_chain op_le_str op_le_str pe_str (pv 1) pe_str)) pa_nil)))), ?_⟩
    have ty : TyX K H (.str k) (.type "str") := .base (.str k)
    refine ⟨_, rfl, _, _, _, _, true, rfl, .ty _, ty, kit_ty (by decide +kernel), _, rfl, iteF ⟨_, rfl, k, rfl, few (okK_2 hok), 1, _, rfl, rfl, _, rfl, ite2 (fun c => ?_) (fun c => ?_)⟩⟩
    · refine ⟨_, _, rfl, rfl, _, rfl, ?_⟩
      refine ite2 (fun c2 => ?_) (fun c2 => ?_)
      · exact q H _ same_id
      refine ⟨_, rfl, k, rfl, fun D nD => ?_⟩
      refine lc_it walk_str (fun i H' => Same H H' ∧ ∃ bs : List Bool, H' D = some (.lst (bs.map V.bl)) ∧ bs.length ≤ i) ⟨same_new same_id nD, [], upd_same, Nat.le_refl _⟩ (fun _ _ _ _ => trivial) ?_ ?_
      · rintro i x H1 H' hi ⟨s2, bs, hD, lb⟩ ⟨rfl, c0, hc, rfl⟩
        have hi8 : i < k.cps.size := by
          rcases Nat.lt_or_ge i k.cps.size with z | z
          · exact z
          · rw [Array.getElem?_eq_none z] at hc
            cases hc
        have l1000 : k.cps.size ≤ 1000 := okK_2 hok
        have step : ∀ b : Bool, ∃ acc, H' D = some (.lst acc) ∧ acc.length < sizeLine ∧ (Same H (upd H' D (.lst (acc ++ [V.bl b]))) ∧ ∃ bs : List Bool, (upd H' D (.lst (acc ++ [V.bl b]))) D = some (.lst (bs.map V.bl)) ∧ bs.length ≤ i + 1) := fun b =>
          ⟨_, hD, small1000 (by rw [List.length_map]; omega), same_put s2 nD, bs ++ [b], by rw [upd_same, List.map_append]; rfl, by rw [List.length_append, List.length_singleton]; omega⟩
        refine ⟨rfl, _, rfl, _, _, rfl, rfl, _, rfl, ite2 (fun _ => ?_) (fun _ => step _)⟩
        exact ⟨_, _, rfl, rfl, step _⟩
      · rintro H' ⟨s2, bs, hD, _⟩
        exact ⟨D, _, rfl, SqL.of hD, q H' _ s2⟩
    · exact ⟨_, rfl, ite2 (fun _ => q H _ same_id) (fun c2 => absurd rfl c2)⟩
theorem ok_free {f fN aW : Addr} {fd fdN : FuncData} {ws : List Str} (F : Fun K "is_free_name" "is_free_name" sFree f fd) (GN : FnOk P w K mg base CX0 1 fN fdN ["value"] spStr) (mN : mg "is_name" = some (.ref fN)) (kN : PySem.W.keepIn K (.ref fN) = true) (bN : Binds K fdN ["value"] []) (mW : mg "WORDS" = some (.ref aW)) (WK : TupK K aW ws) : FnOk P w K mg base CX0 2 f fd ["value"] spStr := by
  refine F.ok scV2 (fun vs H Q E h => ?_) (fun cdv A outer s H vs Q E hr h => ?_)
  · obtain ⟨k, rfl, _⟩ := h
    rfl
  · obtain ⟨k, rfl, hok, q⟩ := h
    refine ⟨_, pss_one (ps_ret (pe_and (pe_call GN hr (by rfl) mN kN bN .nil pass0 (pa_cons (pv 0) pa_nil)) (pe_one (pe_cmpR op_notIn_seq (pv 0) (pe_glob (v := .ref aW) (by rfl) mW rfl) (by rfl))))), ?_⟩
    exact ⟨_, rfl, k, rfl, hok, fun H1 b s1 => ⟨_, rfl, ite2 (fun _ => ⟨_, rfl, aW, _, rfl, .inr (WK H1), rfl, flat_strs ws, q H1 _ s1⟩) (fun _ => q H1 _ s1)⟩⟩
theorem ok_txt {f : Addr} {fd : FuncData} {u2 u3 : Value} (F : Fun K "_is_text" "_is_text" sTxt f fd) (m2 : mg "MOST_LETTERS_data" = some u2) (r2 : RelV (.int 200) u2) (m3 : mg "PERCENT_SIGN" = some u3) (r3 : RelV (.int 37) u3) (mLen : mg "len" = none) (mO : mg "ord" = none) (mA : mg "all" = none) : FnOk P w K mg base CX0 1 f fd ["text"] spStr := by
  refine F.ok scTx (fun vs H Q E h => ?_) (fun cdv A outer s H vs Q E hr h => ?_)
  · obtain ⟨x, rfl, _⟩ := h
    rfl
  · obtain ⟨x, rfl, hok, q⟩ := h
    have l1000 : x.cps.size ≤ 1000 := okK_2 hok
    refine ⟨_, pss_cons (ps_if (pt_cmpR op_gt (pe_callB call_len_str (by rfl) mLen PySem.boot_len (pa_cons (pv 0) pa_nil)) (pe_glob (v := .int 200) (by rfl) m2 r2) (nomark _)) (pss_one (ps_ret pe_bl)) pss_nil)
      (pss_cons (ps_setLc (i := 1) (own := [("letter", 2)]) (g := gName 2) (by rfl) scTx.nd rfl rfl (sw_true rfl rfl rfl (by decide +kernel)) (pi_str (pv 0))
            (blkOk_by (own := [("letter", 2)]) (N := NTx) (sc := defScope sTxt) (by decide +kernel)) (fun _ _ _ _ _ => pg_name (i := 2) scTx.nd rfl (Or.inl rfl)) (fun _ _ _ _ _ => pts_nil)
            (fun _ _ _ _ _ => pe_callB call_ord (by rfl) mO (by decide +kernel) (pa_cons (pv 2) pa_nil)))
      (pss_one (ps_ret (pe_callB (cr_all rfl) (by rfl) mA (by decide +kernel) (pa_cons (pe_lc (own := [("code", 3)]) (g := gName 3) (by rfl) scTx.nd (pi_list (pv 1))
            (blkOk_by (own := [("code", 3)]) (N := NTx) (sc := defScope sTxt) (by decide +kernel)) (fun _ _ _ _ _ => pg_name (i := 3) scTx.nd rfl (Or.inl rfl)) (fun _ _ _ _ _ => pts_nil)
            (fun _ _ _ _ _ => pe_and (pe_chain op_le op_le pe_int (pv 3) pe_int) (pe_one (pe_cmpR op_ne (pv 3) (pe_glob (v := .int 37) (by rfl) m3 r3) (nomark _))))) pa_nil))))), ?_⟩
    refine ⟨_, rfl, x, rfl, few (okK_2 hok), _, _, rfl, rfl, _, rfl, ite2 (fun c => ?_) (fun c => ?_)⟩
    · exact q H _ same_id
    · refine ⟨_, rfl, x, rfl, fun D nD => ?_⟩
      refine lc_it walk_str (fun i H' => Same H H' ∧ ∃ ns : List Nat, H' D = some (.lst (ns.map fun (c : Nat) => V.int (c : Nat))) ∧ ns.length ≤ i) ⟨same_new same_id nD, [], upd_same, Nat.le_refl _⟩ (fun _ _ _ _ => trivial) ?_ ?_
      · rintro i y H1 H' hi ⟨s2, ns, hD, ln⟩ ⟨rfl, c, hc, rfl⟩
        have hi8 : i < x.cps.size := by
          rcases Nat.lt_or_ge i x.cps.size with z | z
          · exact z
          · rw [Array.getElem?_eq_none z] at hc
            cases hc
        exact ⟨rfl, _, rfl, _, rfl, rfl, _, hD, small1000 (by rw [List.length_map]; omega), same_put s2 nD, ns ++ [c], by rw [upd_same, List.map_append]; rfl, by rw [List.length_append, List.length_singleton]; omega⟩
      · rintro H1 ⟨s1, ns, hD, ln⟩
        refine ⟨_, rfl, D, rfl, ⟨_, SqL.of hD⟩, fun L nL => ?_⟩
        refine lc_list (K := K) (a := D) (xs := ns.map fun (c : Nat) => V.int (c : Nat)) (fun i H' => Same H1 H' ∧ ∃ bs : List Bool, H' L = some (.lst (bs.map V.bl)) ∧ bs.length ≤ i) ⟨same_new same_id nL, [], upd_same, Nat.le_refl _⟩ ?_ ?_ ?_
        · rintro i H' _ ⟨s2, _⟩
          exact SqL.of (s2 _ _ hD)
        · rintro i y H' hy ⟨s2, bs, hL, lb⟩
          have hil : i < ns.length := by
            rcases Nat.lt_or_ge i ns.length with z | z
            · exact z
            · rw [List.getElem?_eq_none (by rw [List.length_map]; exact z)] at hy
              cases hy
          obtain ⟨c, hc, rfl⟩ : ∃ c, ns[i]? = some c ∧ V.int ((c : Nat) : Int) = y := by simpa using hy
          have step : ∀ b : Bool, ∃ acc, H' L = some (.lst acc) ∧ acc.length < sizeLine ∧ (Same H1 (upd H' L (.lst (acc ++ [V.bl b]))) ∧ ∃ bs : List Bool, (upd H' L (.lst (acc ++ [V.bl b]))) L = some (.lst (bs.map V.bl)) ∧ bs.length ≤ i + 1) := fun b =>
            ⟨_, hL, small1000 (by rw [List.length_map]; omega), same_put s2 nL, bs ++ [b], by rw [upd_same, List.map_append]; rfl, by rw [List.length_append, List.length_singleton]; omega⟩
          refine ⟨rfl, _, rfl, _, _, rfl, rfl, _, rfl, ite2 (fun _ => ⟨_, _, rfl, rfl, _, rfl, ite2 (fun _ => ⟨_, rfl, rfl, step _⟩) (fun _ => step _)⟩) (fun _ => ⟨_, rfl, ite2 (fun z => by cases z) (fun _ => step _)⟩)⟩
        · rintro H' ⟨s2, bs, hL, _⟩
          exact ⟨L, _, rfl, SqL.of hL, q H' _ (s1.trans s2)⟩
theorem ok_leafV {f fT : Addr} {fd fdT : FuncData} {u1 : Value} (F : Fun K "is_leaf" "is_leaf" sLeafV f fd) (GT : FnOk P w K mg base CX0 1 fT fdT ["text"] spStr) (mT : mg "_is_text" = some (.ref fT)) (kT : PySem.W.keepIn K (.ref fT) = true) (bT : Binds K fdT ["text"] [])
    (m1 : mg "GREATEST" = some u1) (r1 : RelV (.int (10 ^ 30)) u1) (mI : mg "isinstance" = none) (mB : mg "bool" = none) (mN : mg "int" = none) (mS : mg "str" = none) : FnOk P w K mg base CX0 2 f fd ["value"] spLf := by
  refine F.ok scV3 (fun vs H Q E h => ?_) (fun cdv A outer s H vs Q E hr h => ?_)
  · obtain ⟨v, rfl, _⟩ := h
    rfl
  · obtain ⟨v, rfl, hv, q⟩ := h
    refine ⟨_, pss_cons (ps_if (PW.pt (pw_or (pt_cmpR op_isN (pv 0) pe_non (nomark _)) (pw_or1 (pt_val (pe_callB call_isi (by rfl) mI PyProof.Rows.boot_isinstance (pa_cons (pv 0) (pa_cons (pe_bltn (v := .ty "bool") (by rfl) mB (by decide +kernel) rfl) pa_nil))))))) (pss_one (ps_ret pe_bl)) pss_nil)
      (pss_cons (ps_if (pt_val (pe_callB call_isi (by rfl) mI PyProof.Rows.boot_isinstance (pa_cons (pv 0) (pa_cons (pe_bltn (v := .ty "int") (by rfl) mN (by decide +kernel) rfl) pa_nil)))) (pss_one (ps_ret (pe_chain op_le op_le (pe_un un_neg (pe_glob (v := .int (10 ^ 30)) (by rfl) m1 r1)) (pv 0) (pe_glob (v := .int (10 ^ 30)) (by rfl) m1 r1)))) pss_nil)
      (pss_one (ps_ret (pe_and (pe_callB call_isi (by rfl) mI PyProof.Rows.boot_isinstance (pa_cons (pv 0) (pa_cons (pe_bltn (v := .ty "str") (by rfl) mS (by decide +kernel) rfl) pa_nil))) (pe_one (pe_call GT hr (by rfl) mT kT bT .nil pass0 (pa_cons (pv 0) pa_nil))))))), ?_⟩
    refine ⟨_, rfl, rfl, _, rfl, ?_⟩
    rcases hv with rfl | ⟨b, rfl⟩ | ⟨i, rfl⟩ | ⟨x, rfl, hx⟩
    · exact iteT (iteT (q H _ same_id))
    · have ty : TyX K H (.bl b) (.type "bool") := .base (.bl b)
      exact iteF ⟨_, rfl, _, _, _, _, true, rfl, .ty _, ty, kit_ty (by decide +kernel), _, rfl, iteT (q H _ same_id)⟩
    · have ty : TyX K H (.int i) (.type "int") := .base (.int i)
      exact iteF ⟨_, rfl, _, _, _, _, false, rfl, .ty _, ty, kit_ty (by decide +kernel), _, rfl, iteF ⟨_, rfl, _, _, _, _, true, rfl, .ty _, ty, kit_ty (by decide +kernel), _, rfl, iteT ⟨_, rfl, _, rfl, _, _, rfl, rfl, _, rfl, ite2 (fun _ => ⟨_, _, rfl, rfl, q H _ same_id⟩) (fun _ => q H _ same_id)⟩⟩⟩
    · have ty : TyX K H (.str x) (.type "str") := .base (.str x)
      exact iteF ⟨_, rfl, _, _, _, _, false, rfl, .ty _, ty, kit_ty (by decide +kernel), _, rfl, iteF ⟨_, rfl, _, _, _, _, false, rfl, .ty _, ty, kit_ty (by decide +kernel), _, rfl, iteF ⟨_, rfl, _, _, _, _, true, rfl, .ty _, ty, kit_ty (by decide +kernel), _, rfl, iteT ⟨_, rfl, x, rfl, hx, q⟩⟩⟩⟩
end
end Toy


/-! a set of texts, of a list or tuple of any length: how many it has is told by a bound -/
namespace SS2
open PySem PySem.Spec PyProof.Rows
def emptyS (led : Bool) : Obj := { cls := .type "set", dict := none, data := .set #[] 0 (.fresh 0 0 led) }
section
variable {prog : Program} {w : World} {A : Around} {R : Result → Shared → Prop} {I : Addr} {fp wr : List Addr} {G : Array GenState → Array GenState → Prop} {n : Nat} {P : Nat → Value → Prop} {St : Nat → Shared → Prop}
theorem loopS (W : WalksS prog w A.in1 I fp wr G n P St) (S : Addr) (hSf : S ∉ fp) (zs : List Str) (hsz : zs.length = n) (hn : n + 1 < scanBound) (hval : ∀ i v, P i v → ∃ t, v = .str (zs.getD i Str.empty) t) :
    ∀ (k i : Nat) (s : Shared), n - i = k → i ≤ n → St i s → (∃ c, c ≤ i ∧ ∃ T, s.heap.SetOf (PySem.strKind prog w) S T c) → (∀ s', Moved (S :: wr) G s s' → (∃ c, c ≤ n ∧ ∃ T, s'.heap.SetOf (PySem.strKind prog w) S T c) → R (.ok (.ret .none)) s') → codeAny (model prog w) A (.builtin "set.update.loop" ⟨[.ref S, .ref I], []⟩) R s := by
  have hSw : S ∉ wr := fun h => hSf (W.sub _ h)
  have move : ∀ {s s' : Shared} {c : Nat} {T : Str → Bool}, Moved wr G s s' → s.heap.SetOf (PySem.strKind prog w) S T c → s'.heap.SetOf (PySem.strKind prog w) S T c := fun hm hS => by
    obtain ⟨o, es, ep, t, ho, rest⟩ := hS
    exact ⟨o, es, ep, t, hm.heap S _ hSw ho, rest⟩
  intro k
  induction k with
  | zero =>
    rintro i s hk hi hst ⟨c, hc, T, hS⟩ hR
    obtain rfl : i = n := by omega
    refine codeAny_builtin PyProof.Rows.F.entry_set_update_loop ?_
    rw [Around.under_plainId PyProof.Rows.F.plain_set_update_loop _]
    refine (show wpAny _ A.in1 (pyNext (.ref I) >>= _) _ _ s from wpAny_bind (W.done s _ _ hst fun s' hm => ?_))
    exact (show wpAny _ A.in1 (ret Value.none) _ _ s' from wpAny_pure (hR s' (hm.mono fun b hb => List.mem_cons_of_mem _ hb) ⟨c, hc, T, move hm hS⟩))
  | succ k ih =>
    rintro i s hk hi hst ⟨c, hc, T, hS⟩ hR
    have hlt : i < n := by omega
    refine codeAny_builtin PyProof.Rows.F.entry_set_update_loop ?_
    rw [Around.under_plainId PyProof.Rows.F.plain_set_update_loop _]
    refine (show wpAny _ A.in1 (pyNext (.ref I) >>= _) _ _ s from wpAny_bind (W.item i s _ _ hlt hst fun v s' hP hst' hm => ?_))
    obtain ⟨t, rfl⟩ := hval i v hP
    have hS1 := move hm hS
    refine (show wpAny _ A.in1 (holding [Value.str (zs.getD i Str.empty) t] (setAdd S (.str (zs.getD i Str.empty) t)) >>= _) _ _ s' from wpAny_bind (wpAny_holding ?_))
    unfold setAdd
    refine wpAny_holding (wpAny_bind ((PySem.strKind prog w).pyHash (k := zs.getD i Str.empty) (strKind_is _ _ _ _) ?_))
    refine wpAny_setAddHashed_of (knd := PySem.strKind prog w) (s := { s' with toks := s'.toks + 1 }) (strKind_is _ _ _ _) rfl hS1 (by omega) fun h' hsb hS2 => ?_
    have le : (if T (zs.getD i Str.empty) = true then c else c + 1) ≤ i + 1 := by split <;> omega
    refine wpAny_pure ⟨plainId_quiet PyProof.Rows.F.plain_set_update_loop _, ih (i + 1) _ (by omega) hlt (W.frame _ s' _ _ hst' (Nat.le_succ _) fun b hb o e => ?_) ⟨_, le, _, hS2⟩ fun s2 hm2 hS3 => hR s2 (Moved.trans W.gtrans ((hm.mono fun b hb => List.mem_cons_of_mem _ hb).then_heap (Nat.le_succ _) fun b o hb e => ?_) hm2) hS3⟩
    · exact (hsb.2 b (fun z : b = S => hSf (by rw [← z]; exact hb))).trans e
    · exact (hsb.2 b (fun z : b = S => hb (by rw [z]; exact List.mem_cons_self))).trans e
end
section
variable {prog : Program} {w : World} {A : Around} {E : Value → Shared → Prop} {s : Shared}
theorem call_setL {l : Addr} {ys : Array Value} {zs : List Str} {Q : Value → Shared → Prop} (hh : A.handled = none) (hl : s.heap.IsList l ys) (hi : PyProof.Rows.StrsAre ys.toList zs) (hn : zs.length + 1 < scanBound)
    (h : ∀ (h' : Heap) (tk c : Nat), c ≤ zs.length → (∃ S, h'.SetOf (PySem.strKind prog w) s.heap.objs.size S c) → (∀ b o, b < s.heap.objs.size → s.heap.get? b = some o → h'.get? b = some o) → Q (.ref s.heap.objs.size) { s with heap := h', toks := tk }) :
    wpAny (model prog w) A (call (.type "set") [.ref l]) Q E s := by
  have facts := And.intro PySem.F.called_set.made PySem.F.called_set.sub
  obtain ⟨hmade, hsub⟩ := facts
  obtain ⟨c0, tl0, hmro⟩ := PySem.F.called_set.mro
  refine wpAny_call (codeAny_of_tree (show wpAny _ _ (callAny (.type "set") _) _ _ _ from wpAny_pure ⟨Code.quiet_builtin _ (by decide +kernel), codeAny_builtin PySem.F.entry_type_call ?_⟩))
  rw [Around.under_plain (weight_type_call_type "set" [.ref l] []) rfl]
  have facts2 := And.intro PySem.F.called_set.notType (And.intro PySem.F.called_set.canCreate (PySem.F.typeCall_set_1 (.ref l)))
  obtain ⟨h1, h2, hct⟩ := facts2
  repeat (any_goals (first | assumption | wp_step))
  refine codeAny_mono (code_set_new_1 (.ref l) (E := E) (Q₁ := fun ob s1 => ∃ led : Bool, ob = .ref s.heap.objs.size ∧ s1 = { s with heap := s.heap.push (emptyS led) }) fun led => ⟨led, rfl, rfl⟩) fun r s1 hr => ?_
  cases r with
  | error e => exact hr
  | ok fl =>
    cases fl with
    | ret ob =>
      obtain ⟨led, rfl, rfl⟩ := hr
      have hS : (s.heap.push (emptyS led)).get? s.heap.objs.size = some (emptyS led) := Heap.get?_push_size _ rfl
      have hT : Shared.TypeIs { s with heap := s.heap.push (emptyS led) } (.ref s.heap.objs.size) "set" := ⟨_, hS, rfl⟩
      have facts3 := And.intro PySem.F.called_set.init.lookup (PySem.F.called_set.init.bind (.ref s.heap.objs.size))
      obtain ⟨hli, hbi⟩ := facts3
      repeat (any_goals (first | assumption | wp_step))
      refine codeAny_mono (codeAny_call_builtin (R := wants (fun r s2 => r = .none ∧ ∃ h' tk c, s2 = { s with heap := h', toks := tk } ∧ (c ≤ zs.length ∧ ∃ S, h'.SetOf (PySem.strKind prog w) s.heap.objs.size S c) ∧ (∀ b o, b < s.heap.objs.size → s.heap.get? b = some o → h'.get? b = some o)) E) PySem.F.called_set.init.plain PySem.F.entry_set_init (check_set_init_1 hT ?_)) fun r2 s2 hr2 => ?_
      · obtain ⟨⟨oc, odi, oda, osl⟩, hol, hcl, nl, hdl⟩ := hl
        simp only at hcl hdl
        subst hcl hdl
        have hol' : (s.heap.push (emptyS led)).get? l = some { cls := .type "list", dict := odi, data := .seq ys nl, slots := osl } := Heap.get?_push_of_some _ hol
        have facts4 := And.intro PySem.F.sub_list_set PySem.F.sub_list_frozenset
        obtain ⟨hsls, hslf⟩ := facts4
        have hne : (Value.type "list" == Value.type "dict") = false := by decide
        have hl1 : (s.heap.push (emptyS led)).IsList l ys := ⟨_, hol', rfl, nl, rfl⟩
        unfold Builtin.«set.__init__» noKeywords Builtin.Frozenset.updateFrom
        generalize hPI : pyIter = PI
        wp_walk
        subst hPI
        refine wpAny_pyIter_list hl1 (wpAny_bind (wpAny_runValue ?_))
        have hlS : l < s.heap.objs.size := Heap.lt_size hol
        have hneI : l ≠ (s.heap.push (emptyS led)).objs.size := by
          rw [Heap.size_push]
          exact Nat.ne_of_lt (Nat.lt_succ_of_lt hlS)
        have hSf : s.heap.objs.size ∉ [(s.heap.push (emptyS led)).objs.size, l] := by
          rw [Heap.size_push]
          simp only [List.mem_cons, List.not_mem_nil, or_false, not_or]
          exact ⟨Nat.ne_of_lt (Nat.lt_succ_self _), Nat.ne_of_gt hlS⟩
        have hsz : zs.length = ys.size := by rw [← StrsAre.len_eq hi, Array.length_toList]
        have hval : ∀ (i : Nat) (v : Value), ys[i]? = some v → ∃ t, v = .str (zs.getD i Str.empty) t := fun i v hv => SS.strs_at hi i v (by rw [Array.getElem?_toList]; exact hv)
        refine loopS ((Walks.list (by simp [hh] : A.in1.in1.in1.handled = none) _ l hneI ys).toS) s.heap.objs.size hSf zs hsz (by rw [← hsz]; exact hn) hval (ys.size - 0) 0 _ (by omega) (Nat.zero_le _) ⟨⟨_, Heap.get?_push_size _ rfl, rfl, rfl⟩, (hl1.push _)⟩ ?hS0 ?hR
        case hS0 =>
          have hget : ((s.heap.push (emptyS led)).push { cls := .type "list_iterator", data := .fields #[.ref l, .int 0 0] }).get? s.heap.objs.size = some (emptyS led) := Heap.get?_push_of_some _ hS
          exact ⟨0, Nat.le_refl _, _, (PyProof.Rows.setObjOf_fresh (knd := PySem.strKind prog w) led).setOf hget (by unfold scanBound; omega)⟩
        case hR =>
          rintro ⟨h', g', d', tk', os'⟩ hm ⟨c, hc, S, hS'⟩
          obtain rfl : g' = s.gens := hm.gens
          obtain rfl : d' = s.drawn := hm.drawn
          obtain rfl : os' = s.os := hm.os
          show wpAny _ _ _ _ _ _
          refine wpAny_pure (show wpAny _ _ (ret Value.none) _ _ _ from wpAny_pure ⟨rfl, h', tk', c, rfl, ⟨by omega, S, hS'⟩, fun b o hb e => ?_⟩)
          refine hm.heap b o ?_ (Heap.get?_push_of_some _ (Heap.get?_push_of_some _ e))
          rw [Heap.size_push]
          simp only [List.mem_cons, List.not_mem_nil, or_false, not_or]
          exact ⟨Nat.ne_of_lt hb, Nat.ne_of_lt (Nat.lt_succ_of_lt hb)⟩
      · cases r2 with
        | error e => exact hr2
        | ok fl2 =>
          cases fl2 with
          | ret r =>
            obtain ⟨rfl, h', tk, c, rfl, ⟨hc, hS'⟩, hk'⟩ := hr2
            repeat (any_goals (first | assumption | wp_step))
            exact h _ _ c hc hS' hk'
          | _ => exact hr2.elim
    | _ => exact hr.elim
theorem call_setT {l : Addr} {ys : Array Value} {zs : List Str} {Q : Value → Shared → Prop} (hh : A.handled = none) (hl : s.heap.IsTuple l ys) (hi : PyProof.Rows.StrsAre ys.toList zs) (hn : zs.length + 1 < scanBound)
    (h : ∀ (h' : Heap) (tk c : Nat), c ≤ zs.length → (∃ S, h'.SetOf (PySem.strKind prog w) s.heap.objs.size S c) → (∀ b o, b < s.heap.objs.size → s.heap.get? b = some o → h'.get? b = some o) → Q (.ref s.heap.objs.size) { s with heap := h', toks := tk }) :
    wpAny (model prog w) A (call (.type "set") [.ref l]) Q E s := by
  have facts := And.intro PySem.F.called_set.made PySem.F.called_set.sub
  obtain ⟨hmade, hsub⟩ := facts
  obtain ⟨c0, tl0, hmro⟩ := PySem.F.called_set.mro
  refine wpAny_call (codeAny_of_tree (show wpAny _ _ (callAny (.type "set") _) _ _ _ from wpAny_pure ⟨Code.quiet_builtin _ (by decide +kernel), codeAny_builtin PySem.F.entry_type_call ?_⟩))
  rw [Around.under_plain (weight_type_call_type "set" [.ref l] []) rfl]
  have facts2 := And.intro PySem.F.called_set.notType (And.intro PySem.F.called_set.canCreate (PySem.F.typeCall_set_1 (.ref l)))
  obtain ⟨h1, h2, hct⟩ := facts2
  repeat (any_goals (first | assumption | wp_step))
  refine codeAny_mono (code_set_new_1 (.ref l) (E := E) (Q₁ := fun ob s1 => ∃ led : Bool, ob = .ref s.heap.objs.size ∧ s1 = { s with heap := s.heap.push (emptyS led) }) fun led => ⟨led, rfl, rfl⟩) fun r s1 hr => ?_
  cases r with
  | error e => exact hr
  | ok fl =>
    cases fl with
    | ret ob =>
      obtain ⟨led, rfl, rfl⟩ := hr
      have hS : (s.heap.push (emptyS led)).get? s.heap.objs.size = some (emptyS led) := Heap.get?_push_size _ rfl
      have hT : Shared.TypeIs { s with heap := s.heap.push (emptyS led) } (.ref s.heap.objs.size) "set" := ⟨_, hS, rfl⟩
      have facts3 := And.intro PySem.F.called_set.init.lookup (PySem.F.called_set.init.bind (.ref s.heap.objs.size))
      obtain ⟨hli, hbi⟩ := facts3
      repeat (any_goals (first | assumption | wp_step))
      refine codeAny_mono (codeAny_call_builtin (R := wants (fun r s2 => r = .none ∧ ∃ h' tk c, s2 = { s with heap := h', toks := tk } ∧ (c ≤ zs.length ∧ ∃ S, h'.SetOf (PySem.strKind prog w) s.heap.objs.size S c) ∧ (∀ b o, b < s.heap.objs.size → s.heap.get? b = some o → h'.get? b = some o)) E) PySem.F.called_set.init.plain PySem.F.entry_set_init (check_set_init_1 hT ?_)) fun r2 s2 hr2 => ?_
      · obtain ⟨⟨oc, odi, oda, osl⟩, hol, hcl, nl, hdl⟩ := hl
        simp only at hcl hdl
        subst hcl hdl
        have hol' : (s.heap.push (emptyS led)).get? l = some { cls := .type "tuple", dict := odi, data := .seq ys nl, slots := osl } := Heap.get?_push_of_some _ hol
        have facts4 := And.intro PySem.F.sub_tuple_set PySem.F.sub_tuple_frozenset
        obtain ⟨hsls, hslf⟩ := facts4
        have hne : (Value.type "tuple" == Value.type "dict") = false := by decide
        have hl1 : (s.heap.push (emptyS led)).IsTuple l ys := ⟨_, hol', rfl, nl, rfl⟩
        unfold Builtin.«set.__init__» noKeywords Builtin.Frozenset.updateFrom
        generalize hPI : pyIter = PI
        wp_walk
        subst hPI
        refine wpAny_pyIter_tuple hl1 (wpAny_bind (wpAny_runValue ?_))
        have hlS : l < s.heap.objs.size := Heap.lt_size hol
        have hneI : l ≠ (s.heap.push (emptyS led)).objs.size := by
          rw [Heap.size_push]
          exact Nat.ne_of_lt (Nat.lt_succ_of_lt hlS)
        have hSf : s.heap.objs.size ∉ [(s.heap.push (emptyS led)).objs.size, l] := by
          rw [Heap.size_push]
          simp only [List.mem_cons, List.not_mem_nil, or_false, not_or]
          exact ⟨Nat.ne_of_lt (Nat.lt_succ_self _), Nat.ne_of_gt hlS⟩
        have hsz : zs.length = ys.size := by rw [← StrsAre.len_eq hi, Array.length_toList]
        have hval : ∀ (i : Nat) (v : Value), ys[i]? = some v → ∃ t, v = .str (zs.getD i Str.empty) t := fun i v hv => SS.strs_at hi i v (by rw [Array.getElem?_toList]; exact hv)
        refine loopS ((Walks.tuple (by simp [hh] : A.in1.in1.in1.handled = none) _ l hneI ys).toS) s.heap.objs.size hSf zs hsz (by rw [← hsz]; exact hn) hval (ys.size - 0) 0 _ (by omega) (Nat.zero_le _) ⟨⟨_, Heap.get?_push_size _ rfl, rfl, rfl⟩, (hl1.push _)⟩ ?hS0 ?hR
        case hS0 =>
          have hget : ((s.heap.push (emptyS led)).push { cls := .type "tuple_iterator", data := .fields #[.ref l, .int 0 0] }).get? s.heap.objs.size = some (emptyS led) := Heap.get?_push_of_some _ hS
          exact ⟨0, Nat.le_refl _, _, (PyProof.Rows.setObjOf_fresh (knd := PySem.strKind prog w) led).setOf hget (by unfold scanBound; omega)⟩
        case hR =>
          rintro ⟨h', g', d', tk', os'⟩ hm ⟨c, hc, S, hS'⟩
          obtain rfl : g' = s.gens := hm.gens
          obtain rfl : d' = s.drawn := hm.drawn
          obtain rfl : os' = s.os := hm.os
          show wpAny _ _ _ _ _ _
          refine wpAny_pure (show wpAny _ _ (ret Value.none) _ _ _ from wpAny_pure ⟨rfl, h', tk', c, rfl, ⟨by omega, S, hS'⟩, fun b o hb e => ?_⟩)
          refine hm.heap b o ?_ (Heap.get?_push_of_some _ (Heap.get?_push_of_some _ e))
          rw [Heap.size_push]
          simp only [List.mem_cons, List.not_mem_nil, or_false, not_or]
          exact ⟨Nat.ne_of_lt hb, Nat.ne_of_lt (Nat.lt_succ_of_lt hb)⟩
      · cases r2 with
        | error e => exact hr2
        | ok fl2 =>
          cases fl2 with
          | ret r =>
            obtain ⟨rfl, h', tk, c, rfl, ⟨hc, hS'⟩, hk'⟩ := hr2
            repeat (any_goals (first | assumption | wp_step))
            exact h _ _ c hc hS' hk'
          | _ => exact hr2.elim
    | _ => exact hr.elim
end
end SS2
namespace L2
open PySem PySem.Spec PyProof.Rows
/-- len(set(xs)), xs a list or tuple of texts -/
def tLenSetA (K : PySem.W.Frag) (ta : TE) : TE := fun σ H Q => ta σ H fun x H1 => ∃ l, ∃ xs : List Str, x = .ref l ∧ (SqL K H1 l (xs.map V.str) ∨ SqT K H1 l (xs.map V.str)) ∧ xs.length ≤ 100 ∧ ∀ c : Nat, c ≤ xs.length → Q (.int c) H1
theorem pe_lenSetA {X : Cx} {a : Expr} {ta : TE} {p p2 q pos : Pos} (hc : X.calm = true) (hg : Gl X "len") (hm : X.mg "len" = none) (hg2 : Gl X "set") (hm2 : X.mg "set" = none) (ha : PE X a ta) (na : starEach [a] X.env = (false, eval a X.env) :: starEach [] X.env := by rfl) :
    PE X (.Call (.Name "len" p) [.Call (.Name "set" p2) [a] [] q] [] pos) (tLenSetA X.K ta) := by
  refine ⟨fun pins s σ H Q I h => Call_ (ld_blt I hg hm boot_len (PyProof.Rows.callWith_builtin1 (PyProof.Rows.args_cons (Call_ (ld_blt I hg2 hm2 boot_set ?_)) rfl) rfl rfl))⟩
  refine PyProof.Rows.callWith_type1 (PyProof.Rows.args_cons (thn (ha.run pins s σ H _ I h) fun v s1 ⟨x, H1, I1, r1, l, xs, ex, hq, h1, q1⟩ => PyProof.Rows.args_nil ?_) na) na rfl
  subst ex
  cases r1
  have sb : xs.length + 1 < scanBound := by
    unfold scanBound
    omega
  have fin : ∀ (h' : Heap) (tk c : Nat), c ≤ xs.length → (∃ S, h'.SetOf (PySem.strKind X.prog X.w) s1.heap.objs.size S c) → (∀ b o, b < s1.heap.objs.size → s1.heap.get? b = some o → h'.get? b = some o) →
      wpAny (model X.prog X.w) X.A (spliced (backTo pos (starEach [] X.env))) (fun vs s2 => wpAny (model X.prog X.w) X.A (call (.builtin "len") (Value.ref s1.heap.objs.size :: vs)) (EP X pins σ Q) X.xe s2) X.xe { s1 with heap := h', toks := tk } := fun h' tk c hc' ⟨S, hS⟩ hk => by
    obtain ⟨o, es, ep, t, ho, hex, hd, _, _, _, hf, hn⟩ := hS
    have I2 : Inv X pins σ H1 { s1 with heap := h', toks := tk } := I1.kept fun b o e => hk b o (Heap.lt_size e) e
    exact PyProof.Rows.args_nil (call_len_set ho hex hd hf (by rw [hn] <;> omega) ⟨.int c, H1, I2.tok _, ⟨_, by rw [hn]⟩, q1 c hc'⟩)
  rcases hq with hq | hq
  · obtain ⟨its, r, pl, hz⟩ := I1.list hq
    exact SS2.call_setL (I1.ok.hd hc) pl.isList (by simpa using strsAre_of r) sb fin
  · obtain ⟨its, r, pl, hz⟩ := I1.tuple hq
    exact SS2.call_setT (I1.ok.hd hc) pl (by simpa using strsAre_of r) sb fin
end L2


namespace Toy
open PySem PySem.Spec L2 PyProof.Rows PySem.W
abbrev sUnl : Stmt := top 41
abbrev sEnts : Stmt := top 40
abbrev sBeg : Stmt := top 8
abbrev sNar : Stmt := top 9
def spUnl (K : PySem.W.Frag) : Sp := fun vs H Q _ => ∃ (a : Addr) (ks : List Str), vs = [.ref a] ∧ (SqL K H a (ks.map V.str) ∨ SqT K H a (ks.map V.str)) ∧ ks.length ≤ 100 ∧ ∀ H' b, Same H H' → Q (.bl b) H'
def spEnts (K : PySem.W.Frag) : Sp := fun vs H Q _ => ∃ (a : Addr) (us : List V) (gs : List PyData) (p : PyData → Bool), vs = [.ref a] ∧ SqT K H a us ∧ DpAll K H us gs ∧ gs.length ≤ 2 ∧ gs.all (isEnt p) = true ∧ ∀ H' b, Same H H' → Q (.bl b) H'
def spBeg : Sp := fun vs H Q _ => ∃ (x k : Str) (ks : List Str), vs = [.str x, .str k] ∧ formOf x = some ks ∧ ∀ H' b, Same H H' → Q (.bl b) H'
def spNar : Sp := fun vs H Q _ => ∃ (x k : Str), vs = [.str x, .str k] ∧ ∀ H' y, Same H H' → Q (.str y) H'
abbrev NEn : List Str := ["values", "entry", "_", "key"]
section
variable {P : Program} {w : World} {K : PySem.W.Frag} {mg : Str → Option Value} {base : Heap}
theorem scUn : FnScope ["names"] ["names"] (defScope sUnl) := ⟨rfl, rfl, rfl, by decide +kernel, rfl, by decide +kernel, by decide +kernel⟩
theorem scEn : FnScope NEn ["values"] (defScope sEnts) := ⟨rfl, rfl, rfl, by decide +kernel, rfl, by decide +kernel, by decide +kernel⟩
theorem scBe : FnScope ["word", "kind"] ["word", "kind"] (defScope sBeg) := ⟨rfl, rfl, rfl, by decide +kernel, rfl, by decide +kernel, by decide +kernel⟩
theorem scNa : FnScope ["outer", "kind"] ["outer", "kind"] (defScope sNar) := ⟨rfl, rfl, rfl, by decide +kernel, rfl, by decide +kernel, by decide +kernel⟩
theorem ok_nar {f : Addr} {fd : FuncData} (F : Fun K "narrowed" "narrowed" sNar f fd) : FnOk P w K mg base CX0 1 f fd ["outer", "kind"] spNar := by
  refine F.ok scNa (fun vs H Q E h => ?_) (fun cdv A outer s H vs Q E hr h => ?_)
  · obtain ⟨x, k, rfl, _⟩ := h
    rfl
  · obtain ⟨x, k, rfl, q⟩ := h
    refine ⟨_, pss_one (ps_ret (pe_ifExp (pt_cmpR op_eq (pv 1) pe_str (nomark _)) (pv 0) (pv 1))), ?_⟩
    exact ⟨_, rfl, rfl, _, rfl, ite2 (fun _ => ⟨_, rfl, q H _ same_id⟩) (fun _ => ⟨_, rfl, q H _ same_id⟩)⟩
theorem ok_beg {f aF aT aW aC : Addr} {fd : FuncData} {ts ws cs : List Str} (F : Fun K "begins_kind" "begins_kind" sBeg f fd) (mFo : mg "FORMS" = some (.ref aF)) (FD : ∃ es n, KDict K w aF es n) (FK : FormsK K w aF)
    (mT : mg "TESTS" = some (.ref aT)) (TK : TupK K aT ts) (mW : mg "WALKS" = some (.ref aW)) (WK : TupK K aW ws) (mC : mg "CHOOSERS" = some (.ref aC)) (CK : TupK K aC cs) : FnOk P w K mg base CX0 1 f fd ["word", "kind"] spBeg := by
  obtain ⟨es, nn, FD⟩ := FD
  refine F.ok scBe (fun vs H Q E h => ?_) (fun cdv A outer s H vs Q E hr h => ?_)
  · obtain ⟨x, k, ks, rfl, _⟩ := h
    rfl
  · obtain ⟨x, k, ks, rfl, hk, q⟩ := h
    refine ⟨_, pss_cons (ps_if (pt_cmpR op_eq (pv 1) pe_str (nomark _)) (pss_one (ps_ret (pe_cmpR op_in_seq (pv 0) (pe_glob (v := .ref aW) (by rfl) mW rfl) (by rfl)))) pss_nil)
      (pss_cons (ps_if (pt_cmpR op_eq (pv 1) pe_str (nomark _)) (pss_one (ps_ret (pe_cmpR op_in_seq (pv 0) (pe_glob (v := .ref aC) (by rfl) mC rfl) (by rfl)))) pss_nil)
      (pss_one (ps_ret (pe_and (pe_cmpR (op_in_kd FD) (pv 0) (pe_glob (v := .ref aF) (by rfl) mFo rfl) (by rfl)) (pe_one (pe_cmpR op_eq (pe_cmpR op_in_seq (pv 0) (pe_glob (v := .ref aT) (by rfl) mT rfl) (by rfl)) (pe_cmpR op_eq (pv 1) pe_str (nomark _)) (nomark _))))))), ?_⟩
    refine ⟨_, rfl, rfl, _, rfl, ite2 (fun _ => ?_) (fun _ => ?_)⟩
    · exact ⟨_, rfl, aW, _, rfl, .inr (WK H), rfl, flat_strs ws, q H _ same_id⟩
    refine ⟨_, rfl, rfl, _, rfl, ite2 (fun _ => ?_) (fun _ => ?_)⟩
    · exact ⟨_, rfl, aC, _, rfl, .inr (CK H), rfl, flat_strs cs, q H _ same_id⟩
    obtain ⟨a, ⟨es2, n2, u, e1, e2, e3, e4⟩, _⟩ := FK _ (lookup_mem hk)
    exact ⟨_, rfl, x, _, rfl, rfl, e3, _, rfl, iteT ⟨_, rfl, aT, _, rfl, .inr (TK H), rfl, flat_strs ts, _, rfl, rfl, rfl, q H _ same_id⟩⟩
end
end Toy


namespace Toy
open PySem PySem.Spec L2 PyProof.Rows PySem.W
def strD : PyData → Str
  | .str x => x
  | _ => Str.empty
theorem fld_s {p : PyData → Bool} {f : PyData} (k : Str) (hk : k = "key" ∨ k = "free" ∨ k = "sort") (h : fldOk p k f = true) : ∃ x, f = .str x ∧ okK x = true := by
  have z : isStrD f = true := by
    rcases hk with rfl | rfl | rfl
    all_goals
      rw [fldOk, if_neg (by decide +kernel), if_neg (by decide +kernel), if_neg (by decide +kernel), if_neg (by decide +kernel), if_neg (by decide +kernel), if_neg (by decide +kernel)] at h
      exact h
  cases f with
  | str x => exact ⟨x, rfl, z⟩
  | _ => simp [isStrD] at z
theorem fld_p {p : PyData → Bool} {k : Str} {f : PyData} (hk : PK k = true) (h : fldOk p k f = true) : p f = true := by
  unfold fldOk at h
  rw [if_pos hk] at h
  exact h
theorem fld_ps {p : PyData → Bool} {f : PyData} (h : fldOk p "parameters" f = true) : tupAll isStrD f = true := by
  rw [fldOk, if_neg (by decide +kernel), if_neg (by decide +kernel), if_neg (by decide +kernel), if_pos rfl] at h
  exact h
abbrev sFld : Stmt := top 38
abbrev NFi : List Str := ["value", "told", "name"]
def spFld (K : PySem.W.Frag) : Sp := fun vs H Q _ => ∃ (v : V) (k : Str) (f : PyData) (p : PyData → Bool), vs = [v, .str k] ∧ Dp K H v f ∧ fldOk p k f = true ∧ ∀ H' b, Same H H' → Q (.bl b) H'
section
variable {P : Program} {w : World} {K : PySem.W.Frag} {mg : Str → Option Value} {base : Heap}
theorem scFi : FnScope NFi ["value", "told"] (defScope sFld) := ⟨rfl, rfl, rfl, by decide +kernel, rfl, by decide +kernel, by decide +kernel⟩
theorem ok_unl {f : Addr} {fd : FuncData} (F : Fun K "_are_unlike" "_are_unlike" sUnl f fd) (mLen : mg "len" = none) (mSet : mg "set" = none) : FnOk P w K mg base CX0 1 f fd ["names"] (spUnl K) := by
  refine F.ok scUn (fun vs H Q E h => ?_) (fun cdv A outer s H vs Q E hr h => ?_)
  · obtain ⟨a, ks, rfl, _⟩ := h
    rfl
  · obtain ⟨a, ks, rfl, ha, hl, q⟩ := h
    refine ⟨_, pss_one (ps_ret (pe_cmpR op_eq (L2.pe_lenSetA rfl (by rfl) mLen (by rfl) mSet (pv 0)) (pe_callB call_len_seq (by rfl) mLen PySem.boot_len (pa_cons (pv 0) pa_nil)) (nomark _))), ?_⟩
    exact ⟨_, rfl, a, ks, rfl, ha, hl, fun c hc => ⟨_, rfl, a, _, rfl, ha, rfl, q H _ same_id⟩⟩
theorem strs_of {K : PySem.W.Frag} {H : Hp} : ∀ {us : List V} {gs : List PyData}, DpAll K H us gs → gs.all isStrD = true → us = (gs.map strD).map V.str
  | _, _, .nil, _ => rfl
  | _, g :: gs, .cons a b, h => by
    rw [List.all_cons, Bool.and_eq_true] at h
    have ih := strs_of b h.2
    cases g with
    | str x =>
      cases a
      rw [ih]
      rfl
    | _ => simp [isStrD] at h
theorem tyT {K : PySem.W.Frag} {H : Hp} {a : Addr} {xs : List V} (h : SqT K H a xs) : TyX K H (.ref a) (.type "tuple") := by
  rcases h with (h | ⟨o, h⟩) | ⟨o, its, n, hk, hc, _⟩
  · exact .base (.tup h)
  · exact .fTuple h
  · exact .kTuple hk hc
theorem ent_str {K : PySem.W.Frag} {H : Hp} {u : V} {g : PyData} {p : PyData → Bool} (h : Dp K H u g) (e : isEnt p g = true) : ∃ (t : Addr) (x : Str) (z : V), u = .ref t ∧ SqT K H t [.str x, z] ∧ okK x = true := by
  obtain ⟨x, g', rfl, hx, _⟩ := isEnt_cases e
  cases h with
  | @tup t es _ hs ha =>
  cases ha with
  | cons a b =>
  cases b with
  | cons c d =>
  cases d
  cases a
  exact ⟨t, x, _, rfl, hs, hx⟩
theorem ok_ents {f fN fU : Addr} {fd fdN fdU : FuncData} (F : Fun K "_are_entries" "_are_entries" sEnts f fd) (GN : FnOk P w K mg base CX0 1 fN fdN ["value"] spStr) (mN : mg "is_name" = some (.ref fN)) (kN : PySem.W.keepIn K (.ref fN) = true) (bN : Binds K fdN ["value"] [])
    (GU : FnOk P w K mg base CX0 1 fU fdU ["names"] (spUnl K)) (mU : mg "_are_unlike" = some (.ref fU)) (kU : PySem.W.keepIn K (.ref fU) = true) (bU : Binds K fdU ["names"] []) (mI : mg "isinstance" = none) (mTu : mg "tuple" = none) (mLen : mg "len" = none) (mA : mg "all" = none) : FnOk P w K mg base CX0 2 f fd ["values"] (spEnts K) := by
  refine F.ok scEn (fun vs H Q E h => ?_) (fun cdv A outer s H vs Q E hr h => ?_)
  · obtain ⟨a, us, gs, p, rfl, _⟩ := h
    rfl
  · obtain ⟨a, us, gs, p, rfl, ha, hus, hl, hall, q⟩ := h
    have lus := dpl_len hus
    refine ⟨_, pss_cons (ps_if (pt_not (pt_val (pe_callB (cr_all rfl) (by rfl) mA (by decide +kernel) (pa_cons (pe_lc (own := [("entry", 1)]) (g := gName 1) (te := tAndV (tCB (rIsi K) (tCons (tVar 1) (tCons (tC (.ty "tuple")) tNil))) (tAndV (tOp rEq (tCB (fun xs H Q => ∃ p ys, xs = [.ref p] ∧ (SqL K H p ys ∨ SqT K H p ys) ∧ Q (.int ys.length) H) (tCons (tVar 1) tNil)) (tC (.int 2))) (tCall spStr [] E0 (tCons (tOp (rIxT K) (tVar 1) (tC (.int 0))) tNil)))) (by rfl) scEn.nd (pi_tup (pv 0))
            (blkOk_by (own := [("entry", 1)]) (N := NEn) (sc := defScope sEnts) (by decide +kernel)) (fun _ _ _ _ _ => pg_name (i := 1) scEn.nd rfl (Or.inl rfl)) (fun _ _ _ _ _ => pts_nil)
            (fun _ _ _ _ _ => pe_and (pe_callB call_isi (by rfl) mI PyProof.Rows.boot_isinstance (pa_cons (pv 1) (pa_cons (pe_bltn (v := .ty "tuple") (by rfl) mTu (by decide +kernel) rfl) pa_nil)))
              (pe_and (pe_cmpR op_eq (pe_callB call_len_seq (by rfl) mLen PySem.boot_len (pa_cons (pv 1) pa_nil)) pe_int (nomark _)) (pe_one (pe_call GN hr (by rfl) mN kN bN .nil pass0 (pa_cons (pe_ix ix_tup (pv 1) pe_int (fun _ _ => rfl)) pa_nil)))))) pa_nil)))) (pss_one (ps_ret pe_bl)) pss_nil)
      (pss_one (ps_ret (pe_call GU hr (by rfl) mU kU bU .nil pass0 (pa_cons (pe_lc (own := [("key", 3), ("_", 2)]) (g := gTup K 2 (gCons (gName 3) (gCons (gName 2) gNil))) (te := tVar 3) (by rfl) scEn.nd (pi_tup (pv 0))
            (blkOk_by (own := [("key", 3), ("_", 2)]) (N := NEn) (sc := defScope sEnts) (by decide +kernel)) (fun _ _ _ _ _ => by exact (pg_tup rfl (pgs_cons (by exact (pg_name (i := 3) scEn.nd rfl (Or.inl rfl))) (pgs_cons (by exact (pg_name (i := 2) scEn.nd rfl (Or.inl rfl))) pgs_nil)))) (fun _ _ _ _ _ => pts_nil)
            (fun _ _ _ _ _ => pv 3)) pa_nil)))), ?_⟩
    refine ⟨_, rfl, a, rfl, ⟨us, ha⟩, fun D nD => ?_⟩
    refine lc_tup (K := K) (a := a) (xs := us) (fun i H' => Same H H' ∧ ∃ bs : List Bool, H' D = some (.lst (bs.map V.bl)) ∧ bs.length ≤ i) ⟨same_new same_id nD, [], upd_same, Nat.le_refl _⟩ ?_ ?_ ?_
    · rintro i H' _ ⟨s5, _⟩
      exact same_seqT s5 ha
    · rintro i u H' hi ⟨s2, bs, hD, lb⟩
      obtain ⟨g, hg, hug⟩ := dpl_get hus hi
      have il : i < us.length := by
        rcases Nat.lt_or_ge i us.length with z | z
        · exact z
        · rw [List.getElem?_eq_none z] at hi
          cases hi
      obtain ⟨t, x, z, rfl, ht, hx⟩ := ent_str hug (List.all_eq_true.mp hall g (List.mem_of_getElem? hg))
      have ht2 := same_seqT s2 ht
      have ty : TyX K H' (.ref t) (.type "tuple") := tyT ht2
      have step : ∀ H3 (b : Bool), Same H' H3 → ∃ acc, H3 D = some (.lst acc) ∧ acc.length < sizeLine ∧ (Same H (upd H3 D (.lst (acc ++ [V.bl b]))) ∧ ∃ bs : List Bool, (upd H3 D (.lst (acc ++ [V.bl b]))) D = some (.lst (bs.map V.bl)) ∧ bs.length ≤ i + 1) := fun H3 b s3 =>
        ⟨_, s3 _ _ hD, small1000 (by rw [List.length_map]; omega), same_put (s2.trans s3) nD, bs ++ [b], by rw [upd_same, List.map_append]; rfl, by rw [List.length_append, List.length_singleton]; omega⟩
      refine ⟨rfl, _, rfl, _, _, _, _, true, rfl, .ty _, ty, kit_ty (by decide +kernel), _, rfl, iteT ⟨_, rfl, t, _, rfl, .inr ht2, rfl, _, rfl, iteT ⟨_, rfl, t, _, 0, _, rfl, rfl, ht2, at_0 _ _, x, rfl, hx, fun H3 b s3 => step H3 b s3⟩⟩⟩
    · rintro H1 ⟨s1, bs, hD, lb⟩
      refine ⟨D, bs, rfl, SqL.of hD, _, rfl, ite2 (fun _ => q H1 _ s1) (fun _ => ?_)⟩
      have ha1 := same_seqT s1 ha
      refine ⟨_, rfl, a, rfl, ⟨us, ha1⟩, fun D2 nD2 => ?_⟩
      refine lc_tup (K := K) (a := a) (xs := us) (fun i H' => Same H1 H' ∧ ∃ ks : List Str, H' D2 = some (.lst (ks.map V.str)) ∧ ks.length ≤ i) ⟨same_new same_id nD2, [], upd_same, Nat.le_refl _⟩ ?_ ?_ ?_
      · rintro i H' _ ⟨s5, _⟩
        exact same_seqT s5 ha1
      · rintro i u H' hi ⟨s2, ks, hD2, lb2⟩
        obtain ⟨g, hg, hug⟩ := dpl_get hus hi
        have il : i < us.length := by
          rcases Nat.lt_or_ge i us.length with z | z
          · exact z
          · rw [List.getElem?_eq_none z] at hi
            cases hi
        obtain ⟨t, x, z, rfl, ht, hx⟩ := ent_str hug (List.all_eq_true.mp hall g (List.mem_of_getElem? hg))
        have ht2 := same_seqT (s1.trans s2) ht
        exact ⟨t, _, rfl, ht2, rfl, _, _, rfl, _, _, rfl, rfl, rfl, _, rfl, _, hD2, small1000 (by rw [List.length_map]; omega), same_put s2 nD2, ks ++ [x], by rw [upd_same, List.map_append]; rfl, by rw [List.length_append, List.length_singleton]; omega⟩
      · rintro H2 ⟨s2, ks, hD2, lb2⟩
        exact ⟨D2, ks, rfl, .inl (SqL.of hD2), by omega, fun H3 b s3 => q H3 b ((s1.trans s2).trans s3)⟩
abbrev sIdx : Stmt := top 39
theorem scIx : FnScope ["value"] ["value"] (defScope sIdx) := ⟨rfl, rfl, rfl, by decide +kernel, rfl, by decide +kernel, by decide +kernel⟩
theorem ok_index {f fI : Addr} {fd fdI : FuncData} {u99 : Value} (F : Fun K "is_index" "is_index" sIdx f fd) (m99 : mg "MOST_INDEX" = some u99) (r99 : RelV (.int 99) u99)
    (GI : FnOk P w K mg base CX0 1 fI fdI ["value"] spInt) (mIn : mg "is_integer" = some (.ref fI)) (kI : PySem.W.keepIn K (.ref fI) = true) (bI : Binds K fdI ["value"] []) : FnOk P w K mg base CX0 2 f fd ["value"] spInt := by
  refine F.ok scIx (fun vs H Q E h => ?_) (fun cdv A outer s H vs Q E hr h => ?_)
  · obtain ⟨i, rfl, _⟩ := h
    rfl
  · obtain ⟨i, rfl, q⟩ := h
    refine ⟨_, pss_one (ps_ret (pe_and (pe_call GI hr (by rfl) mIn kI bI .nil pass0 (pa_cons (pv 0) pa_nil)) (pe_one (pe_chain op_le op_le pe_int (pv 0) (pe_glob (v := .int 99) (by rfl) m99 r99))))), ?_⟩
    exact ⟨_, rfl, i, rfl, fun H1 b s1 => ⟨_, rfl, ite2 (fun _ => ⟨_, rfl, _, _, rfl, rfl, _, rfl, ite2 (fun _ => ⟨_, _, rfl, rfl, q H1 _ s1⟩) (fun _ => q H1 _ s1)⟩) (fun _ => q H1 _ s1)⟩⟩
theorem ok_fld {f aP aS fN fF fI fL fU fE : Addr} {fd fdN fdF fdI fdL fdU fdE : FuncData} {u3 : Value} {ss : List Str} (F : Fun K "_is_field" "_is_field" sFld f fd) (mPK : mg "PART_KINDS" = some (.ref aP)) (PKK : TupK K aP kinds4) (mSo : mg "SORTS" = some (.ref aS)) (SK : TupK K aS ss)
    (m3 : mg "MOST_HANDED" = some u3) (r3 : RelV (.int 3) u3)
    (GN : FnOk P w K mg base CX0 1 fN fdN ["value"] spStr) (mN : mg "is_name" = some (.ref fN)) (kN : PySem.W.keepIn K (.ref fN) = true) (bN : Binds K fdN ["value"] [])
    (GF : FnOk P w K mg base CX0 2 fF fdF ["value"] spStr) (mF : mg "is_free_name" = some (.ref fF)) (kF : PySem.W.keepIn K (.ref fF) = true) (bF : Binds K fdF ["value"] [])
    (GI : FnOk P w K mg base CX0 2 fI fdI ["value"] spInt) (mIn : mg "is_index" = some (.ref fI)) (kI : PySem.W.keepIn K (.ref fI) = true) (bI : Binds K fdI ["value"] [])
    (GL : FnOk P w K mg base CX0 2 fL fdL ["value"] spLf) (mL : mg "is_leaf" = some (.ref fL)) (kL : PySem.W.keepIn K (.ref fL) = true) (bL : Binds K fdL ["value"] [])
    (GU : FnOk P w K mg base CX0 1 fU fdU ["names"] (spUnl K)) (mU : mg "_are_unlike" = some (.ref fU)) (kU : PySem.W.keepIn K (.ref fU) = true) (bU : Binds K fdU ["names"] [])
    (GE : FnOk P w K mg base CX0 2 fE fdE ["values"] (spEnts K)) (mE : mg "_are_entries" = some (.ref fE)) (kE : PySem.W.keepIn K (.ref fE) = true) (bE : Binds K fdE ["values"] [])
    (mI : mg "isinstance" = none) (mTu : mg "tuple" = none) (mLen : mg "len" = none) (mA : mg "all" = none) : FnOk P w K mg base CX0 3 f fd ["value", "told"] (spFld K) := by
  refine F.ok scFi (fun vs H Q E h => ?_) (fun cdv A outer s H vs Q E hr h => ?_)
  · obtain ⟨v, k, f, p, rfl, _⟩ := h
    rfl
  · obtain ⟨v, k, f, p, rfl, hv, hf, q⟩ := h
    have hr1 : Room 1 _ := hr.mono (show 1 ≤ 2 by omega)
    refine ⟨_, pss_cons (ps_if (pt_cmpR op_in_seq (pv 1) (pe_glob (v := .ref aP) (by rfl) mPK rfl) (by rfl)) (pss_one (ps_ret pe_bl)) pss_nil)
      (pss_cons (ps_if (pt_cmpR op_eq (pv 1) pe_str (nomark _)) (pss_one (ps_ret (pe_call GN hr1 (by rfl) mN kN bN .nil pass0 (pa_cons (pv 0) pa_nil)))) pss_nil)
      (pss_cons (ps_if (pt_cmpR op_eq (pv 1) pe_str (nomark _)) (pss_one (ps_ret (pe_call GF hr (by rfl) mF kF bF .nil pass0 (pa_cons (pv 0) pa_nil)))) pss_nil)
      (pss_cons (ps_if (pt_cmpR op_eq (pv 1) pe_str (nomark _)) (pss_one (ps_ret (pe_call GI hr (by rfl) mIn kI bI .nil pass0 (pa_cons (pv 0) pa_nil)))) pss_nil)
      (pss_cons (ps_if (pt_cmpR op_eq (pv 1) pe_str (nomark _)) (pss_one (ps_ret (pe_call GL hr (by rfl) mL kL bL .nil pass0 (pa_cons (pv 0) pa_nil)))) pss_nil)
      (pss_cons (ps_if (pt_cmpR op_eq (pv 1) pe_str (nomark _)) (pss_one (ps_ret (pe_cmpR op_in_seq (pv 0) (pe_glob (v := .ref aS) (by rfl) mSo rfl) (by rfl)))) pss_nil)
      (pss_cons (ps_if (pt_not (pt_val (pe_callB call_isi (by rfl) mI PyProof.Rows.boot_isinstance (pa_cons (pv 0) (pa_cons (pe_bltn (v := .ty "tuple") (by rfl) mTu (by decide +kernel) rfl) pa_nil))))) (pss_one (ps_ret pe_bl)) pss_nil)
      (pss_cons (ps_if (pt_cmpR op_eq (pv 1) pe_str (nomark _)) (pss_one (ps_ret (pe_cmpR op_le (pe_callB call_len_seq (by rfl) mLen PySem.boot_len (pa_cons (pv 0) pa_nil)) (pe_glob (v := .int 3) (by rfl) m3 r3) (nomark _)))) pss_nil)
      (pss_cons (ps_if (pt_cmpR op_eq (pv 1) pe_str (nomark _)) (pss_one (ps_ret (pe_and (pe_cmpR op_le (pe_callB call_len_seq (by rfl) mLen PySem.boot_len (pa_cons (pv 0) pa_nil)) (pe_glob (v := .int 3) (by rfl) m3 r3) (nomark _))
          (pe_and (pe_callB (cr_all rfl) (by rfl) mA (by decide +kernel) (pa_cons (pe_lc (own := [("name", 2)]) (g := gName 2) (te := tCall spStr [] E0 (tCons (tVar 2) tNil)) (by rfl) scFi.nd (pi_tup (pv 0))
            (blkOk_by (own := [("name", 2)]) (N := NFi) (sc := defScope sFld) (by decide +kernel)) (fun _ _ _ _ _ => pg_name (i := 2) scFi.nd rfl (Or.inl rfl)) (fun _ _ _ _ _ => pts_nil)
            (fun _ _ _ _ _ => pe_call GF hr (by rfl) mF kF bF .nil pass0 (pa_cons (pv 2) pa_nil))) pa_nil))
          (pe_one (pe_call GU hr1 (by rfl) mU kU bU .nil pass0 (pa_cons (pv 0) pa_nil))))))) pss_nil)
      (pss_one (ps_ret (pe_call GE hr (by rfl) mE kE bE .nil pass0 (pa_cons (pv 0) pa_nil)))))))))))), ?_⟩
    refine ⟨_, rfl, aP, _, rfl, .inr (PKK H), rfl, flat_strs kinds4, _, rfl, ?_⟩
    have ein : inV (V.str k) (kinds4.map V.str) = PK k := inV_strs k kinds4
    show (if inV (V.str k) (kinds4.map V.str) = true then _ else _)
    rw [ein]
    refine ite2 (fun c1 => q H _ same_id) (fun c1 => ?_)
    have strV : ∀ {k' : Str}, (k' = "key" ∨ k' = "free" ∨ k' = "sort") → k = k' → ∃ x, v = .str x ∧ okK x = true := by
      intro k' hk' e
      subst e
      obtain ⟨x, rfl, hx⟩ := fld_s _ hk' hf
      cases hv
      exact ⟨x, rfl, hx⟩
    refine ⟨_, rfl, rfl, _, rfl, ite2 (fun c => ?_) (fun c2 => ?_)⟩
    · obtain ⟨x, rfl, hx⟩ := strV (.inl rfl) (V.str.inj (of_decide_eq_true c))
      exact ⟨_, rfl, x, rfl, hx, fun H' b s => q H' b s⟩
    refine ⟨_, rfl, rfl, _, rfl, ite2 (fun c => ?_) (fun c3 => ?_)⟩
    · obtain ⟨x, rfl, hx⟩ := strV (.inr (.inl rfl)) (V.str.inj (of_decide_eq_true c))
      exact ⟨_, rfl, x, rfl, hx, fun H' b s => q H' b s⟩
    refine ⟨_, rfl, rfl, _, rfl, ite2 (fun c => ?_) (fun c4 => ?_)⟩
    · have e : k = "index" := V.str.inj (of_decide_eq_true c)
      subst e
      rw [fldOk, if_neg (by decide +kernel), if_neg (by decide +kernel), if_neg (by decide +kernel), if_neg (by decide +kernel), if_pos rfl] at hf
      cases f with
      | int i =>
        cases hv
        exact ⟨_, rfl, i, rfl, fun H1 b s1 => q H1 b s1⟩
      | _ => simp [isIntD] at hf
    refine ⟨_, rfl, rfl, _, rfl, ite2 (fun c => ?_) (fun c5 => ?_)⟩
    · have e : k = "leaf" := V.str.inj (of_decide_eq_true c)
      subst e
      rw [fldOk, if_neg (by decide +kernel), if_neg (by decide +kernel), if_neg (by decide +kernel), if_neg (by decide +kernel), if_neg (by decide +kernel), if_pos rfl] at hf
      have lv : LfV v := by
        cases f with
        | none => cases hv; exact .inl rfl
        | bool b => cases hv; exact .inr (.inl ⟨b, rfl⟩)
        | int i => cases hv; exact .inr (.inr (.inl ⟨i, rfl⟩))
        | str x =>
          cases hv
          unfold isLeafD at hf
          rw [Bool.and_eq_true] at hf
          exact .inr (.inr (.inr ⟨x, rfl, hf.1⟩))
        | _ => simp [isLeafD] at hf
      exact ⟨_, rfl, v, rfl, lv, fun H' b s => q H' b s⟩
    refine ⟨_, rfl, rfl, _, rfl, ite2 (fun c => ?_) (fun c6 => ?_)⟩
    · obtain ⟨x, rfl, hx⟩ := strV (.inr (.inr rfl)) (V.str.inj (of_decide_eq_true c))
      exact ⟨_, rfl, aS, _, rfl, .inr (SK H), rfl, flat_strs ss, q H _ same_id⟩
    have n2 : ¬ k = "key" := fun z => c2 (by rw [z]; exact decide_eq_true rfl)
    have n3 : ¬ k = "free" := fun z => c3 (by rw [z]; exact decide_eq_true rfl)
    have n4 : ¬ k = "index" := fun z => c4 (by rw [z]; exact decide_eq_true rfl)
    have n5 : ¬ k = "leaf" := fun z => c5 (by rw [z]; exact decide_eq_true rfl)
    have n6 : ¬ k = "sort" := fun z => c6 (by rw [z]; exact decide_eq_true rfl)
    have hf2 := hf
    rw [fldOk, if_neg c1] at hf2
    have tupV : ∀ (p2 : PyData → Bool), tupAll p2 f = true → ∃ a us gs, f = .tuple gs ∧ v = .ref a ∧ SqT K H a us ∧ DpAll K H us gs ∧ gs.length ≤ 2 ∧ gs.all p2 = true := by
      intro p2 h
      obtain ⟨gs, rfl, g8, gall⟩ := tupAll_cases h
      cases hv with
      | @tup a us _ h1 h2 => exact ⟨a, us, gs, rfl, rfl, h1, h2, g8, gall⟩
    by_cases e7 : k = "filters"
    · subst e7
      obtain ⟨a, us, gs, rfl, rfl, ha, hus, g8, gall⟩ := tupV _ (fld_f hf)
      refine ⟨_, rfl, _, _, _, _, true, rfl, .ty _, tyT ha, kit_ty (by decide +kernel), _, rfl, iteF ⟨_, rfl, rfl, _, rfl, ite2 (fun _ => ?_) (fun z => absurd (decide_eq_true rfl) z)⟩⟩
      exact ⟨_, rfl, a, us, rfl, .inr ha, _, _, rfl, rfl, q H _ same_id⟩
    by_cases e8 : k = "parameters"
    · subst e8
      obtain ⟨a, us, gs, rfl, rfl, ha, hus, g8, gall⟩ := tupV _ (fld_ps hf)
      have lus := dpl_len hus
      have hstr : ∃ ks : List Str, us = ks.map V.str ∧ ks.length ≤ 2 ∧ ∀ x ∈ ks, okK x = true := by
        refine ⟨gs.map strD, ?_, by rw [List.length_map]; exact g8, ?_⟩
        · exact strs_of hus gall
        · intro x hx
          obtain ⟨g, hg, rfl⟩ := List.mem_map.mp hx
          have := List.all_eq_true.mp gall g hg
          cases g with
          | str y => exact this
          | _ => simp [isStrD] at this
      obtain ⟨ks, rfl, lk, hks⟩ := hstr
      refine ⟨_, rfl, _, _, _, _, true, rfl, .ty _, tyT ha, kit_ty (by decide +kernel), _, rfl, iteF ⟨_, rfl, rfl, _, rfl, ite2 (fun z => absurd (V.str.inj (of_decide_eq_true z)) (by decide +kernel)) (fun _ => ⟨_, rfl, rfl, _, rfl, ite2 (fun _ => ?_) (fun z => absurd (decide_eq_true rfl) z)⟩)⟩⟩
      refine ⟨_, rfl, a, _, rfl, .inr ha, _, _, rfl, rfl, _, rfl, ite2 (fun _ => ?_) (fun _ => q H _ same_id)⟩
      refine ⟨_, rfl, a, rfl, ⟨_, ha⟩, fun D nD => ?_⟩
      refine lc_tup (K := K) (a := a) (xs := ks.map V.str) (fun i H' => Same H H' ∧ ∃ bs : List Bool, H' D = some (.lst (bs.map V.bl)) ∧ bs.length ≤ i) ⟨same_new same_id nD, [], upd_same, Nat.le_refl _⟩ ?_ ?_ ?_
      · rintro i H' _ ⟨s5, _⟩
        exact same_seqT s5 ha
      · rintro i u H' hi ⟨s2, bs, hD, lb⟩
        rw [List.getElem?_map] at hi
        obtain ⟨x, hx, rfl⟩ : ∃ x, ks[i]? = some x ∧ u = .str x := by
          cases e : ks[i]? with
          | none => rw [e] at hi; cases hi
          | some x => rw [e] at hi; exact ⟨x, rfl, (Option.some.inj hi).symm⟩
        have il : i < ks.length := by
          rcases Nat.lt_or_ge i ks.length with z | z
          · exact z
          · rw [List.getElem?_eq_none z] at hx
            cases hx
        exact ⟨rfl, _, rfl, x, rfl, hks x (List.mem_of_getElem? hx), fun H3 b s3 => ⟨_, s3 _ _ hD, small1000 (by rw [List.length_map]; omega), same_put (s2.trans s3) nD, bs ++ [b], by rw [upd_same, List.map_append]; rfl, by rw [List.length_append, List.length_singleton]; omega⟩⟩
      · rintro H1 ⟨s1, bs, hD, lb⟩
        refine ⟨D, bs, rfl, SqL.of hD, _, rfl, ite2 (fun _ => ?_) (fun _ => q H1 _ s1)⟩
        exact ⟨_, rfl, a, ks, rfl, .inr (same_seqT s1 ha), by omega, fun H2 b s2 => q H2 b (s1.trans s2)⟩
    by_cases e9 : k = "entries"
    · subst e9
      obtain ⟨a, us, gs, rfl, rfl, ha, hus, g8, gall⟩ := tupV _ (fld_e hf)
      refine ⟨_, rfl, _, _, _, _, true, rfl, .ty _, tyT ha, kit_ty (by decide +kernel), _, rfl, iteF ⟨_, rfl, rfl, _, rfl, ite2 (fun z => absurd (V.str.inj (of_decide_eq_true z)) (by decide +kernel)) (fun _ => ⟨_, rfl, rfl, _, rfl, ite2 (fun z => absurd (V.str.inj (of_decide_eq_true z)) (by decide +kernel)) (fun _ => ?_)⟩)⟩⟩
      exact ⟨_, rfl, a, us, gs, p, rfl, ha, hus, g8, gall, fun H' b s => q H' b s⟩
    rw [if_neg e7, if_neg e9, if_neg e8, if_neg n4, if_neg n5] at hf2
    cases f with
    | str x =>
      cases hv
      have ty : TyX K H (.str x) (.type "str") := .base (.str x)
      exact ⟨_, rfl, _, _, _, _, false, rfl, .ty _, ty, kit_ty (by decide +kernel), _, rfl, iteT (q H _ same_id)⟩
    | _ => simp [isStrD] at hf2
end
end Toy


namespace Toy
open PySem PySem.Spec L2 PyProof.Rows PySem.W
abbrev sHF : Stmt := top 37
abbrev sOK : Stmt := top 36
abbrev sIF : Stmt := top 35
abbrev NHF : List Str := ["value", "kind", "fields", "told", "field"]
abbrev NOK : List Str := ["value", "kind", "waiting", "many", "term", "wanted", "level", "inner", "told", "part"]
def spHF (K : PySem.W.Frag) : Sp := fun vs H Q _ => ∃ (v : V) (n : Nat) (t : PyData) (k : Str), vs = [v, .str k] ∧ Dp K H v t ∧ wf (n + 1) t = true ∧ ∀ H' b, Same H H' → Q (.bl b) H'
def spOK (K : PySem.W.Frag) : Sp := fun vs H Q _ => ∃ (v : V) (n : Nat) (t : PyData) (k : Str), vs = [v, .str k] ∧ Dp K H v t ∧ wf n t = true ∧ szT n t ≤ 10000000 ∧ ∀ H' b, Same H H' → Q (.bl b) H'
def spIF (K : PySem.W.Frag) : Sp := fun vs H Q _ => ∃ (v : V) (n : Nat) (t : PyData), vs = [v] ∧ Dp K H v t ∧ wf n t = true ∧ szT n t ≤ 10000000 ∧ ∀ H' b, Same H H' → Q (.bl b) H'
section
variable {P : Program} {w : World} {K : PySem.W.Frag} {mg : Str → Option Value} {base : Heap}
theorem scHF : FnScope NHF ["value", "kind"] (defScope sHF) := ⟨rfl, rfl, rfl, by decide +kernel, rfl, by decide +kernel, by decide +kernel⟩
theorem scOK : FnScope NOK ["value", "kind"] (defScope sOK) := ⟨rfl, rfl, rfl, by decide +kernel, rfl, by decide +kernel, by decide +kernel⟩
theorem scIF : FnScope ["value"] ["value"] (defScope sIF) := ⟨rfl, rfl, rfl, by decide +kernel, rfl, by decide +kernel, by decide +kernel⟩
theorem ok_hf {f aF fB fF : Addr} {fd fdB fdF : FuncData} (F : Fun K "_has_form" "_has_form" sHF f fd) (mFo : mg "FORMS" = some (.ref aF)) (FK : FormsK K w aF)
    (GB : FnOk P w K mg base CX0 1 fB fdB ["word", "kind"] spBeg) (mB : mg "begins_kind" = some (.ref fB)) (kB : PySem.W.keepIn K (.ref fB) = true) (bB : Binds K fdB ["word", "kind"] [])
    (GF : FnOk P w K mg base CX0 3 fF fdF ["value", "told"] (spFld K)) (mF : mg "_is_field" = some (.ref fF)) (kF : PySem.W.keepIn K (.ref fF) = true) (bF : Binds K fdF ["value", "told"] [])
    (mI : mg "isinstance" = none) (mTu : mg "tuple" = none) (mS : mg "str" = none) (mLen : mg "len" = none) (mA : mg "all" = none) (mZip : mg "zip" = none) : FnOk P w K mg base CX0 4 f fd ["value", "kind"] (spHF K) := by
  refine F.ok scHF (fun vs H Q E h => ?_) (fun cdv A outer s H vs Q E hr h => ?_)
  · obtain ⟨v, n, t, k, rfl, _⟩ := h
    rfl
  · obtain ⟨v, n, t, k, rfl, hv, hw, q⟩ := h
    have hr1 : Room 1 _ := hr.mono (show 1 ≤ 3 by omega)
    obtain ⟨wd, fs, ks, rfl, hk, hf⟩ := wf_cases hw
    obtain ⟨aK, hK1, hK2⟩ := FK _ (lookup_mem hk)
    refine ⟨_, pss_cons (ps_if (PW.pt (pw_or (pt_not (pt_val (pe_callB call_isi (by rfl) mI PyProof.Rows.boot_isinstance (pa_cons (pv 0) (pa_cons (pe_bltn (v := .ty "tuple") (by rfl) mTu (by decide +kernel) rfl) pa_nil)))))
          (pw_or (pt_not (pt_truth (pv 0) (by intro _; rfl))) (pw_or1 (pt_not (pt_val (pe_callB call_isi (by rfl) mI PyProof.Rows.boot_isinstance (pa_cons (pe_ix ix_tup (pv 0) pe_int (fun _ _ => rfl)) (pa_cons (pe_bltn (v := .ty "str") (by rfl) mS (by decide +kernel) rfl) pa_nil))))))))) (pss_one (ps_ret pe_bl)) pss_nil)
      (pss_cons (ps_if (pt_not (pt_val (pe_call GB hr1 (by rfl) mB kB bB .nil pass0 (pa_cons (pe_ix ix_tup (pv 0) pe_int (fun _ _ => rfl)) (pa_cons (pv 1) pa_nil))))) (pss_one (ps_ret pe_bl)) pss_nil)
      (pss_cons (ps_set (i := 2) scHF.nd rfl (Or.inl rfl) (pe_ix ix_kdict (pe_glob (v := .ref aF) (by rfl) mFo rfl) (pe_ix ix_tup (pv 0) pe_int (fun _ _ => rfl)) (fun _ _ => rfl)))
      (pss_cons (ps_if (pt_cmpR op_ne (pe_callB call_len_seq (by rfl) mLen PySem.boot_len (pa_cons (pv 0) pa_nil)) (pe_op op_add (pe_callB call_len_seq (by rfl) mLen PySem.boot_len (pa_cons (pv 2) pa_nil)) pe_int) (nomark _)) (pss_one (ps_ret pe_bl)) pss_nil)
      (pss_one (ps_ret (pe_callB (cr_all rfl) (by rfl) mA (by decide +kernel) (pa_cons (pe_lc (own := [("told", 3), ("field", 4)]) (g := gTup K 2 (gCons (gName 3) (gCons (gName 4) gNil))) (te := tCall (spFld K) [] E0 (tCons (tVar 4) (tCons (tVar 3) tNil))) (by rfl) scHF.nd (RZ.pi_zipA (by rfl) mZip (pa_cons (pv 2) (pa_cons (pe_slice sl_tup (pv 0) (po_some pe_int) po_none) pa_nil)))
            (blkOk_by (own := [("told", 3), ("field", 4)]) (N := NHF) (sc := defScope sHF) (by decide +kernel)) (fun _ _ _ _ _ => by exact (pg_tup rfl (pgs_cons (by exact (pg_name (i := 3) scHF.nd rfl (Or.inl rfl))) (pgs_cons (by exact (pg_name (i := 4) scHF.nd rfl (Or.inl rfl))) pgs_nil)))) (fun _ _ _ _ _ => pts_nil)
            (fun _ _ _ _ _ => pe_call GF hr (by rfl) mF kF bF .nil pass0 (pa_cons (pv 4) (pa_cons (pv 3) pa_nil)))) pa_nil))))))), ?_⟩
    cases hv with
    | @tup av xs _ hseq hall =>
    cases hall with
    | @cons v0 vs d0 ds h0 hvs =>
    cases h0
    have hkl := flds_len hf
    have hvl := dpl_len hvs
    have hvl : vs.length = fs.length := hvl
    have k4 : ks.length ≤ 4 := forms_len _ (lookup_mem hk)
    refine ⟨_, rfl, _, _, _, _, true, rfl, .ty _, tyT hseq, kit_ty (by decide +kernel), _, rfl, iteF ?_⟩
    refine ⟨_, rfl, _, .inr (.inl ⟨_, hseq, rfl⟩), iteF ?_⟩
    have tyS : TyX K H (.str wd) (.type "str") := .base (.str wd)
    refine ⟨_, rfl, av, _, 0, _, rfl, rfl, hseq, at_0 _ _, _, _, _, _, true, rfl, .ty _, tyS, kit_ty (by decide +kernel), _, rfl, iteF ?_⟩
    refine ⟨_, rfl, av, _, 0, _, rfl, rfl, hseq, at_0 _ _, _, rfl, wd, k, ks, rfl, hk, fun H1 b s1 => ⟨_, rfl, ite2 (fun _ => q H1 _ s1) (fun _ => ?_)⟩⟩
    have seq1 := same_seqT s1 hseq
    refine ⟨_, rfl, av, _, 0, _, rfl, rfl, seq1, at_0 _ _, aF, wd, _, rfl, rfl, hK1, ?_⟩
    refine ⟨_, rfl, av, _, rfl, .inr seq1, _, rfl, aK, _, rfl, .inr (hK2 H1), _, _, rfl, rfl, rfl, _, rfl, ite2 (fun _ => q H1 _ s1) (fun _ => ?_)⟩
    refine ⟨_, rfl, _, rfl, 1, rfl, av, _, rfl, seq1, cut_1w _ _, fun B nB => ?_⟩
    rw [cut_1]
    have sB := same_new (u := .tup vs) s1 nB
    have hB : (upd H1 B (.tup vs)) B = some (.tup vs) := upd_same
    generalize upd H1 B (.tup vs) = H2 at sB hB ⊢
    refine ⟨aK, B, ks.map V.str, vs, rfl, .inr ⟨hK2 H2, SqT.of hB, fun D nD => ?_⟩⟩
    refine ⟨fun i m H' => m + i = ks.length ∧ Same H2 H' ∧ ∃ bs : List Bool, H' D = some (.lst (bs.map V.bl)) ∧ bs.length ≤ i, ⟨ks.length, rfl, same_new same_id nD, [], upd_same, Nat.le_refl _⟩, fun i m H' hW => ?_⟩
    obtain ⟨em, s2, bs, hD, lb⟩ := hW
    have hBB := SqT.of (K := K) (s2 _ _ hB)
    have hlk : (ks.map V.str).length = ks.length := List.length_map ..
    by_cases hi : i < ks.length
    · have m1 : (ks.map V.str)[i]? = some (.str ks[i]) := by rw [List.getElem?_map, List.getElem?_eq_getElem hi]; rfl
      obtain ⟨y0, m2⟩ : ∃ y0, vs[i]? = some y0 := ⟨vs[i]'(by omega), List.getElem?_eq_getElem (by omega)⟩
      obtain ⟨f0, hf0, hyf⟩ := dpl_get hvs m2
      have hfo := flds_get hf (List.getElem?_eq_getElem hi) hf0
      refine .inr ⟨⟨_, _, _, _, hK2 H', hBB, m1, m2⟩, fun H3 => Same H2 H3 ∧ ∃ bs : List Bool, H3 D = some (.lst (bs.map V.bl)) ∧ bs.length ≤ i + 1, fun H3 hN => ⟨m - 1, by omega, by omega, hN.1, hN.2⟩, fun v H3 hy => ?_⟩
      obtain ⟨T1, x1, x2, rfl, nT, rfl, f1, f2⟩ := hy
      obtain rfl : x1 = .str ks[i] := Option.some.inj ((f1 _ (hK2 H')).symm.trans m1)
      obtain rfl : x2 = y0 := Option.some.inj ((f2 _ hBB).symm.trans m2)
      have nDT : D ≠ T1 := ne_of_none hD nT
      have sT : Same H2 (upd H' T1 (.tup [.str ks[i], x2])) := same_new s2 nT
      refine ⟨T1, _, rfl, SqT.of upd_same, rfl, _, _, rfl, _, _, rfl, rfl, rfl, _, rfl, _, rfl, x2, ks[i], f0, wf n, rfl, dpM (sB.trans sT) hyf, hfo, fun H5 b s5 => ?_⟩
      exact ⟨_, s5 _ _ ((upd_ne nDT).trans hD), small1000 (by rw [List.length_map]; omega), same_put (sT.trans s5) nD, bs ++ [b], by rw [upd_same, List.map_append]; rfl, by rw [List.length_append, List.length_singleton]; omega⟩
    · exact .inl ⟨⟨_, _, hK2 H', hBB, .inl (by show (ks.map V.str).length ≤ i; omega)⟩, D, bs, rfl, SqL.of hD, q H' _ (sB.trans s2)⟩
def OI (K : PySem.W.Frag) (H : Hp) (q : Addr) (e : Nat × PyData) : Prop := ∃ (u : V) (k : Str) (lv : Int), H q = some (.tup [u, .str k, .int lv]) ∧ Dp K H u e.2 ∧ wf e.1 e.2 = true
theorem OI.put {K : PySem.W.Frag} {H : Hp} {q : Addr} {e : Nat × PyData} {L : Addr} {xs ys : List V} (h : OI K H q e) (hL : H L = some (.lst xs)) : OI K (upd H L (.lst ys)) q e := by
  obtain ⟨u, k, lv, h1, h2, h3⟩ := h
  exact ⟨u, k, lv, (upd_ne (ne_of h1 hL (by intro e; cases e))).trans h1, dp_put hL h2 (noL_wf h3), h3⟩
theorem OI.same {K : PySem.W.Frag} {H H' : Hp} {q : Addr} {e : Nat × PyData} (h : OI K H q e) (s : Same H H') : OI K H' q e := by
  obtain ⟨u, k, lv, h1, h2, h3⟩ := h
  exact ⟨u, k, lv, s _ _ h1, dpM s h2, h3⟩
def tot2 (ws : List (Nat × PyData)) : Nat := (ws.map fun e => szT e.1 e.2).sum
theorem len_le_tot2 : ∀ ws : List (Nat × PyData), ws.length ≤ tot2 ws
  | [] => Nat.le_refl _
  | e :: ws => by
    have := len_le_tot2 ws
    have := szT_pos e.1 e.2
    unfold tot2 at *
    rw [List.map_cons, List.sum_cons, List.length_cons]
    omega
theorem tot2_app (a b : List (Nat × PyData)) : tot2 (a ++ b) = tot2 a + tot2 b := by
  unfold tot2
  rw [List.map_append, List.sum_append]
def OW (K : PySem.W.Frag) (H : Hp) (v kv : V) (L : Addr) (mm : Nat) (σ : L2.St) (H' : Hp) : Prop := ∃ (o4 o5 o6 o7 : Option V) (many : Int) (ys : List Addr) (ws : List (Nat × PyData)), σ = [some v, some kv, some (.ref L), some (.int many), o4, o5, o6, o7, none, none] ∧ Same H H' ∧ H' L = some (.lst (ys.map V.ref)) ∧ Paired (OI K H') ys ws ∧ tot2 ws ≤ 10000000 ∧ mm = tot2 ws
theorem ok_of {f fH fK fN : Addr} {fd fdH fdK fdN : FuncData} {u40 u200 : Value} (F : Fun K "_is_of_kind" "_is_of_kind" sOK f fd) (m1 : mg "MOST_LEVELS" = some u40) (r1 : RelV (.int 40) u40) (m2 : mg "MOST_SPOTS" = some u200) (r2 : RelV (.int 200) u200)
    (GH : FnOk P w K mg base CX0 4 fH fdH ["value", "kind"] (spHF K)) (mH : mg "_has_form" = some (.ref fH)) (kH : PySem.W.keepIn K (.ref fH) = true) (bH : Binds K fdH ["value", "kind"] [])
    (GK : FnOk P w K mg base CX0 1 fK fdK ["term"] (spKP K)) (mK : mg "kinds_and_parts" = some (.ref fK)) (kK : PySem.W.keepIn K (.ref fK) = true) (bK : Binds K fdK ["term"] [])
    (GN : FnOk P w K mg base CX0 1 fN fdN ["outer", "kind"] spNar) (mN : mg "narrowed" = some (.ref fN)) (kN : PySem.W.keepIn K (.ref fN) = true) (bN : Binds K fdN ["outer", "kind"] [])
    (mLen : mg "len" = none) : FnOk P w K mg base CX0 5 f fd ["value", "kind"] (spOK K) := by
  refine F.ok scOK (fun vs H Q E h => ?_) (fun cdv A outer s H vs Q E hr h => ?_)
  · obtain ⟨v, n, t, k, rfl, _⟩ := h
    rfl
  · obtain ⟨v, n, t, k, rfl, hv, hw, hz, q⟩ := h
    have hr1 : Room 1 _ := hr.mono (show 1 ≤ 4 by omega)
    refine ⟨_, pss_cons (ps_set (i := 2) scOK.nd rfl (Or.inl rfl) (pe_lst (pa_cons (pe_tup (pa_cons (pv 0) (pa_cons (pv 1) (pa_cons pe_int pa_nil)))) pa_nil)))
      (pss_cons (ps_set (i := 3) scOK.nd rfl (Or.inl rfl) pe_int)
      (pss_cons (ps_while PassesOwn.never (pt_truth (pv 2) (by intro _; rfl))
        (pss_cons (ps_asg (pe_bm0 PySem.F.plainAttrs_list PySem.F.slot_list_pop PySem.F.type_list_pop mt_pop (pv 2)) (pg_tup (by rfl) (pgs_cons (pg_name (i := 4) scOK.nd rfl (.inl rfl)) (pgs_cons (pg_name (i := 5) scOK.nd rfl (.inr rfl)) (pgs_cons (pg_name (i := 6) scOK.nd rfl (.inr rfl)) pgs_nil)))))
        (pss_cons (ps_if (PW.pt (pw_or (pt_cmpR op_gt (pv 6) (pe_glob (v := .int 40) (by rfl) m1 r1) (nomark _)) (pw_or1 (pt_not (pt_val (pe_call GH hr (by rfl) mH kH bH .nil pass0 (pa_cons (pv 4) (pa_cons (pv 5) pa_nil)))))))) (pss_one (ps_ret pe_bl)) pss_nil)
        (pss_cons (ps_set (i := 7) scOK.nd rfl (Or.inl rfl) (pe_call GK hr1 (by rfl) mK kK bK .nil pass0 (pa_cons (pv 4) pa_nil)))
        (pss_cons (ps_aug (i := 3) scOK.nd rfl (Or.inl rfl) (pe_callB call_len_seq (by rfl) mLen PySem.boot_len (pa_cons (pv 7) pa_nil)) ip_add)
        (pss_cons (ps_if (pt_cmpR op_gt (pv 3) (pe_glob (v := .int 200) (by rfl) m2 r2) (nomark _)) (pss_one (ps_ret pe_bl)) pss_nil)
        (pss_one (ps_expr (pe_bm PySem.F.plainAttrs_list PySem.F.slot_list_extend PySem.F.type_list_extend mt_extend (pv 2) (pa_cons (pe_lc (own := [("told", 8), ("part", 9)]) (g := gTup K 2 (gCons (gName 8) (gCons (gName 9) gNil))) (te := tTup (tCons (tVar 9) (tCons (tCall spNar [] E0 (tCons (tVar 5) (tCons (tVar 8) tNil))) (tCons (tOp rAdd (tVar 6) (tC (.int 1))) tNil)))) (by rfl) scOK.nd (pi_list (pv 7))
            (blkOk_by (own := [("told", 8), ("part", 9)]) (N := NOK) (sc := defScope sOK) (by decide +kernel)) (fun _ _ _ _ _ => by exact (pg_tup rfl (pgs_cons (by exact (pg_name (i := 8) scOK.nd rfl (Or.inl rfl))) (pgs_cons (by exact (pg_name (i := 9) scOK.nd rfl (Or.inl rfl))) pgs_nil)))) (fun _ _ _ _ _ => pts_nil)
            (fun _ _ _ _ _ => pe_tup (pa_cons (pv 9) (pa_cons (pe_call GN hr1 (by rfl) mN kN bN .nil pass0 (pa_cons (pv 5) (pa_cons (pv 8) pa_nil))) (pa_cons (pe_op op_add (pv 6) pe_int) pa_nil))))) pa_nil))))))))))
      (pss_one (ps_ret pe_bl)))), ?_⟩
    refine ⟨_, rfl, _, rfl, few (by show 3 ≤ 1000; decide), fun T nT => ⟨few (by show 1 ≤ 1000; decide), fun L nL => ?_⟩⟩
    have s1 : Same H (upd (upd H T (.tup [v, .str k, .int 1])) L (.lst [.ref T])) := same_new (same_new same_id nT) nL
    have nTL : T ≠ L := ne_of_none upd_same nL
    have hT1 : (upd (upd H T (.tup [v, .str k, .int 1])) L (.lst [.ref T])) T = some (.tup [v, .str k, .int 1]) := (upd_ne nTL).trans upd_same
    have hL1 : (upd (upd H T (.tup [v, .str k, .int 1])) L (.lst [.ref T])) L = some (.lst ([T].map V.ref)) := upd_same
    have nLH : H L = none := fresh_of (same_new (u := .tup [v, .str k, .int 1]) same_id nT) nL
    generalize upd (upd H T (.tup [v, .str k, .int 1])) L (.lst [.ref T]) = H1 at s1 hT1 hL1 ⊢
    refine ⟨OW K H v (.str k) L, ⟨_, none, none, none, none, 1, [T], [(n, t)], rfl, s1, hL1, .cons ⟨v, k, 1, hT1, dpM s1 hv, hw⟩ .nil, ?_, rfl⟩, ?_⟩
    · unfold tot2
      simp only [List.map_cons, List.map_nil, List.sum_cons, List.sum_nil]
      omega
    rintro mm σ H2 ⟨o4, o5, o6, o7, many, ys, ws, rfl, s2, hL, hys, htot, rfl⟩
    refine ⟨_, rfl, _, .inl ⟨ys.map V.ref, SqL.of hL, rfl⟩, ?_⟩
    rcases List.eq_nil_or_concat ws with rfl | ⟨wi, e, rfl⟩
    · cases hys
      exact iteF (q H2 _ s2)
    rw [List.concat_eq_append] at hys htot ⊢
    obtain ⟨yi, y, rfl, hyi, hy⟩ := paired_snoc hys
    have et : (!((yi ++ [y]).map V.ref).isEmpty) = true := by
      cases yi <;> rfl
    rw [et]
    refine iteT ⟨fun σ' H' => ∃ m', m' < tot2 (wi ++ [e]) ∧ OW K H v (.str k) L m' σ' H', fun _ _ h => h, ?_⟩
    obtain ⟨n1, t1⟩ := e
    obtain ⟨u, k1, lv, hyT, hu1, hwf⟩ := hy
    simp only at hu1 hwf
    cases n1 with
    | zero => cases hwf
    | succ n1 =>
    have hyL : y ≠ L := ne_of hyT hL (by intro z; cases z)
    refine ⟨_, rfl, .inl ⟨rfl, _, SqL.of hL⟩, L, _, .ref y, rfl, rfl, hL, by simp, y, [u, .str k1, .int lv], rfl, SqT.of ((upd_ne hyL).trans hyT), rfl, _, _, rfl, _, _, rfl, _, _, rfl, rfl, ?_⟩
    rw [List.map_append, List.map_singleton, List.dropLast_concat]
    have s3 : Same H (upd H2 L (.lst (yi.map V.ref))) := same_put s2 nLH
    have hL3 : (upd H2 L (.lst (yi.map V.ref))) L = some (.lst (yi.map V.ref)) := upd_same
    have hyi3 : Paired (OI K (upd H2 L (.lst (yi.map V.ref)))) yi wi := L2.Paired.mapP hyi fun _ _ z => z.put hL
    have hu3 := dp_put (zs := yi.map V.ref) hL hu1 (noL_wf hwf)
    generalize upd H2 L (.lst (yi.map V.ref)) = H3 at s3 hL3 hyi3 hu3 ⊢
    have hpw := parts_wf hwf
    refine ⟨_, rfl, _, _, rfl, rfl, _, rfl, ite2 (fun _ => iteT (q H3 _ s3)) (fun _ => ?_)⟩
    refine ⟨_, rfl, _, rfl, u, n1, t1, k1, rfl, hu3, hwf, fun H4 b s34 => ⟨_, rfl, ite2 (fun _ => q H4 _ (s3.trans s34)) (fun _ => ?_)⟩⟩
    refine ⟨_, rfl, u, n1, t1, rfl, dpM s34 hu3, hwf, fun H5 R qs us s45 nR hR hqs hus hlen hkin => ?_⟩
    have s35 : Same H3 H5 := s34.trans s45
    have s05 := s3.trans s35
    have lqs := Paired.length hqs
    have lus := dpl_len hus
    rw [List.length_map] at lus
    refine ⟨_, rfl, _, rfl, R, _, rfl, .inl (SqL.of hR), _, _, rfl, rfl, ?_⟩
    refine ⟨_, rfl, _, _, rfl, rfl, _, rfl, ite2 (fun _ => q H5 _ s05) (fun _ => ?_)⟩
    have hL5 := s35 _ _ hL3
    refine ⟨_, rfl, .inl ⟨rfl, _, SqL.of hL5⟩, _, rfl, R, rfl, ⟨_, SqL.of hR⟩, fun D nD => ?_⟩
    have nDL : L ≠ D := ne_of_none hL5 nD
    have hus5 : DpAll K H5 (us.map (·.2)) (partsOf t1) := dpAllM s45 hus
    refine lc_list (K := K) (a := R) (xs := qs.map V.ref) (fun i H' => ∃ rs : List Addr, Same H5 H' ∧ H' D = some (.lst (rs.map V.ref)) ∧ Paired (OI K H') rs (((partsOf t1).take i).map fun p => (n1, p))) ⟨[], same_new same_id nD, upd_same, .nil⟩ ?_ ?_ ?_
    · rintro i H' _ ⟨rs, s6, _⟩
      exact SqL.of (s6 _ _ hR)
    · rintro i x H' hi ⟨rs, s6, hD, hrs⟩
      rw [List.getElem?_map] at hi
      obtain ⟨q0, hq0, rfl⟩ : ∃ q0, qs[i]? = some q0 ∧ x = .ref q0 := by
        cases e : qs[i]? with
        | none => rw [e] at hi; cases hi
        | some q0 => rw [e] at hi; exact ⟨q0, rfl, (Option.some.inj hi).symm⟩
      obtain ⟨ku, hku, hkp⟩ := paired_get hqs hq0
      obtain ⟨g, hg, hug⟩ := dpl_get hus5 (show (us.map (·.2))[i]? = some ku.2 by rw [List.getElem?_map, hku]; rfl)
      have lrs := Paired.length hrs
      rw [List.length_map, List.length_take] at lrs
      refine ⟨q0, _, rfl, SqT.of (s6 _ _ hkp), rfl, _, _, rfl, _, _, rfl, rfl, rfl, _, rfl, _, rfl, _, rfl, k1, ku.1, rfl, fun H7 y7 s7 => ⟨_, rfl, _, _, rfl, rfl, few (by show 3 ≤ 1000; decide), fun T2 nT2 => ?_⟩⟩
      have hD7 := s7 _ _ hD
      have nDT : D ≠ T2 := ne_of_none hD7 nT2
      refine ⟨rs.map V.ref, (upd_ne nDT).trans hD7, small1000 (by rw [List.length_map]; omega), rs ++ [T2], ?_, by rw [upd_same, List.map_append]; rfl, ?_⟩
      · intro b' o ho
        rw [upd_ne (ne_of_none ho nD), upd_ne (ne_of_none (s7 _ _ (s6 _ _ ho)) nT2)]
        exact s7 _ _ (s6 _ _ ho)
      · rw [List.take_add_one, hg, List.map_append]
        have sn : Same H7 (upd H7 T2 (.tup [ku.2, .str y7, .int (lv + 1)])) := same_new same_id nT2
        refine Paired.snoc (L2.Paired.mapP hrs fun _ _ z => ((z.same s7).same sn).put ((upd_ne nDT).trans hD7)) ?_
        refine OI.put (xs := rs.map V.ref) ⟨ku.2, y7, lv + 1, upd_same, dpM ((s6.trans s7).trans sn) hug, hpw g (List.mem_of_getElem? hg)⟩ ((upd_ne nDT).trans hD7)
    · rintro H6 ⟨rs, s6, hD, hrs⟩
      rw [List.length_map, lqs, lus, List.take_length] at hrs
      have nTt : tot2 ((partsOf t1).map fun p => (n1, p)) = ((partsOf t1).map (szT n1)).sum := by
        unfold tot2
        rw [List.map_map]
        rfl
      have esz : tot2 (wi ++ [(n1 + 1, t1)]) = tot2 (wi ++ (partsOf t1).map fun p => (n1, p)) + 1 := by
        rw [tot2_app, tot2_app, nTt]
        unfold tot2
        simp only [List.map_cons, List.map_nil, List.sum_cons, List.sum_nil, szT]
        omega
      have ll := len_le_tot2 (wi ++ (partsOf t1).map fun p => (n1, p))
      rw [List.length_append, List.length_map] at ll
      have lrs := Paired.length hrs
      rw [List.length_map] at lrs
      have lyi := Paired.length hyi
      have hL6 := s6 _ _ hL5
      refine ⟨L, D, yi.map V.ref, rs.map V.ref, rfl, rfl, hL6, hD, by rw [List.length_map, List.length_map, sizeLine_eq]; omega, ?_⟩
      refine ⟨tot2 (wi ++ (partsOf t1).map fun p => (n1, p)), by omega, _, _, _, _, _, yi ++ rs, wi ++ (partsOf t1).map fun p => (n1, p), rfl, same_put (s05.trans s6) nLH, by rw [upd_same, List.map_append], ?_, by omega, rfl⟩
      exact paired_app (L2.Paired.mapP hyi3 fun _ _ z => (z.same (s35.trans s6)).put hL6) (L2.Paired.mapP hrs fun _ _ z => z.put hL6)
theorem ok_if {f fO : Addr} {fd fdO : FuncData} (F : Fun K "is_filter" "is_filter" sIF f fd) (GO : FnOk P w K mg base CX0 5 fO fdO ["value", "kind"] (spOK K)) (mO : mg "_is_of_kind" = some (.ref fO)) (kO : PySem.W.keepIn K (.ref fO) = true) (bO : Binds K fdO ["value", "kind"] []) : FnOk P w K mg base CX0 6 f fd ["value"] (spIF K) := by
  refine F.ok scIF (fun vs H Q E h => ?_) (fun cdv A outer s H vs Q E hr h => ?_)
  · obtain ⟨v, n, t, rfl, _⟩ := h
    rfl
  · obtain ⟨v, n, t, rfl, hv, hw, hz, q⟩ := h
    refine ⟨_, pss_one (ps_ret (pe_call GO hr (by rfl) mO kO bO .nil pass0 (pa_cons (pv 0) (pa_cons pe_str pa_nil)))), ?_⟩
    exact ⟨_, rfl, v, n, t, "filter", rfl, hv, hw, hz, q⟩
end
end Toy


namespace L2
open PySem PySem.Spec PyProof.Rows
/-! The law's own def, where lambdas are made in it: its code object at c, that one's table at T. -/
def BodyT (P : Program) (w : World) (K : PySem.W.Frag) (mg : Str → Option Value) (base : Heap) (k : Nat) (N : List Str) (qual : Str) (sc : Scope) (body : List Stmt) (f c : Addr) (sp : Sp) : Prop :=
  ∀ (s : Shared) (H : Hp) (vs : List V) (Q : VK) (E : XK), Room k (callerA.deeper (envOfC qual sc s.heap.objs.size f (.ref c))) → sp vs H Q E →
    ∃ t, PSs (cxOf CX0 P w K mg base N qual sc f (.ref c) callerA [] s H E) body t ∧ t { nx := fun _ H' => Q .non H', rt := Q } (start N vs) H
section
variable {P : Program} {w : World} {K : PySem.W.Frag} {mg : Str → Option Value} {base : Heap} {k : Nat} {f c : Addr} {x qual : Str} {params : Arguments} {body : List Stmt} {sc : Scope} {N ps : List Str} {sp : Sp} {fd : FuncData}
theorem body_runT (F : FunD K x qual params body sc [] [] f fd) (hcd0 : fd.code = .ref c) (S : FnScope N ps sc) (B : BodyT P w K mg base k N qual sc body f c sp) {s : Shared} {H : Hp} {args : Args} {us : List Value} {vs : List V} {Q : VK} {E : XK} (hr : Room (k + 1) callerA)
    (e0 : Env0 P w K mg base callerA [] s H) (hb : BindsTo s fd args (ps.zip us)) (r : Vals vs us) (hl : vs.length = ps.length) (h : sp vs H Q E) : codeAny (model P w) callerA (.call (.ref f) args) (CR CX0 [] P w H s Q E) s := by
  obtain ⟨oc, od, dV, kV, doc, pm, an, cdv, ct, osl, rfl, lk, hcd, _, _⟩ := F.ex
  obtain rfl : cdv = .ref c := hcd0
  have up : ∀ b o, base.get? b = some o → s.heap.get? b = some o := fun b o e => (e0.bs b o e).1
  have KX : K.In s.heap := e0.mod.kin.keeps up
  have kinds : ∀ y ∈ ps.zip us, sc.names.lookup y.1 = some .local ∨ (sc.names.lookup y.1 = some .cell ∧ ((cellsFrom (s.heap.objs.size + 1) sc.names []).lookup y.1).isSome = true) := by
    rintro ⟨n, v⟩ hy
    exact (S.par n (List.of_mem_zip hy).1).imp id fun q => ⟨q, PySem.W.cellsFrom_some _ _ _ (.inl q)⟩
  refine codeAny_call_function hr.depth (KX _ _ lk) rfl S.co S.gen rfl (PySem.W.codeRec_of KX hcd) (hb _ _ _ _ (wpAny_newFunctionEnv_cells S.kind kinds fun env he s1 x => ?_))
  subst he
  obtain ⟨t, ht, hq⟩ := B s H vs Q E (hr.deeper _) h
  refine ⟨(e0.mod.nolimit.keeps up).keeps x.toInCall.keep, codeAny_func (wpAny_mono (ht.run [] s1 (start N vs) H _ (inv_start S hr.hd e0 hl r x) hq) (fun fl s' hs => ?_) fun e s' hs => hs)⟩
  cases fl with
  | ret u =>
    obtain ⟨v, σ', H', J, rv, q⟩ := hs
    exact ⟨v, H', J.os, J.bare, J.base, J.hok, rv, q⟩
  | next =>
    obtain ⟨σ', H', J, q⟩ := hs
    exact ⟨V.non, H', J.os, J.bare, J.base, J.hok, rfl, q⟩
  | brk =>
    obtain ⟨_, _, _, q⟩ := hs
    exact False.elim q
  | cont =>
    obtain ⟨_, _, _, q⟩ := hs
    exact False.elim q
end
section
variable {P : Program} {w : World} {K : PySem.W.Frag} {mg mb : Str → Option Value} {k : Nat} {a fa c T : Addr} {x qual nm : Str} {params : Arguments} {body : List Stmt} {sc : Scope} {N : List Str} {sp : Sp} {fd : FuncData} {s : Shared} {vs : List Value} {ns : List Int}
/-- where the abstract heap tracks the script (or not) and the table -/
theorem groundT {H : Hp} (KX : K.In s.heap) (g : s.heap.Ns mainGlobals mg) (b : s.heap.Ns builtinsNs mb) (bb : ∀ x : Str, x ≠ "__name__" → mb x = bootBuiltins x) (lim : s.heap.NoLimit) (gen : s.gens = #[])
    (hT : s.heap.get? T = some { cls := .none, data := .fields #[] }) (nT : K.lookup T = none) (C : PySem.W.CodeHd s.heap c T) (bmain : s.heap.BuiltinsAt mg T)
    (ha : s.heap.get? a = some { cls := .type "list", data := .seq vs.toArray }) (hok : HOk P w H s.heap) (only : ∀ z, H z ≠ none → z = a ∨ z = T) (out : H a ≠ none → K.lookup a = none) :
    ∃ base : Heap, K.In base ∧ base.Ns mainGlobals mg ∧ Env0 P w K mg base callerA [] s H ∧ LamX.TabB base mg c T := by
  have free : ∀ {z : Addr} {o : Obj}, s.heap.get? z = some o → (∀ xs n, o.data ≠ .seq xs n) → o.data ≠ .fields #[] → H z = none := fun {z o} e h1 h2 => Classical.byContradiction fun q => by
    rcases only z q with rfl | rfl
    · rw [ha] at e
      cases e
      exact h1 _ _ rfl
    · rw [hT] at e
      cases e
      exact h2 rfl
  have tab : ∀ {z : Addr} {m : Str → Option Value}, s.heap.Ns z m → (hidT s.heap H).Ns z m := by
    rintro z m ⟨o, es, ep, e, d, r⟩
    exact ⟨o, es, ep, hidT_get e (free e (fun xs n q => by rw [d] at q; cases q) (fun q => by rw [d] at q; cases q)), d, r⟩
  have kin : K.In (hidT s.heap H) := fun z o e => hidT_get (KX z o e) (Classical.byContradiction fun q => by
    rcases only z q with rfl | rfl
    · rw [out q] at e
      cases e
    · rw [nT] at e
      cases e)
  obtain ⟨mc, l1, l2⟩ := lim
  refine ⟨hidT s.heap H, kin, tab g, ⟨rfl, ⟨kin, tab g, ⟨mb, tab b, bb⟩, mc, tab l1, l2⟩, fun z o e => of_hidT e, Nat.le_of_eq (hidT_size _ _), trivial, (fun z hz => nomatch hz), hok, .of_eq gen⟩, ?_⟩
  refine ⟨?_, ?_, ?_⟩
  · obtain ⟨o, us, file, tf, flags, tg, inF, text, tt, e1, r1, r2, r3, rest⟩ := C
    exact ⟨o, us, file, tf, flags, tg, inF, text, tt, hidT_get e1 (free e1 (fun xs n q => by rw [r2] at q; cases q) (fun q => by
      rw [r2] at q
      cases q
      simp at r3)), r1, r2, r3, rest⟩
  · obtain ⟨bm, ob, b1, b2, b3, b4, b5, b6, b7, b8⟩ := bmain
    exact ⟨bm, ob, b1, b2, b3, b4, hidT_get b5 (free b5 (fun xs n q => by rw [b8] at q; cases q) (fun q => by rw [b8] at q; cases q)), b6, b7, b8⟩
  · intro q
    obtain ⟨o, es, ep, e, d, _⟩ := g
    rw [q, hT] at e
    cases e
    cases d
theorem law_runT (F : FunD K nm qual params body sc [] [] fa fd) (hcd0 : fd.code = .ref c) (S : FnScope N [x] sc) (B : ∀ base : Heap, K.In base → base.Ns mainGlobals mg → LamX.TabB base mg c T → BodyT P w K mg base k N qual sc body fa c sp) (hb : ∀ (s : Shared) (u : Value), BindsTo s fd ⟨[u], []⟩ [(x, u)]) (hr : Room (k + 1) callerA)
    (hsp : ∀ H : Hp, H T = some (.tbl #[]) → SqL K H a (ns.map V.int) → sp [.ref a] H (fun v _ => v = .bl true) fun _ _ _ => False)
    (KX : K.In s.heap) (g : s.heap.Ns mainGlobals mg) (b : s.heap.Ns builtinsNs mb) (bb : ∀ x : Str, x ≠ "__name__" → mb x = bootBuiltins x) (lim : s.heap.NoLimit) (gen : s.gens = #[])
    (hT : s.heap.get? T = some { cls := .none, data := .fields #[] }) (nT : K.lookup T = none) (C : PySem.W.CodeHd s.heap c T) (bmain : s.heap.BuiltinsAt mg T)
    (ha : s.heap.get? a = some { cls := .type "list", data := .seq vs.toArray }) (hi : IntsAre vs ns) (hl : ns.length ≤ sizeLine) :
    codeAny (model P w) callerA (.call (.ref fa) ⟨[.ref a], []⟩) (fun r s' => r = .ok (.ret (.bool true)) ∧ OldK s.heap s'.heap ∧ s'.os = s.os ∧ AllBare s'.gens) s := by
  have aT : a ≠ T := fun q => by
    rw [q, hT] at ha
    cases ha
  have run : ∀ H : Hp, H T = some (.tbl #[]) → SqL K H a (ns.map V.int) → HOk P w H s.heap → (∀ z, H z ≠ none → z = a ∨ z = T) → (H a ≠ none → K.lookup a = none) → (∀ z u, z ≠ T → H z = some u → ∃ o xs, u = .frz o (.lst xs)) →
      codeAny (model P w) callerA (.call (.ref fa) ⟨[.ref a], []⟩) (fun r s' => r = .ok (.ret (.bool true)) ∧ OldK s.heap s'.heap ∧ s'.os = s.os ∧ AllBare s'.gens) s := by
    intro H tT hS hok only out frz
    obtain ⟨base, k1, k2, e0, tb⟩ := groundT KX g b bb lim gen hT nT C bmain ha hok only out
    refine codeAny_mono (body_runT (us := [.ref a]) (vs := [.ref a]) F hcd0 S (B base k1 k2 tb) hr e0 (hb s (.ref a)) (.cons rfl .nil) rfl (hsp H tT hS)) fun r s' q => ?_
    cases r with
    | error e => exact False.elim q
    | ok fl =>
      cases fl with
      | next => exact False.elim q
      | brk => exact False.elim q
      | cont => exact False.elim q
      | ret u =>
        obtain ⟨v, H', os, bare, un, hok', rv, ev⟩ := q
        have ev' : v = .bl true := ev
        subst ev'
        obtain rfl : u = Value.bool true := rv
        have stays : ∀ z o, z ≠ T → s.heap.get? z = some o → s'.heap.get? z = some o := fun z o nz e => by
          cases q : H z with
          | none => exact un.keep z o e q (fun y => nomatch y) (fun y => nomatch y)
          | some u =>
            obtain ⟨ob, xs, rfl⟩ := frz z u nz q
            obtain ⟨e1, _⟩ := hok z _ q
            obtain ⟨e2, _⟩ := hok' z _ (un.frzs z ob _ q)
            rw [e] at e1
            cases e1
            exact e2
        obtain ⟨more, hm⟩ := un.tbls T #[] tT
        have gT : s'.heap.get? T = some { cls := .none, data := .fields (#[] ++ more) } := hok' T _ hm
        refine ⟨rfl, ⟨fun z o e => ?_, fun z o e => ?_⟩, os, bare⟩
        · by_cases hz : z = T
          · subst hz
            rw [hT] at e
            cases e
            exact .inr (.inl ⟨(C.tab hT).isCodeTable, rfl, #[], more, rfl, gT⟩)
          · exact .inl (stays z o hz e)
        · by_cases hz : z = T
          · subst hz
            exact ⟨_, gT⟩
          · exact ⟨o, stays z o hz e⟩
  have rv := vals_ints hi
  cases hk : K.lookup a with
  | some o =>
    have e := KX a o hk
    rw [ha] at e
    cases e
    refine run (fun z => if z = T then some (.tbl #[]) else none) (if_pos rfl) (.inr ⟨_, vs.toArray, _, hk, rfl, rfl, rfl, by rw [List.size_toArray, hi.length]; exact hl, by simpa using rv⟩) (fun z u q => ?_) (fun z q => .inr (Classical.byContradiction fun n => q (if_neg n))) (fun q => absurd (if_neg aT) q) fun z u nz q => ?_
    · by_cases hz : z = T
      · cases (if_pos hz).symm.trans q
        subst hz
        exact hT
      · cases (if_neg hz).symm.trans q
    · cases (if_neg nz).symm.trans q
  | none =>
    refine run (fun z => if z = T then some (.tbl #[]) else if z = a then some (.frz { cls := .type "list", data := .seq vs.toArray } (.lst (ns.map V.int))) else none) (if_pos rfl) (.inl (.inr ⟨{ cls := .type "list", data := .seq vs.toArray }, (if_neg aT).trans (if_pos rfl)⟩)) (fun z u q => ?_)
      (fun z q => ?_) (fun _ => hk) fun z u nz q => ?_
    · by_cases hz : z = T
      · cases (if_pos hz).symm.trans q
        subst hz
        exact hT
      · have q1 := (if_neg hz).symm.trans q
        by_cases hc : z = a
        · cases (if_pos hc).symm.trans q1
          subst hc
          exact ⟨ha, by rw [List.length_map]; exact hl, vs, _, rv, ha⟩
        · cases (if_neg hc).symm.trans q1
    · by_cases hz : z = T
      · exact .inr hz
      · by_cases hc : z = a
        · exact .inl hc
        · exact absurd ((if_neg hz).trans (if_neg hc)) q
    · have q1 := (if_neg nz).symm.trans q
      by_cases hc : z = a
      · cases (if_pos hc).symm.trans q1
        exact ⟨_, _, rfl⟩
      · cases (if_neg hc).symm.trans q1
end
/-- the end -/
theorem walkT {l : PySem.W.OpenLaw} {n k : Nat} {q : Program} {loose : List Str} {XP : (Str → Option Value) → Heap → Prop} {YP : World → Heap → Prop} {d : DefRec} {x : Str} (hn : l.most = some n) (hn2 : n ≤ sizeLine) (hdf : d.params.defaults = []) (hr : Room (k + 1) callerA)
    (F : ∀ (w : World) (mg : Str → Option Value) (fa : Addr) (h : Heap), YP w h → h.Ns mainGlobals mg → mg d.name = some (.ref fa) →
      ∃ (K : PySem.W.Frag) (fd : FuncData) (nm qual : Str) (params : Arguments) (body : List Stmt) (sc : Scope) (N : List Str) (sp : Sp) (c T : Addr), K.In h ∧ FunD K nm qual params body sc [] [] fa fd ∧ fd.code = .ref c ∧ FnScope N [x] sc ∧ (∀ (s : Shared) (u : Value), BindsTo s fd ⟨[u], []⟩ [(x, u)]) ∧
        h.get? T = some { cls := .none, data := .fields #[] } ∧ K.lookup T = none ∧ PySem.W.CodeHd h c T ∧
        (∀ (H : Hp) (a : Addr) (ns : List Int), ns.length ≤ n → H T = some (.tbl #[]) → SqL K H a (ns.map V.int) → sp [.ref a] H (fun v _ => v = .bl true) fun _ _ _ => False) ∧
        ∀ base : Heap, K.In base → base.Ns mainGlobals mg → LamX.TabB base mg c T → BodyT l.prog w K mg base k N qual sc body fa c sp) :
    PySem.W.WalkO q loose XP YP l.row.toRowW d [] (fun f vs => PySem.call f vs) := by
  refine Att.attach_call hn hdf fun w s₀ s₁ mg mb fa o pm cd doc a vs ns G Y ho hd hcd hmg hobj hints hlen hg => ?_
  obtain ⟨K, fd, nm, qual, params, body, sc, N, sp, c, T, KX, FD, hc, S, hb, hT, nT, C, hsp, B⟩ := F w mg fa _ Y G.T.g hmg
  have bmain : s₁.heap.BuiltinsAt mg T := by
    obtain ⟨bm, ob, b1, b2, b3, b4, b5, b6⟩ := G.T.bmain
    refine ⟨bm, ob, b1, b2, fun z => ?_, fun z => ?_, b3, b4, b5, b6⟩
    · obtain ⟨o, es, ep, e, dd, _⟩ := G.T.g
      rw [z, e] at b3
      cases b3
      rw [dd] at b6
      cases b6
    · rw [z, hT] at b3
      cases b3
      cases b6
  exact law_runT FD hc S B hb hr (fun H tT hS => hsp H a ns hlen tT hS) KX G.T.g G.T.b G.T.builtins G.T.nolimit hg hT nT C bmain hobj hints (Nat.le_trans hlen hn2)
end L2


namespace Toy
open PySem PySem.Spec L2 PyProof.Rows PySem.W
/-! ### what stands while lambdas are made and tapes are drawn from -/
/-- all but dicts and tables stay -/
def OffN (H H' : Hp) : Prop := ∀ b o, H b = some o → (∀ m, o ≠ .dK m) → (∀ ps, o ≠ .tbl ps) → H' b = some o
theorem OffN.refl {H : Hp} : OffN H H := fun _ _ h _ _ => h
theorem OffN.trans {H H1 H2 : Hp} (a : OffN H H1) (b : OffN H1 H2) : OffN H H2 := fun c o h n m => b c o (a c o h n m) n m
theorem OffN.same {H H' : Hp} (s : Same H H') : OffN H H' := fun b o h _ _ => s b o h
theorem OffN.ext {H H' : Hp} (s : LamX.ExtN H H') : OffN H H' := fun b o h _ m => s b o h m
theorem OffN.but {d : Addr} {H H' : Hp} {m : List (Key × V)} (hd : H d = some (.dK m)) (s : But d H H') : OffN H H' := fun b o h n _ => by
  by_cases e : b = d
  · subst e
    rw [hd] at h
    cases h
    exact absurd rfl (n m)
  · exact s b o e h
theorem OffN.tup {H H' : Hp} {a : Addr} {xs : List V} (s : OffN H H') (h : H a = some (.tup xs)) : H' a = some (.tup xs) := s _ _ h (fun _ z => by cases z) (fun _ z => by cases z)
theorem OffN.lst {H H' : Hp} {a : Addr} {xs : List V} (s : OffN H H') (h : H a = some (.lst xs)) : H' a = some (.lst xs) := s _ _ h (fun _ z => by cases z) (fun _ z => by cases z)
theorem OffN.seqT {K : PySem.W.Frag} {H H' : Hp} {a : Addr} {xs : List V} (s : OffN H H') (h : SqT K H a xs) : SqT K H' a xs := by
  rcases h with (h | ⟨o, h⟩) | h
  · exact .inl (.inl (s.tup h))
  · exact .inl (.inr ⟨o, s _ _ h (fun _ z => by cases z) (fun _ z => by cases z)⟩)
  · exact .inr h
theorem OffN.seqL {K : PySem.W.Frag} {H H' : Hp} {a : Addr} {xs : List V} (s : OffN H H') (h : SqL K H a xs) : SqL K H' a xs := by
  rcases h with (h | ⟨o, h⟩) | h
  · exact .inl (.inl (s.lst h))
  · exact .inl (.inr ⟨o, s _ _ h (fun _ z => by cases z) (fun _ z => by cases z)⟩)
  · exact .inr h
mutual
theorem dpO {K : PySem.W.Frag} {H H' : Hp} (s : OffN H H') : ∀ {v : V} {d : PyData}, Dp K H v d → Dp K H' v d
  | _, _, .non => .non
  | _, _, .bl b => .bl b
  | _, _, .int i => .int i
  | _, _, .str x => .str x
  | _, _, .lst h a => .lst (s.seqL h) (dpsO s a)
  | _, _, .tup h a => .tup (s.seqT h) (dpsO s a)
theorem dpsO {K : PySem.W.Frag} {H H' : Hp} (s : OffN H H') : ∀ {vs : List V} {ds : List PyData}, DpAll K H vs ds → DpAll K H' vs ds
  | _, _, .nil => .nil
  | _, _, .cons a b => .cons (dpO s a) (dpsO s b)
end
mutual
theorem sdE {K : PySem.W.Frag} {H H' : Hp} (s : LamX.ExtN H H') : ∀ {v : V} {d : PyData}, Sd K H v d → Sd K H' v d
  | _, _, .non => .non
  | _, _, .bl b => .bl b
  | _, _, .int i => .int i
  | _, _, .str x => .str x
  | _, _, .tup h a => .tup ((OffN.ext s).seqT h) (sdsE s a)
  | _, _, .dct h a => .dct (s _ _ h fun _ z => by cases z) a
theorem sdsE {K : PySem.W.Frag} {H H' : Hp} (s : LamX.ExtN H H') : ∀ {vs : List V} {ds : List PyData}, SdAll K H vs ds → SdAll K H' vs ds
  | _, _, .nil => .nil
  | _, _, .cons a b => .cons (sdE s a) (sdsE s b)
end
theorem RowA.off {K : PySem.W.Frag} {H H' : Hp} {v : V} {r : RowS} (h : RowA K H v r) (s : OffN H H') : RowA K H' v r := by
  obtain ⟨q, a, u, h1, h2, h3, h4⟩ := h
  exact ⟨q, a, u, h1, s.tup h2, s.seqT h3, dpO s h4⟩
theorem Tape.ext {H H' : Hp} {d l : Addr} {n : Nat} (t : Tape H d l n) (s : LamX.ExtN H H') : Tape H' d l n := by
  obtain ⟨ns, a, f, h1, h2, h3⟩ := t
  exact ⟨ns, a, f, s _ _ h1 (fun _ z => by cases z), s _ _ h2 (fun _ z => by cases z), h3⟩
theorem Tape.dk {H : Hp} {d l : Addr} {n : Nat} (t : Tape H d l n) : ∃ m, H d = some (.dK m) := by
  obtain ⟨ns, a, f, h1, _⟩ := t
  exact ⟨_, h1⟩
theorem dp_ty {K : PySem.W.Frag} {H : Hp} {v : V} {d : PyData} (h : Dp K H v d) : ∃ k : String, Ty K H v k := by
  cases h with
  | non => exact ⟨_, .non⟩
  | bl b => exact ⟨_, .bl b⟩
  | int i => exact ⟨_, .int i⟩
  | str x => exact ⟨_, .str x⟩
  | lst h _ => exact ⟨_, .lst h⟩
  | tup h _ => exact ⟨_, .tup h⟩
theorem sd_ty {K : PySem.W.Frag} {H : Hp} {v : V} {d : PyData} (h : Sd K H v d) : ∃ k : String, Ty K H v k := by
  cases h with
  | non => exact ⟨_, .non⟩
  | bl b => exact ⟨_, .bl b⟩
  | int i => exact ⟨_, .int i⟩
  | str x => exact ⟨_, .str x⟩
  | tup h _ => exact ⟨_, .tup h⟩
  | dct h _ => exact ⟨_, .dct h⟩
theorem dps_ty {K : PySem.W.Frag} {H : Hp} : ∀ {vs : List V} {ds : List PyData}, DpAll K H vs ds → ∀ u ∈ vs, ∃ k : String, Ty K H u k
  | _, _, .nil, _, h => by cases h
  | _, _, .cons a b, u, h => by
    rcases List.mem_cons.mp h with rfl | h
    · exact dp_ty a
    · exact dps_ty b u h
theorem sds_ty {K : PySem.W.Frag} {H : Hp} : ∀ {vs : List V} {ds : List PyData}, SdAll K H vs ds → ∀ u ∈ vs, ∃ k : String, Ty K H u k
  | _, _, .nil, _, h => by cases h
  | _, _, .cons a b, u, h => by
    rcases List.mem_cons.mp h with rfl | h
    · exact sd_ty a
    · exact sds_ty b u h
theorem dps_len {K : PySem.W.Frag} {H : Hp} : ∀ {vs : List V} {ds : List PyData}, DpAll K H vs ds → vs.length = ds.length
  | _, _, .nil => rfl
  | _, _, .cons _ b => by rw [List.length_cons, List.length_cons, dps_len b]
theorem sds_len {K : PySem.W.Frag} {H : Hp} : ∀ {vs : List V} {ds : List PyData}, SdAll K H vs ds → vs.length = ds.length
  | _, _, .nil => rfl
  | _, _, .cons _ b => by rw [List.length_cons, List.length_cons, sds_len b]
/-- numbers as data -/
def natD (ns : List Nat) : PyData := .tuple (ns.map fun i => .int (i : Nat))
theorem dps_nat {K : PySem.W.Frag} {H : Hp} : ∀ {ns : List Nat} {ds : List PyData}, DpAll K H (ns.map natV) ds → ds = ns.map fun (i : Nat) => PyData.int (i : Nat)
  | [], _, h => by cases h; rfl
  | n :: ns, _, h => by
    cases h with
    | cons a b =>
      cases a
      rw [dps_nat b]
      rfl
theorem sds_nat {K : PySem.W.Frag} {H : Hp} : ∀ {ns : List Nat} {ds : List PyData}, SdAll K H (ns.map natV) ds → ds = ns.map fun (i : Nat) => PyData.int (i : Nat)
  | [], _, h => by cases h; rfl
  | n :: ns, _, h => by
    cases h with
    | cons a b =>
      cases a
      rw [sds_nat b]
      rfl
theorem dps_of_nat {K : PySem.W.Frag} {H : Hp} : ∀ ns : List Nat, DpAll K H (ns.map natV) (ns.map fun (i : Nat) => PyData.int (i : Nat))
  | [] => .nil
  | n :: ns => .cons (.int _) (dps_of_nat ns)
theorem sds_of_nat {K : PySem.W.Frag} {H : Hp} : ∀ ns : List Nat, SdAll K H (ns.map natV) (ns.map fun (i : Nat) => PyData.int (i : Nat))
  | [] => .nil
  | n :: ns => .cons (.int _) (sds_of_nat ns)
theorem sds_app {K : PySem.W.Frag} {H : Hp} : ∀ {vs us : List V} {ds es : List PyData}, SdAll K H vs ds → SdAll K H us es → SdAll K H (vs ++ us) (ds ++ es)
  | _, _, _, _, .nil, r => r
  | _, _, _, _, .cons a b, r => .cons a (sds_app b r)
/-! what is known of the rows -/
theorem kidsG_mem (f : PyData → List Nat → List RowS) (s : List Nat) : ∀ {ps : List PyData} {j i : Nat} {p : PyData} {r : RowS}, ps[i]? = some p → r ∈ f p (s ++ [j + i]) → r ∈ kidsG f s j ps
  | q :: ps, j, 0, p, r, h, hr => by
    cases h
    rw [kidsG]
    exact List.mem_append_left _ hr
  | q :: ps, j, i + 1, p, r, h, hr => by
    rw [kidsG]
    refine List.mem_append_right _ (kidsG_mem f s (i := i) (by simpa using h) ?_)
    rw [show j + 1 + i = j + (i + 1) by omega]
    exact hr
  | [], _, _, _, _, h, _ => by simp at h
theorem kidsG_of (f : PyData → List Nat → List RowS) (s : List Nat) : ∀ {ps : List PyData} {j : Nat} {r : RowS}, r ∈ kidsG f s j ps → ∃ i p, ps[i]? = some p ∧ r ∈ f p (s ++ [j + i])
  | [], _, _, h => by simp [kidsG] at h
  | q :: ps, j, r, h => by
    rw [kidsG] at h
    rcases List.mem_append.mp h with h | h
    · exact ⟨0, q, rfl, h⟩
    · obtain ⟨i, p, h1, h2⟩ := kidsG_of f s h
      exact ⟨i + 1, p, by simpa using h1, by rw [show j + (i + 1) = j + 1 + i by omega]; exact h2⟩
/-- a spot that leads to a part is in the rows -/
theorem allS_has : ∀ {n : Nat} {t : PyData} {s ns : List Nat} {u : PyData}, wf n t = true → atT t ns = some u → (s ++ ns, u) ∈ allS n t s
  | 0, _, _, _, _, h, _ => by cases h
  | n + 1, t, s, [], u, h, e => by
    cases e
    rw [allS, List.append_nil]
    exact List.mem_cons_self
  | n + 1, t, s, k :: ns, u, h, e => by
    rw [atT] at e
    cases hp : (partsOf t)[k]? with
    | none => rw [hp] at e; cases e
    | some p =>
      rw [hp] at e
      rw [allS]
      refine List.mem_cons_of_mem _ (kidsG_mem (allS n) s (j := 0) hp ?_)
      have := allS_has (s := s ++ [0 + k]) (parts_wf h p (List.mem_of_getElem? hp)) e
      rw [Nat.zero_add] at this ⊢
      rw [List.append_assoc] at this
      exact this
/-- each row's spot leads to its part -/
theorem allS_at : ∀ {n : Nat} {t : PyData} {s : List Nat} {r : RowS}, wf n t = true → r ∈ allS n t s → ∃ ns, r.1 = s ++ ns ∧ atT t ns = some r.2 ∧ ns.length < n ∧ (∀ k ∈ ns, k < 3)
  | 0, _, _, _, h, _ => by cases h
  | n + 1, t, s, r, h, hr => by
    rw [allS] at hr
    rcases List.mem_cons.mp hr with rfl | hr
    · exact ⟨[], by simp, rfl, Nat.succ_pos n, fun _ h => by cases h⟩
    · obtain ⟨i, p, h1, h2⟩ := kidsG_of (allS n) s hr
      obtain ⟨ns, h3, h4, h5, h6⟩ := allS_at (parts_wf h p (List.mem_of_getElem? h1)) h2
      refine ⟨i :: ns, by rw [h3, Nat.zero_add, List.append_assoc]; rfl, by rw [atT, h1]; exact h4, by rw [List.length_cons]; omega, fun k hk => ?_⟩
      rcases List.mem_cons.mp hk with rfl | hk
      · have := (List.getElem?_eq_some_iff.mp h1).1
        have := parts_len h
        omega
      · exact h6 k hk
theorem steps_atT : ∀ {ns : List Nat} {t : PyData} {ps : List PyData}, stepsV t (ns.map natV) = some ps → atT t ns = some (lastT t ps)
  | [], t, ps, h => by cases h; rfl
  | k :: ns, t, ps, h => by
    rw [List.map_cons, stepsV, stepV_nat] at h
    rw [atT]
    cases h1 : (partsOf t)[k]? with
    | none => rw [h1] at h; cases h
    | some p =>
      rw [h1] at h
      cases h2 : stepsV p (ns.map natV) with
      | none => simp only [h2] at h; cases h
      | some qs =>
        simp only [h2] at h
        cases h
        exact steps_atT h2
theorem steps_of_at : ∀ {ns : List Nat} {t u : PyData}, atT t ns = some u → ∃ ps, stepsV t (ns.map natV) = some ps ∧ lastT t ps = u
  | [], t, u, h => by cases h; exact ⟨[], rfl, rfl⟩
  | k :: ns, t, u, h => by
    rw [atT] at h
    rw [List.map_cons, stepsV, stepV_nat]
    cases h1 : (partsOf t)[k]? with
    | none => rw [h1] at h; cases h
    | some p =>
      rw [h1] at h
      obtain ⟨ps, h2, h3⟩ := steps_of_at h
      exact ⟨p :: ps, by simp only [h2], h3⟩
/-! lengths of what is shown -/
theorem shown_tup (xs : List PyData) : (PyData.shown (.tuple xs)).length ≤ 3 + (xs.map fun d => d.shown.length + 2).sum := by
  show (tupleText (PyData.shownAll xs)).length ≤ _
  have h1 : ∀ xs : List PyData, ((PyData.shownAll xs).map fun t => t.length + 2).sum = (xs.map fun d => d.shown.length + 2).sum := by
    intro xs
    induction xs with
    | nil => rfl
    | cons x xs ih => rw [PyData.shownAll, List.map_cons, List.sum_cons, List.map_cons, List.sum_cons, ih]
  unfold tupleText
  rw [strLen_append, strLen_append]
  have e1 : (("(" : String) : Str).length = 1 := rfl
  have e2 : ((if (PyData.shownAll xs).length == 1 then ",)" else ")" : String) : Str).length ≤ 2 := by
    split
    · exact Nat.le_refl 2
    · exact (by decide : 1 ≤ 2)
  cases xs with
  | nil =>
    have e3 : (Str.join ", " (PyData.shownAll [])).length = 0 := rfl
    omega
  | cons x xs =>
    have h2 := join_length_add (PyData.shownAll (x :: xs)) (by simp [PyData.shownAll])
    rw [piled_eq, h1] at h2
    omega
theorem fit_nat3 {k : Nat} (h : k < 3) : Fit (.int (k : Nat)) 0 1 := by
  match k, h with
  | 0, _ => exact ⟨by decide +kernel, Nat.zero_le _, by decide +kernel⟩
  | 1, _ => exact ⟨by decide +kernel, Nat.zero_le _, by decide +kernel⟩
  | 2, _ => exact ⟨by decide +kernel, Nat.zero_le _, by decide +kernel⟩
theorem fit_spot {ns : List Nat} (h : ∀ k ∈ ns, k < 3) (l : ns.length ≤ 8) : Fit (natD ns) 1 27 := by
  have h1 := fitL_all (a := 0) (b := 1) (ds := ns.map fun (i : Nat) => PyData.int (i : Nat)) fun d hd => by
    obtain ⟨k, hk, rfl⟩ := List.mem_map.mp hd
    exact fit_nat3 (h k hk)
  refine (fit_tup h1).mono (Nat.le_refl _) ?_
  rw [List.length_map]
  omega
end Toy


namespace Toy
open PySem PySem.Spec L2 PyProof.Rows PySem.W
/-! ### the law's own def -/
abbrev sLaw : Stmt := top 66
abbrev NLw : List Str := ["_law_script", "_law_tape", "_law_turn", "_law_keys", "_law_x", "_law_rows", "_law_row", "_law_again", "_law_seat", "_law_part", "_law_other", "_law_due", "_law_bad"]
theorem no_pass {P : Program} {w : World} {X : Cx} : Passes (CX P w) X E0 := fun _ _ _ _ _ _ _ h => by
  obtain ⟨a, B, H', cls, d, z1, fl, z2, ub, z3, z4, z5, z6⟩ := h
  exact z6.elim
theorem scLw : FnScope NLw ["_law_script"] (defScope sLaw) := ⟨rfl, rfl, rfl, by decide +kernel, rfl, by decide +kernel, by decide +kernel⟩
def qLam : Str := ("law" : Str) ++ ".<locals>." ++ "<lambda>"
structure LawT (mg : Str → Option Value) : Prop where
  len : mg "len" = none
  range : mg "range" = none
  min : mg "min" = none
  repr : mg "repr" = none
  list : mg "list" = none
  isi : mg "isinstance" = none
  lke : mg "LookupError" = none
def spLawT (K : PySem.W.Frag) (T : Addr) : Sp := fun vs H Q _ => ∃ (a : Addr) (ns : List Int), vs = [.ref a] ∧ SqL K H a (ns.map V.int) ∧ ns.length ≤ 63 ∧ H T = some (.tbl #[]) ∧ ∀ H', Q (.bl true) H'
def keys3 : List Str := ["a", "b", "zz"]
theorem keys3_ok : KeysOk keys3 := ⟨by decide, by decide, by decide +kernel⟩
/-! what is known in the middle of a turn -/
structure Fx (K : PySem.W.Frag) (d l kp R T : Addr) (vx : V) (tx : PyData) (us : List V) (n : Nat) (H : Hp) : Prop where
  tape : Tape H d l n
  tabs : LamX.Tabs [(T, qLam)] H
  hx : Dp K H vx tx
  hk : H kp = some (.lst (keys3.map V.str))
  hR : H R = some (.lst us)
  rows : Paired (RowA K H) us (allS 7 tx [])
section
variable {K : PySem.W.Frag} {d l kp R T : Addr} {vx : V} {tx : PyData} {us : List V} {n n' : Nat} {H H' : Hp}
theorem Fx.off (h : Fx K d l kp R T vx tx us n H) (s : OffN H H') (t : Tape H' d l n') (tb : LamX.Tabs [(T, qLam)] H') : Fx K d l kp R T vx tx us n' H' :=
  ⟨t, tb, dpO s h.hx, s.lst h.hk, s.lst h.hR, L2.Paired.mapP h.rows fun _ _ z => z.off s⟩
theorem tabs_same (h : LamX.Tabs [(T, qLam)] H) (s : Same H H') : LamX.Tabs [(T, qLam)] H' := fun p hp => (h p hp).ext s
theorem tabs_but {m : List (Key × V)} (h : LamX.Tabs [(T, qLam)] H) (hd : H d = some (.dK m)) (s : But d H H') : LamX.Tabs [(T, qLam)] H' := fun p hp => by
  obtain ⟨ps, h1, h2, h3⟩ := h p hp
  refine ⟨ps, s _ _ (ne_of h1 hd (by intro z; cases z)) h1, h2, fun pos cv e => ?_⟩
  obtain ⟨c, h4, h5⟩ := h3 pos cv e
  exact ⟨c, h4, s _ _ (ne_of h5 hd (by intro z; cases z)) h5⟩
theorem Fx.same (h : Fx K d l kp R T vx tx us n H) (s : Same H H') : Fx K d l kp R T vx tx us n H' := h.off (OffN.same s) (h.tape.same s) (tabs_same h.tabs s)
theorem Fx.but (h : Fx K d l kp R T vx tx us n H) (s : But d H H') (t : Tape H' d l n') : Fx K d l kp R T vx tx us n' H' := by
  obtain ⟨m, hd⟩ := h.tape.dk
  exact h.off (OffN.but hd s) t (tabs_but h.tabs hd s)
theorem Fx.more (h : Fx K d l kp R T vx tx us n H) (k : n ≤ n') : Fx K d l kp R T vx tx us n' H := ⟨h.tape.more k, h.tabs, h.hx, h.hk, h.hR, h.rows⟩
theorem Fx.ext (h : Fx K d l kp R T vx tx us n H) (s : LamX.ExtN H H') (tb : LamX.Tabs [(T, qLam)] H') : Fx K d l kp R T vx tx us n H' := h.off (OffN.ext s) (h.tape.ext s) tb
end
theorem tif_any {t1 t2 : TE} {b : Bool} {σ : L2.St} {H : Hp} {Q : VK} (Pv : V → Hp → Prop) (h1 : ∀ Q' : VK, (∀ v H', Pv v H' → Q' v H') → t1 σ H Q') (h2 : ∀ Q' : VK, (∀ v H', Pv v H' → Q' v H') → t2 σ H Q') (k : ∀ v H', Pv v H' → Q v H') : if b = true then t1 σ H Q else t2 σ H Q := by
  cases b with
  | true => exact h1 Q k
  | false => exact h2 Q k
theorem natV_inj : ∀ {a b : List Nat}, a.map natV = b.map natV → a = b
  | [], [], _ => rfl
  | x :: a, y :: b, h => by
    rw [List.map_cons, List.map_cons] at h
    injection h with h1 h2
    injection h1 with h1
    rw [natV_inj h2, show x = y by omega]
  | [], _ :: _, h => by cases h
  | _ :: _, [], h => by cases h
theorem spots_fit {tx : PyData} (hw : wf 7 tx = true) : Fit (.list ((allS 7 tx []).map fun r => natD r.1)) 2 300000 := by
  have h1 := fitL_all (a := 1) (b := 27) (ds := (allS 7 tx []).map fun r => natD r.1) fun d hd => by
    obtain ⟨r, hr, rfl⟩ := List.mem_map.mp hd
    obtain ⟨ns, e, _, h5, h6⟩ := allS_at hw hr
    rw [e, List.nil_append]
    exact fit_spot h6 (by omega)
  refine (fit_lst h1).mono (Nat.le_refl _) ?_
  have h2 := allS_len 7 tx []
  have h3 := szT_le hw
  have h4 := BB_mono (show 7 ≤ 8 by decide)
  rw [BB8] at h4
  rw [List.length_map]
  omega
theorem dps_spots {K : PySem.W.Frag} {H : Hp} : ∀ {out : List V} {l : List (List Nat)}, Paired (IsSpot K H) out l → DpAll K H out (l.map natD)
  | _, _, .nil => .nil
  | _, _, .cons h t => by
    obtain ⟨a, rfl, hs⟩ := h
    exact .cons (.tup hs (dps_of_nat _)) (dps_spots t)
theorem shw_fit {K : PySem.W.Frag} {H : Hp} {v : V} {t : PyData} {a b : Nat} (h : Dp K H v t) (f : Fit t a b) (ha : a ≤ 150) (hb : b ≤ 2000000) : Shw K H v t :=
  ⟨.inl h, f.shw, Nat.le_trans f.dep ha, Nat.le_trans (shown_le t (dp_noDict h)) (Nat.le_trans f.len (Nat.le_trans hb (by decide)))⟩
theorem row_get {K : PySem.W.Frag} {H : Hp} {us : List V} {rows : List RowS} (h : Paired (RowA K H) us rows) {i : Nat} {x : V} (e : us[i]? = some x) : ∃ r, rows[i]? = some r ∧ RowA K H x r := paired_get h e
theorem spotA_ok {K : PySem.W.Frag} {C : Addr} {t u : PyData} {a : Addr} {ns : List Nat} {H : Hp} {E : XK} {R : List V → List PyData → Prop} (ha : SqT K H a (ns.map natV)) (hl : ns.length ≤ 900) (e : atT t ns = some u)
    (k : ∀ ps, stepsV t (ns.map natV) = some ps → lastT t ps = u → R (ns.map natV) ps) : SpotA K C t (.ref a) H E R := by
  obtain ⟨ps, h1, h2⟩ := steps_of_at e
  refine ⟨"tuple", .tup ha, fun z => absurd rfl z, fun _ => ⟨a, _, rfl, ha, by rw [List.length_map]; exact hl, dps_ty (dps_of_nat (H := H) (K := K) ns), fun z => (by rw [h1] at z; cases z), fun ps' hp => ?_⟩⟩
  rw [h1] at hp
  cases hp
  exact k ps h1 h2
theorem tand_any {t2 : TT} {b : Bool} {σ : L2.St} {H : Hp} {Q : Bool → Hp → Prop} (Pv : Hp → Prop) (h2 : ∀ Q' : Bool → Hp → Prop, (∀ H', Pv H' → Q' false H') → t2 σ H Q') (h0 : Pv H) (k : ∀ H', Pv H' → Q false H') : if b = true then t2 σ H Q else Q false H := by
  cases b with
  | true => exact h2 Q k
  | false => exact k H h0
/-- a value that may be shown, no long tuple -/
def Bd (K : PySem.W.Frag) (H : Hp) (v : V) (t : PyData) : Prop := Shw K H v t ∧ ∀ ds, t = .tuple ds → ds.length ≤ 900
theorem Bd.same {K : PySem.W.Frag} {H H' : Hp} {v : V} {t : PyData} (h : Bd K H v t) (s : Same H H') : Bd K H' v t := ⟨⟨h.1.1.imp (dpM s) (sdM s), h.1.2⟩, h.2⟩
theorem Bd.ext {K : PySem.W.Frag} {H H' : Hp} {v : V} {t : PyData} (h : Bd K H v t) (s : LamX.ExtN H H') : Bd K H' v t := ⟨⟨h.1.1.imp (dpO (OffN.ext s)) (sdE s), h.1.2⟩, h.2⟩
theorem bd_od {K : PySem.W.Frag} {d : Addr} {H : Hp} {v : V} (h : Od K d H v) : ∃ t, Bd K H v t := by
  obtain ⟨t, h1, h2, h3, h4, h5⟩ := h
  exact ⟨t, ⟨h1.imp (dpM (Same.off d)) (sdM (Same.off d)), h2, by omega, Nat.le_trans h4 (by decide)⟩, fun ds e => by have := h5 ds e; omega⟩
theorem bad_tup {ns : List Nat} {t : PyData} (hn : ∀ k ∈ ns, k < 3) (l : ns.length ≤ 8) (h1 : t.showable = true) (h2 : t.depth ≤ 4) (h3 : t.shown.length ≤ 200) :
    (PyData.tuple ((ns.map fun (i : Nat) => PyData.int (i : Nat)) ++ [t])).showable = true ∧ (PyData.tuple ((ns.map fun (i : Nat) => PyData.int (i : Nat)) ++ [t])).depth ≤ 150 ∧ (PyData.tuple ((ns.map fun (i : Nat) => PyData.int (i : Nat)) ++ [t])).shown.length ≤ sizeLine := by
  have hs := shown_tup ((ns.map fun (i : Nat) => PyData.int (i : Nat)) ++ [t])
  have key : ∀ ns : List Nat, (∀ k ∈ ns, k < 3) → PyData.showableAll ((ns.map fun (i : Nat) => PyData.int (i : Nat)) ++ [t]) = true ∧ PyData.depthAll ((ns.map fun (i : Nat) => PyData.int (i : Nat)) ++ [t]) ≤ 4 ∧ (((ns.map fun (i : Nat) => PyData.int (i : Nat)) ++ [t]).map fun d => d.shown.length + 2).sum ≤ 3 * ns.length + 202 := by
    intro ns hn
    induction ns with
    | nil =>
      refine ⟨?_, ?_, ?_⟩
      · show (t.showable && true) = true
        rw [h1]
        rfl
      · show max t.depth 0 ≤ 4
        omega
      · simp
        omega
    | cons k ns ih =>
      obtain ⟨i1, i2, i3⟩ := ih fun x hx => hn x (List.mem_cons_of_mem _ hx)
      have f := fit_nat3 (hn k List.mem_cons_self)
      have fl := Nat.le_trans (shown_le (.int (k : Nat)) rfl) f.len
      rw [List.map_cons, List.cons_append]
      refine ⟨?_, ?_, ?_⟩
      · show ((PyData.int (k : Nat)).showable && PyData.showableAll _) = true
        rw [f.shw, i1]
        rfl
      · show max (PyData.int (k : Nat)).depth (PyData.depthAll _) ≤ 4
        have := f.dep
        omega
      · rw [List.map_cons, List.sum_cons, List.length_cons]
        omega
  obtain ⟨k1, k2, k3⟩ := key ns hn
  refine ⟨k1, by show PyData.depthAll _ + 1 ≤ 150; omega, Nat.le_trans hs (Nat.le_trans (show _ ≤ 1000 by omega) (by decide))⟩
theorem bd_cat {K : PySem.W.Frag} {H : Hp} {c : Addr} {ns : List Nat} {v : V} {t : PyData} (hn : ∀ k ∈ ns, k < 3) (l : ns.length ≤ 8) (hc : SqT K H c (ns.map natV ++ [v])) (h0 : Dp K H v t ∨ Sd K H v t) (h1 : t.showable = true) (h2 : t.depth ≤ 4) (h3 : t.shown.length ≤ 200) : ∃ t, Bd K H (.ref c) t := by
  obtain ⟨b1, b2, b3⟩ := bad_tup hn l h1 h2 h3
  refine ⟨_, ⟨?_, b1, b2, b3⟩, fun ds e => by cases e; rw [List.length_append, List.length_map, List.length_singleton]; omega⟩
  rcases h0 with h0 | h0
  · exact .inl (.tup hc (dpl_app (dps_of_nat ns) (.cons h0 .nil)))
  · exact .inr (.tup hc (sds_app (sds_of_nat ns) (.cons h0 .nil)))
theorem bd_list {K : PySem.W.Frag} {H : Hp} {D : Addr} {ns : List Nat} (hn : ∀ k ∈ ns, k < 3) (l : ns.length ≤ 8) (hD : H D = some (.lst (ns.map natV))) : ∃ t, Bd K H (.ref D) t := by
  have h1 := fitL_all (a := 0) (b := 1) (ds := ns.map fun (i : Nat) => PyData.int (i : Nat)) fun d hd => by
    obtain ⟨k, hk, rfl⟩ := List.mem_map.mp hd
    exact fit_nat3 (hn k hk)
  have h2 := (fit_lst h1).mono (show 0 + 1 ≤ 1 by decide) (show _ ≤ 27 by rw [List.length_map]; omega)
  exact ⟨_, shw_fit (.lst (SqL.of hD) (dps_of_nat ns)) h2 (by decide) (by decide), fun _ z => by cases z⟩
/-- what is no spot is refused -/
theorem spotA_bad {K : PySem.W.Frag} {C : Addr} {tx t : PyData} {v : V} {H : Hp} {E : XK} {R : List V → List PyData → Prop} (hw : wf 7 tx = true) (hb : Bd K H v t) (hno : t.shown ∉ (allS 7 tx []).map fun r => (natD r.1).shown) (hr : Refuse C v H E) : SpotA K C tx v H E R := by
  obtain ⟨⟨hv, _⟩, hlen⟩ := hb
  have bad : ∀ (xs : List V) (ds : List PyData), t = .tuple ds → (∀ ns : List Nat, xs = ns.map natV → ds = ns.map fun (i : Nat) => PyData.int (i : Nat)) → ∀ ps, stepsV tx xs = some ps → R xs ps := by
    intro xs ds et hds ps hps
    obtain ⟨ns, rfl⟩ := steps_nat hps
    have hat := steps_atT hps
    have := allS_has (s := []) hw hat
    refine absurd (List.mem_map.mpr ⟨_, this, ?_⟩) hno
    rw [et, hds ns rfl]
    rfl
  rcases hv with hv | hv
  · cases hv with
    | non => exact ⟨_, .non, fun _ => hr, fun e => absurd e (by decide)⟩
    | bl b => exact ⟨_, .bl b, fun _ => hr, fun e => absurd e (by decide)⟩
    | int i => exact ⟨_, .int i, fun _ => hr, fun e => absurd e (by decide)⟩
    | str x => exact ⟨_, .str x, fun _ => hr, fun e => absurd e (by decide)⟩
    | lst h _ => exact ⟨_, .lst h, fun _ => hr, fun e => absurd e (by decide)⟩
    | @tup a xs ds h ha => exact ⟨_, .tup h, fun z => absurd rfl z, fun _ => ⟨a, xs, rfl, h, by rw [dps_len ha]; exact hlen ds rfl, dps_ty ha, fun _ => hr, bad xs ds rfl fun ns e => by rw [e] at ha; exact dps_nat ha⟩⟩
  · cases hv with
    | non => exact ⟨_, .non, fun _ => hr, fun e => absurd e (by decide)⟩
    | bl b => exact ⟨_, .bl b, fun _ => hr, fun e => absurd e (by decide)⟩
    | int i => exact ⟨_, .int i, fun _ => hr, fun e => absurd e (by decide)⟩
    | str x => exact ⟨_, .str x, fun _ => hr, fun e => absurd e (by decide)⟩
    | dct h _ => exact ⟨_, .dct h, fun _ => hr, fun e => absurd e (by decide)⟩
    | @tup a xs ds h ha => exact ⟨_, .tup h, fun z => absurd rfl z, fun _ => ⟨a, xs, rfl, h, by rw [sds_len ha]; exact hlen ds rfl, sds_ty ha, fun _ => hr, bad xs ds rfl fun ns e => by rw [e] at ha; exact sds_nat ha⟩⟩
section
variable {P : Program} {w : World} {K : PySem.W.Frag} {mg : Str → Option Value} {base : Heap}
theorem body_law {f c T C fB fD fP fF fT fIF fA fSp fPu fFo fPA fWS fO fL : Addr} {dB dD dP dF dT dIF dA dSp dPu dFo dPA dWS dO : FuncData} (L : LawT mg)
    (GB : FnOk P w K mg base CX0 1 fB dB ["_law_script"] (spBegin K)) (mB : mg "_law_begin" = some (.ref fB)) (kB : PySem.W.keepIn K (.ref fB) = true) (bB : Binds K dB ["_law_script"] [])
    (GD : FnOk P w K mg base CX0 1 fD dD ["_law_tape", "_law_many"] spDraw) (mD : mg "_law_draw" = some (.ref fD)) (kD : PySem.W.keepIn K (.ref fD) = true) (bD : Binds K dD ["_law_tape", "_law_many"] [])
    (GP : FnOk P w K mg base CX0 2 fP dP ["_law_tape", "_law_items"] spPick) (mP : mg "_law_pick" = some (.ref fP)) (kP : PySem.W.keepIn K (.ref fP) = true) (bP : Binds K dP ["_law_tape", "_law_items"] [])
    (GF : FnOk P w K mg base CX0 12 fF dF ["_law_tape", "_law_keys", "_law_deep"] (spFl K 5)) (mF : mg "_law_filter" = some (.ref fF)) (kF : PySem.W.keepIn K (.ref fF) = true) (bF : Binds K dF ["_law_tape", "_law_keys", "_law_deep"] [])
    (GT : FnOk P w K mg base CX0 6 fT dT ["_law_tape", "_law_keys", "_law_deep"] (spTm K 2)) (mT : mg "_law_test" = some (.ref fT)) (kT : PySem.W.keepIn K (.ref fT) = true) (bT : Binds K dT ["_law_tape", "_law_keys", "_law_deep"] [])
    (GIF : FnOk P w K mg base CX0 6 fIF dIF ["value"] (spIF K)) (mIF : mg "is_filter" = some (.ref fIF)) (kIF : PySem.W.keepIn K (.ref fIF) = true) (bIF : Binds K dIF ["value"] [])
    (GA : FnOk P w K mg base CX0 10 fA dA ["_law_term", "_law_spot"] (spAS K 7)) (mA : mg "_law_all_spots" = some (.ref fA)) (kA : PySem.W.keepIn K (.ref fA) = true) (bA : Binds K dA ["_law_term", "_law_spot"] [])
    (GSp : GFn P w K mg base 2 fSp dSp ["term"] (spSpots K)) (mSp : mg "spots" = some (.ref fSp)) (kSp : PySem.W.keepIn K (.ref fSp) = true) (bSp : Binds K dSp ["term"] [])
    (GPu : FnOk P w K mg base CX0 10 fPu dPu ["_law_term", "_law_seat", "_law_part"] (spPu K 7)) (mPu : mg "_law_put" = some (.ref fPu)) (kPu : PySem.W.keepIn K (.ref fPu) = true) (bPu : Binds K dPu ["_law_term", "_law_seat", "_law_part"] [])
    (GFo : FnOk P w K mg base CX0 84 fFo dFo ["_law_x", "_law_of_filters"] (spIsF K 40)) (mFo : mg "_law_is_form" = some (.ref fFo)) (kFo : PySem.W.keepIn K (.ref fFo) = true) (bFo : Binds K dFo ["_law_x", "_law_of_filters"] [])
    (GPA : FnOk P w K mg base (L2.CX P w) 4 fPA dPA ["term", "spot"] (spPA K C)) (mPA : mg "part_at_spot" = some (.ref fPA)) (kPA : PySem.W.keepIn K (.ref fPA) = true) (bPA : Binds K dPA ["term", "spot"] [])
    (GWS : FnOk P w K mg base (L2.CX P w) 4 fWS dWS ["term", "spot", "part"] (spWS K C)) (mWS : mg "with_spot" = some (.ref fWS)) (kWS : PySem.W.keepIn K (.ref fWS) = true) (bWS : Binds K dWS ["term", "spot", "part"] [])
    (GO : FnOk P w K mg base CX0 3 fO dO ["_law_tape"] (spOdd K)) (mO : mg "_law_odd" = some (.ref fO)) (kO : PySem.W.keepIn K (.ref fO) = true) (bO : Binds K dO ["_law_tape"] [])
    (CN : ClsN K C) (mN : mg "NoSpot" = some (.ref C)) {dV kV doc pm cdvL ctL oc : Value} {an od : Option Addr} {osl : Array (Option Value)} (mL : mg "_law_lost" = some (.ref fL)) (kL : PySem.W.keepIn K (.ref fL) = true) (lkL : K.lookup fL = some ⟨oc, od, .func (PySem.W.fnOf "_law_lost" "_law_lost" (defArgs sLost) (defBody sLost) (defScope sLost) dV kV doc pm an cdvL ctL), osl⟩)
    (hcL : PySem.W.codeIn K cdvL "_law_lost" = true) (bL : Binds K (PySem.W.fnOf "_law_lost" "_law_lost" (defArgs sLost) (defBody sLost) (defScope sLost) dV kV doc pm an cdvL ctL) ["_law_call"] []) (TB : LamX.TabB base mg c T) :
    BodyT P w K mg base 84 NLw "law" (defScope sLaw) (defBody sLaw) f c (spLawT K T) := by
  intro s H vs Q E hr h
  obtain ⟨a, ns, rfl, hS, hlen, hT0, q⟩ := h
  have hr1 : Room 1 (callerA.deeper (PyProof.Rows.envOfC "law" (defScope sLaw) s.heap.objs.size f (.ref c))) := hr.mono (by decide)
  have hr2 : Room 2 (callerA.deeper (PyProof.Rows.envOfC "law" (defScope sLaw) s.heap.objs.size f (.ref c))) := hr.mono (by decide)
  have hr3 : Room 3 (callerA.deeper (PyProof.Rows.envOfC "law" (defScope sLaw) s.heap.objs.size f (.ref c))) := hr.mono (by decide)
  have hr4 : Room 4 (callerA.deeper (PyProof.Rows.envOfC "law" (defScope sLaw) s.heap.objs.size f (.ref c))) := hr.mono (by decide)
  have hr5 : Room 5 (callerA.deeper (PyProof.Rows.envOfC "law" (defScope sLaw) s.heap.objs.size f (.ref c))) := hr.mono (by decide)
  have hr6 : Room 6 (callerA.deeper (PyProof.Rows.envOfC "law" (defScope sLaw) s.heap.objs.size f (.ref c))) := hr.mono (by decide)
  have hr10 : Room 10 (callerA.deeper (PyProof.Rows.envOfC "law" (defScope sLaw) s.heap.objs.size f (.ref c))) := hr.mono (by decide)
  have hr12 : Room 12 (callerA.deeper (PyProof.Rows.envOfC "law" (defScope sLaw) s.heap.objs.size f (.ref c))) := hr.mono (by decide)
  have hu : (callerA.deeper (PyProof.Rows.envOfC "law" (defScope sLaw) s.heap.objs.size f (.ref c))).units + 230 < cLine := by
    have := hr.un
    omega
  have hu2 : (callerA.deeper (PyProof.Rows.envOfC "law" (defScope sLaw) s.heap.objs.size f (.ref c))).units + 200 < cLine := by omega
  have hgd : (callerA.deeper (PyProof.Rows.envOfC "law" (defScope sLaw) s.heap.objs.size f (.ref c))).guards = some [] := rfl
  refine ⟨_, PSs.nox (pss_cons (ps_set (i := 1) scLw.nd rfl (Or.inl rfl) (pe_call GB hr1 (by rfl) mB kB bB .nil pass0 (pa_cons (pv 0) pa_nil)))
    (pss_cons (ps_for PassesOwn.never rfl (pi_range1 (by rfl) L.range (pa_cons (pe_op op_add pe_int (pe_callB (call_min2 rfl) (by rfl) L.min (by decide +kernel) (pa_cons pe_int (pa_cons (pe_callB call_len_seq (by rfl) L.len PySem.boot_len (pa_cons (pv 0) pa_nil)) pa_nil)))) pa_nil)) (pg_name (i := 2) scLw.nd rfl (Or.inl rfl))
      (pss_cons (ps_set (i := 3) scLw.nd rfl (Or.inl rfl) (pe_lst (pa_cons pe_str (pa_cons pe_str (pa_cons pe_str pa_nil)))))
      (pss_cons (ps_set (i := 4) scLw.nd rfl (Or.inr rfl) (pe_call GF hr12 (by rfl) mF kF bF .nil pass0 (pa_cons (pv 1) (pa_cons (pv 3) (pa_cons (pe_op op_add pe_int (pe_call GD hr1 (by rfl) mD kD bD .nil pass0 (pa_cons (pv 1) (pa_cons pe_int pa_nil)))) pa_nil)))))
      (pss_cons (ps_set (i := 5) scLw.nd rfl (Or.inl rfl) (pe_call GA hr10 (by rfl) mA kA bA .nil pass0 (pa_cons (pv 4) (pa_cons (pe_tup pa_nil) pa_nil))))
      (pss_cons (ps_if (pt_not (pt_val (pe_call GIF hr6 (by rfl) mIF kIF bIF .nil pass0 (pa_cons (pv 4) pa_nil)))) (pss_one ps_continue) pss_nil)
      (pss_cons (ps_if (pt_cmpR op_ne (pe_callB (show CallR _ (.builtin "repr") (rRepA K) from call_rep hu2 hgd) (by rfl) L.repr (by decide +kernel) (pa_cons (pe_listG (pgen_call GSp hr2 (by rfl) mSp kSp bSp .nil (pa_cons (pv 4) pa_nil)) no_pass (fun _ _ _ z => z.elim) hr5 (by rfl) L.list (by decide +kernel)) pa_nil))
          (pe_callB (show CallR _ (.builtin "repr") (rRepA K) from call_rep hu2 hgd) (by rfl) L.repr (by decide +kernel) (pa_cons (pe_lc (own := [("_law_row", 6)]) (g := gName 6) (te := tOp (rIxT K) (tVar 6) (tC (.int 0))) (by rfl) scLw.nd (pi_list (pv 5)) (blkOk_by (own := [("_law_row", 6)]) (N := NLw) (sc := defScope sLaw) (by decide +kernel)) (fun _ _ _ _ _ => pg_name (i := 6) scLw.nd rfl (Or.inl rfl)) (fun _ _ _ _ _ => pts_nil)
            (fun _ _ _ _ _ => by exact (pe_ix ix_tup (pv 6) pe_int (fun _ _ => rfl)))) pa_nil)) (nomark _)) (pss_one (ps_ret pe_bl)) pss_nil)
      (pss_cons (ps_if (pt_cmpR (op_neD hr1.units) (pe_lc (own := [("_law_row", 6)]) (g := gName 6) (te := tVar 6) (tt := (tTest (tOp rNe (tCB (rRepA K) (tCons (tCall (spPA K C) [] E0 (tCons (tVar 4) (tCons (tOp (rIxT K) (tVar 6) (tC (.int 0))) tNil))) tNil)) (tCB (rRepA K) (tCons (tOp (rIxT K) (tVar 6) (tC (.int 1))) tNil))))) (by rfl) scLw.nd (pi_list (pv 5)) (blkOk_by (own := [("_law_row", 6)]) (N := NLw) (sc := defScope sLaw) (by decide +kernel)) (fun _ _ _ _ _ => pg_name (i := 6) scLw.nd rfl (Or.inl rfl))
            (fun _ _ _ _ _ => by exact pts_one (pt_cmpR op_ne (pe_callB (show CallR _ (.builtin "repr") (rRepA K) from call_rep hu2 hgd) (by rfl) L.repr (by decide +kernel) (pa_cons (pe_call (E := E0) GPA hr4 (by rfl) mPA kPA bPA .nil no_pass (pa_cons (pv 4) (pa_cons (pe_ix ix_tup (pv 6) pe_int (fun _ _ => rfl)) pa_nil))) pa_nil)) (pe_callB (show CallR _ (.builtin "repr") (rRepA K) from call_rep hu2 hgd) (by rfl) L.repr (by decide +kernel) (pa_cons (pe_ix ix_tup (pv 6) pe_int (fun _ _ => rfl)) pa_nil)) (nomark _)))
            (fun _ _ _ _ _ => pv 6)) (pe_lst pa_nil) (nomark _)) (pss_one (ps_ret pe_bl)) pss_nil)
      (pss_one (ps_for PassesOwn.never rfl (pi_range1 (by rfl) L.range (pa_cons pe_int pa_nil)) (pg_name (i := 7) scLw.nd rfl (Or.inl rfl))
        (pss_cons (ps_asg (pe_call GP hr2 (by rfl) mP kP bP .nil pass0 (pa_cons (pv 1) (pa_cons (pv 5) pa_nil))) (pg_tup (by rfl) (pgs_cons (pg_name (i := 8) scLw.nd rfl (.inl rfl)) (pgs_cons (pg_name (i := 9) scLw.nd rfl (.inl rfl)) pgs_nil))))
        (pss_cons (ps_set (i := 10) scLw.nd rfl (Or.inr rfl) (pe_ifExp (pt_val (pe_call GFo hr (by rfl) mFo kFo bFo .nil pass0 (pa_cons (pv 9) (pa_cons pe_bl pa_nil)))) (pe_call GF hr12 (by rfl) mF kF bF .nil pass0 (pa_cons (pv 1) (pa_cons (pv 3) (pa_cons pe_int pa_nil)))) (pe_call GT hr6 (by rfl) mT kT bT .nil pass0 (pa_cons (pv 1) (pa_cons (pv 3) (pa_cons pe_int pa_nil))))))
        (pss_cons (ps_set (i := 11) scLw.nd rfl (Or.inl rfl) (pe_call GPu hr10 (by rfl) mPu kPu bPu .nil pass0 (pa_cons (pv 4) (pa_cons (pv 8) (pa_cons (pv 10) pa_nil)))))
        (pss_cons (ps_if (PW.pt (pw_and (pt_val (pe_call GFo hr (by rfl) mFo kFo bFo .nil pass0 (pa_cons (pv 11) (pa_cons pe_bl pa_nil)))) (pw_and1 (pt_cmpR op_ne (pe_callB (show CallR _ (.builtin "repr") (rRepA K) from call_rep hu2 hgd) (by rfl) L.repr (by decide +kernel) (pa_cons (pe_call (E := E0) GWS hr4 (by rfl) mWS kWS bWS .nil no_pass (pa_cons (pv 4) (pa_cons (pv 8) (pa_cons (pv 10) pa_nil)))) pa_nil)) (pe_callB (show CallR _ (.builtin "repr") (rRepA K) from call_rep hu2 hgd) (by rfl) L.repr (by decide +kernel) (pa_cons (pv 11) pa_nil)) (nomark _))))) (pss_one (ps_ret pe_bl)) pss_nil)
        (pss_one (ps_for PassesOwn.never rfl (pi_list (pe_lst (pa_cons (pe_call GO hr3 (by rfl) mO kO bO .nil pass0 (pa_cons (pv 1) pa_nil)) (pa_cons (pe_op op_catA (pv 8) (pe_tup (pa_cons (pe_call GO hr3 (by rfl) mO kO bO .nil pass0 (pa_cons (pv 1) pa_nil)) pa_nil))) (pa_cons (pe_callTy call_list_of (by rfl) L.list (by decide +kernel) (pa_cons (pv 8) pa_nil)) (pa_cons (pe_op op_catA (pv 8) (pe_tup (pa_cons pe_int pa_nil))) (pa_cons (pe_op op_catA (pv 8) (pe_tup (pa_cons (pe_un un_neg pe_int) pa_nil))) (pa_cons (pe_op op_catA (pv 8) (pe_tup (pa_cons pe_bl pa_nil))) pa_nil)))))))) (pg_name (i := 12) scLw.nd rfl (Or.inr rfl))
          (pss_cons (ps_if (pt_cmpR op_in_seq (pe_callB (show CallR _ (.builtin "repr") (rRepA K) from call_rep hu2 hgd) (by rfl) L.repr (by decide +kernel) (pa_cons (pv 12) pa_nil)) (pe_lc (own := [("_law_row", 6)]) (g := gName 6) (te := tCB (rRepA K) (tCons (tOp (rIxT K) (tVar 6) (tC (.int 0))) tNil)) (by rfl) scLw.nd (pi_list (pv 5)) (blkOk_by (own := [("_law_row", 6)]) (N := NLw) (sc := defScope sLaw) (by decide +kernel)) (fun _ _ _ _ _ => pg_name (i := 6) scLw.nd rfl (Or.inl rfl)) (fun _ _ _ _ _ => pts_nil)
              (fun _ _ _ _ _ => by exact (pe_callB (show CallR _ (.builtin "repr") (rRepA K) from call_rep hu2 hgd) (by rfl) L.repr (by decide +kernel) (pa_cons (pe_ix ix_tup (pv 6) pe_int (fun _ _ => rfl)) pa_nil)))) (by rfl)) (pss_one ps_continue) pss_nil)
          (pss_cons (ps_if (pt_cmpR op_ne (LamX.pe_lamcall (T := [(T, qLam)]) (TT := TTLost K C) (k := 4) (Ng := NLo) (t := (fun E => tCall (spPA K C) [] E (tCons (tVar 4) (tCons (tVar 12) tNil)))) (by rfl) mL kL lkL hcL bL scLo rfl (.inl rfl) (lost_gives CN hu hgd mN L.isi L.repr L.lke) TB rfl (by exact List.mem_singleton.mpr rfl) (fun p hp _ => by rw [List.mem_singleton.mp hp]; rfl) hr6 (LamX.lamS_by (sc := defScope sLaw) (by decide +kernel)) rfl (fun _ _ _ _ _ => rfl) (fun A outer s H E f' c' hrL => by exact (pe_call (E := E) GPA hrL (by rfl) mPA kPA bPA .nil (passes_call (takes_of rfl rfl rfl rfl) fun cls d _ H h => h) (pa_cons (pv 4) (pa_cons (pv 12) pa_nil))))) (pe_callB (show CallR _ (.builtin "repr") (rRepA K) from call_rep hu2 hgd) (by rfl) L.repr (by decide +kernel) (pa_cons (pv 12) pa_nil)) (nomark _)) (pss_one (ps_ret pe_bl)) pss_nil)
          (pss_one (ps_if (pt_cmpR op_ne (LamX.pe_lamcall (T := [(T, qLam)]) (TT := TTLost K C) (k := 4) (Ng := NLo) (t := (fun E => tCall (spWS K C) [] E (tCons (tVar 4) (tCons (tVar 12) (tCons (tVar 10) tNil))))) (by rfl) mL kL lkL hcL bL scLo rfl (.inl rfl) (lost_gives CN hu hgd mN L.isi L.repr L.lke) TB rfl (by exact List.mem_singleton.mpr rfl) (fun p hp _ => by rw [List.mem_singleton.mp hp]; rfl) hr6 (LamX.lamS_by (sc := defScope sLaw) (by decide +kernel)) rfl (fun _ _ _ _ _ => rfl) (fun A outer s H E f' c' hrL => by exact (pe_call (E := E) GWS hrL (by rfl) mWS kWS bWS .nil (passes_call (takes_of rfl rfl rfl rfl) fun cls d _ H h => h) (pa_cons (pv 4) (pa_cons (pv 12) (pa_cons (pv 10) pa_nil)))))) (pe_callB (show CallR _ (.builtin "repr") (rRepA K) from call_rep hu2 hgd) (by rfl) L.repr (by decide +kernel) (pa_cons (pv 12) pa_nil)) (nomark _)) (pss_one (ps_ret pe_bl)) pss_nil)))))))))))))))))))
    (pss_one (ps_ret pe_bl)))), ?_⟩
  refine ⟨_, rfl, a, ns, rfl, hS, hlen, fun H1 d l s1 nd nl nld hT => ?_⟩
  refine ⟨_, rfl, a, _, rfl, .inl (s1.seq hS), _, _, rfl, _, _, rfl, rfl, _, rfl, ?_⟩
  generalize hnn : (5 + if (((ns.map V.int).length : Nat) : Int) < 5 then (((ns.map V.int).length : Nat) : Int) else 5) = nn
  have hn10 : 5 ≤ nn ∧ nn ≤ 10 := by
    rw [← hnn]
    split <;> omega
  refine ⟨by omega, by omega, ?_⟩
  have tb0 : LamX.Tabs [(T, qLam)] H1 := fun p hp => by
    rw [List.mem_singleton.mp hp]
    exact LamX.TabS.nil (s1 _ _ hT0)
  refine for_range (lo := 0) (n := nn.toNat) (fun i σ H' => ∃ v2 v3 v4 v5 v7 v8 v9 v10 v11 v12 : Option V, σ = [some (.ref a), some (.ref d), v2, v3, v4, v5, none, v7, v8, v9, v10, v11, v12] ∧ Tape H' d l (40000 * i) ∧ LamX.Tabs [(T, qLam)] H') ⟨none, none, none, none, none, none, none, none, none, none, rfl, hT, tb0⟩ ?_ ?_
  · rintro i σ Ha hi ⟨v2, v3, v4, v5, v7, v8, v9, v10, v11, v12, rfl, ta, tba⟩
    have hi9 : i ≤ 9 := by omega
    refine ⟨few (by show 3 ≤ 1000; decide), fun kp nkp => ?_⟩
    have sb : Same Ha (upd Ha kp (.lst [.str "a", .str "b", .str "zz"])) := same_new same_id nkp
    have hkp : (upd Ha kp (.lst [.str "a", .str "b", .str "zz"])) kp = some (.lst (keys3.map V.str)) := upd_same
    have nkd : kp ≠ d := by
      obtain ⟨o, ho⟩ := ta.at.1
      exact (ne_of_none ho nkp).symm
    generalize upd Ha kp (.lst [.str "a", .str "b", .str "zz"]) = Hb at sb hkp ⊢
    have tb := ta.same sb
    have tbb := tabs_same tba sb
    generalize hN : 40000 * i = N0 at tb
    refine ⟨_, rfl, _, rfl, _, rfl, d, l, N0, 4, rfl, tb, by omega, by decide, by decide, fun Hc r b2 tc r0 r4 => ⟨_, _, rfl, rfl, ?_⟩⟩
    have hkc := b2 _ _ nkd hkp
    obtain ⟨m0, hd0⟩ := tb.dk
    have tbc := tabs_but tbb hd0 b2
    have cf4 : cF (1 + r).toNat ≤ cF 4 := cF_le (by omega)
    have cf4v : cF 4 = 4810 := by decide
    refine ⟨d, l, kp, N0 + 1, 1 + r, keys3, ⟨by omega, by omega⟩, rfl, tc, by omega, hkc, keys3_ok, fun Hd vx b3 td fv => ?_⟩
    have hkd := b3 _ _ nkd hkc
    obtain ⟨m1, hd1⟩ := tc.dk
    have tbd := tabs_but tbc hd1 b3
    obtain ⟨tx, hxd, hwx⟩ := fv
    have hxd := dpM (Same.off d) hxd
    have hwx := wf_mono hwx (show (1 + r).toNat + 3 ≤ 7 by omega)
    have td := td.more (show N0 + 1 + cF (1 + r).toNat ≤ N0 + 5000 by omega)
    refine ⟨_, rfl, Nat.zero_le _, fun a0 na0 => ⟨vx, a0, tx, [], rfl, dpM (same_new same_id na0) hxd, hwx, by decide, SqT.of upd_same, by decide, fun He R us s4 nR hR hrows => ?_⟩⟩
    have s4' := (same_new same_id na0 : Same Hd (upd Hd a0 (.tup []))).trans s4
    have X0 : Fx K d l kp R T vx tx us (N0 + 5000) He := ⟨td.same s4', tabs_same tbd s4', dpM s4' hxd, s4' _ _ hkd, hR, hrows⟩
    have hsz : szT 7 tx ≤ 9841 := by
      have h1 := szT_le hwx
      have h2 := BB_mono (show 7 ≤ 8 by decide)
      rw [BB8] at h2
      omega
    have fin0 : ∀ (H' : Hp) (n : Nat) (u2 u3 u4 u5 u7 u8 u9 u10 u11 u12 : Option V), Fx K d l kp R T vx tx us n H' → n ≤ N0 + 40000 → ∃ v2 v3 v4 v5 v7 v8 v9 v10 v11 v12 : Option V, [some (V.ref a), some (.ref d), u2, u3, u4, u5, none, u7, u8, u9, u10, u11, u12] = [some (.ref a), some (.ref d), v2, v3, v4, v5, none, v7, v8, v9, v10, v11, v12] ∧ Tape H' d l (40000 * (i + 1)) ∧ LamX.Tabs [(T, qLam)] H' := fun H' n u2 u3 u4 u5 u7 u8 u9 u10 u11 u12 X hn => ⟨_, _, _, _, _, _, _, _, _, _, rfl, X.tape.more (by omega), X.tabs⟩
    refine ⟨_, rfl, vx, 7, tx, rfl, X0.hx, hwx, by omega, fun Hf b s5 => ⟨b, rfl, ?_⟩⟩
    have X1 := X0.same s5
    refine ite2 (fun _ => ?_) (fun _ => ?_)
    · exact fin0 Hf _ _ _ _ _ _ _ _ _ _ _ X1 (by omega)
    refine nx_run ?_
    have F1 := spots_fit hwx
    refine ⟨_, rfl, vx, 7, tx, rfl, X1.hx, hwx, by decide, fun Hg out s6 hout p np => ⟨.ref p, _, rfl, shw_fit (.lst (SqL.of upd_same) (dpsO (OffN.same (same_new same_id np)) (dps_spots hout))) (by rw [List.map_map]; exact F1) (by decide) (by decide), ?_⟩⟩
    have s6' := s6.trans (same_new same_id np : Same Hg (upd Hg p (.lst out)))
    have X2 := X1.same s6'
    generalize upd Hg p (.lst out) = Hh at s6' X2 ⊢
    refine ⟨_, rfl, R, rfl, ⟨_, SqL.of X2.hR⟩, fun D nD => ?_⟩
    refine lc_list (K := K) (a := R) (xs := us) (fun j H' => ∃ acc : List V, Same Hh H' ∧ H' D = some (.lst acc) ∧ Paired (IsSpot K Hh) acc (((allS 7 tx []).take j).map (·.1))) ⟨[], same_new same_id nD, upd_same, .nil⟩ ?_ ?_ ?_
    · rintro j H' _ ⟨acc, s7, _⟩
      exact SqL.of (s7 _ _ X2.hR)
    · rintro j x H' hx ⟨acc, s7, hD, hacc⟩
      obtain ⟨r, hr, q0, a', u, rfl, h2, h3, h4⟩ := row_get X2.rows hx
      have lac := Paired.length hacc
      have lrow := allS_len 7 tx []
      rw [List.length_map, List.length_take] at lac
      refine ⟨rfl, _, rfl, q0, _, 0, _, rfl, rfl, SqT.of (s7 _ _ h2), at_0 _ _, acc, hD, Nat.lt_of_le_of_lt (show acc.length ≤ 9841 by omega) (by decide), acc ++ [.ref a'], ?_, upd_same, ?_⟩
      · intro b' o ho
        rw [upd_ne (ne_of_none ho nD)]
        exact s7 _ _ ho
      · rw [List.take_add_one, hr, List.map_append]
        exact Paired.snoc hacc ⟨a', rfl, h3⟩
    · rintro Hi ⟨acc, s7, hD, hacc⟩
      have lus := Paired.length X2.rows
      rw [lus, List.take_length] at hacc
      have X3 := X2.same s7
      refine ⟨.ref D, _, rfl, shw_fit (.lst (SqL.of hD) (dpsO (OffN.same s7) (dps_spots hacc))) (by rw [List.map_map]; exact F1) (by decide) (by decide), ?_⟩
      have neF : ∀ z : Str, V.bl (!decide (V.str z = V.str z)) = V.bl false := fun z => by simp
      refine ⟨rfl, false, neF _, iteF ?_⟩
      refine nx_run ?_
      refine ⟨_, rfl, R, rfl, ⟨_, SqL.of X3.hR⟩, fun D2 nD2 => ?_⟩
      refine lc_list (K := K) (a := R) (xs := us) (fun j H' => Same Hi H' ∧ H' D2 = some (.lst [])) ⟨same_new same_id nD2, upd_same⟩ ?_ ?_ ?_
      · rintro j H' _ ⟨s8, _⟩
        exact SqL.of (s8 _ _ X3.hR)
      · rintro j x H' hx ⟨s8, hD2⟩
        obtain ⟨r, hr, q0, a', u, rfl, h2, h3, h4⟩ := row_get X3.rows hx
        obtain ⟨ns', e, hat, hlt, hlt3⟩ := allS_at hwx (List.mem_of_getElem? hr)
        rw [List.nil_append] at e
        rw [e] at h3
        have F2 := wf_fit (at_wf hwx hat).1
        refine ⟨rfl, _, rfl, _, rfl, q0, _, 0, _, rfl, rfl, SqT.of (s8 _ _ h2), at_0 _ _, vx, .ref a', 7, tx, rfl, dpM s8 X3.hx, hwx, spotA_ok (same_seqT s8 h3) (by omega) hat fun ps h5 h6 H3 u' s9 hd => ⟨u', _, rfl, shw_fit (by rw [h6] at hd; exact hd) F2 (by decide) (by decide), _, rfl, q0, _, 1, u, rfl, rfl, SqT.of (s9 _ _ (s8 _ _ h2)), at_nat (n := 1) rfl, u, _, rfl, shw_fit (dpM (s8.trans s9) h4) F2 (by decide) (by decide), rfl, false, neF _, iteF ⟨s8.trans s9, s9 _ _ hD2⟩⟩⟩
      · rintro Hj ⟨s8, hD2⟩
        have X4 := X3.same s8
        refine ⟨few (by show 0 ≤ 1000; decide), fun D3 nD3 => ⟨.list [], .list [], .lst (SqL.of ((upd_ne (ne_of_none hD2 nD3)).trans hD2)) .nil, .lst (SqL.of upd_same) .nil, rfl, rfl, false, rfl, iteF ?_⟩⟩
        have X5 := X4.same (same_new same_id nD3 : Same Hj (upd Hj D3 (.lst [])))
        generalize upd Hj D3 (.lst []) = Hk at X5 ⊢
        refine nx_run ?_
        clear hout s6 s6' hD2 hD hacc s7 s8 X4 X3 X2 X1 X0
        refine ⟨_, rfl, by decide, by decide, ?_⟩
        refine for_range (lo := 0) (n := 5) (fun j σ H' => ∃ v7 v8 v9 v10 v11 v12 : Option V, σ = [some (.ref a), some (.ref d), some (.int (0 + (i : Int))), some (.ref kp), some vx, some (.ref R), none, v7, v8, v9, v10, v11, v12] ∧ Fx K d l kp R T vx tx us (N0 + 5000 + 6000 * j) H') ⟨v7, v8, v9, v10, v11, v12, rfl, X5⟩ ?_ ?_
        · rintro j σ Hl hj ⟨w7, w8, w9, w10, w11, w12, rfl, Y0⟩
          have hj4 : j ≤ 4 := by omega
          generalize hN1 : N0 + 5000 + 6000 * j = N1 at Y0
          have lus := Paired.length Y0.rows
          have lal := allS_len 7 tx []
          have lap := allS_pos (show 1 ≤ 7 by decide) tx []
          refine ⟨_, rfl, _, rfl, d, l, R, N1, us, rfl, Y0.tape, by omega, Y0.hR, fun z => by rw [z] at lus; simp at lus; omega, by omega, fun Hm v b1 t1 hv => ?_⟩
          have Y1 := Y0.but b1 t1
          obtain ⟨jv, ejv⟩ := List.getElem?_of_mem hv
          obtain ⟨r, hr, q0, a', u, rfl, h2, h3, h4⟩ := row_get Y1.rows ejv
          obtain ⟨ns', e, hat, hlt, hlt3⟩ := allS_at hwx (List.mem_of_getElem? hr)
          rw [List.nil_append] at e
          rw [e] at h3
          have hwr := (at_wf hwx hat).1
          refine ⟨q0, _, rfl, SqT.of h2, rfl, _, _, rfl, _, _, rfl, rfl, ?_⟩
          refine ⟨_, rfl, u, true, 7, r.2, rfl, h4, hwr, by decide, fun Hn b s2 => ⟨b, rfl, ?_⟩⟩
          have Y2 := Y1.same s2
          have cf1 : cF 1 ≤ 600 := by decide
          have ct1 : cT 1 ≤ 100 := by decide
          obtain ⟨m2, hd2⟩ := Y2.tape.dk
          refine tif_any (fun vo Ho => ∃ to, OffN Hm Ho ∧ Fx K d l kp R T vx tx us (N1 + 1000) Ho ∧ Dp K Ho vo to ∧ wf 4 to = true) (fun Q' k => ?_) (fun Q' k => ?_) ?_
          · refine ⟨_, rfl, _, rfl, d, l, kp, N1 + 1, 1, keys3, ⟨by decide, by decide⟩, rfl, Y2.tape, by show N1 + 1 + cF 1 ≤ 900000; omega, Y2.hk, keys3_ok, fun Ho vo b3 t3 fv => ?_⟩
            obtain ⟨to, hto, hwo⟩ := fv
            exact k vo Ho ⟨to, (OffN.same s2).trans (OffN.but hd2 b3), Y2.but b3 (t3.more (by show N1 + 1 + cF 1 ≤ _; omega)), dpM (Same.off d) hto, hwo⟩
          · refine ⟨_, rfl, _, rfl, d, l, kp, N1 + 1, 1, keys3, by decide, rfl, Y2.tape, by omega, Y2.hk, keys3_ok, fun Ho vo b3 t3 fv => ?_⟩
            obtain ⟨to, hto, hwo⟩ := fv
            exact k vo Ho ⟨to, (OffN.same s2).trans (OffN.but hd2 b3), Y2.but b3 (t3.more (show N1 + 1 + cT 1 ≤ N1 + 1000 by omega)), dpM (Same.off d) hto, wf_mono hwo (by decide)⟩
          rintro vo Ho ⟨to, so, Y3, hvo, hwo⟩
          have h3o := so.seqT h3
          refine ⟨_, rfl, _, rfl, _, rfl, vx, a', vo, 7, 4, tx, to, r.2, ns', rfl, Y3.hx, hwx, hvo, hwo, h3o, by omega, hat, fun Hq ud s4 hud => ?_⟩
          obtain ⟨hwd, hsd⟩ := put_wf hwo hwx hat
          have Fd := wf_fit hwd
          have Fd2 : Fit (putT tx ns' to) 33 600000 := ⟨Fd.shw, Fd.dep, Nat.le_trans hsd (Nat.le_trans (Nat.add_le_add (wf_fit hwx).len (wf_fit hwo).len) (by decide))⟩
          have Y4 := Y3.same s4
          have hvo4 := dpM s4 hvo
          have h3q := same_seqT s4 h3o
          refine ⟨_, rfl, ud, true, 11, _, rfl, hud, hwd, by decide, fun Hr b2 s5 => ⟨b2, rfl, ?_⟩⟩
          refine tand_any (fun H' => Same Hq H') (fun Q' k => ?_) s5 fun Hs s6 => iteF (nx_run ?_)
          · refine ⟨_, rfl, _, rfl, _, rfl, vx, .ref a', vo, 7, 4, tx, to, rfl, (Y4.same s5).hx, hwx, dpM s5 hvo4, hwo, spotA_ok (same_seqT s5 h3q) (by omega) hat fun ps h5 h6 H3 u' ns2 s9 e2 hd => ⟨u', _, rfl, shw_fit (by rw [← natV_inj e2] at hd; exact hd) Fd2 (by decide) (by decide), _, rfl, ud, _, rfl, shw_fit (dpM (s5.trans s9) hud) Fd2 (by decide) (by decide), rfl, false, neF _, ?_⟩⟩
            exact k H3 (s5.trans s9)
          have Y5 := Y4.same s6
          have hvo5 := dpM s6 hvo4
          have h3s := same_seqT s6 h3q
          refine ⟨_, rfl, d, l, N1 + 1000, rfl, Y5.tape, by omega, fun Ja o1 b3 t3 ho1 => ?_⟩
          have Y6 := Y5.but b3 t3
          obtain ⟨m3, hd3⟩ := Y5.tape.dk
          have hvo6 := dpO (OffN.but hd3 b3) hvo5
          have h36 := (OffN.but hd3 b3).seqT h3s
          refine ⟨_, rfl, _, rfl, d, l, N1 + 1000 + 1, rfl, Y6.tape, by omega, fun Jb o2 b4 t4 ho2 => ⟨few (by show 1 ≤ 1000; decide), fun T1 nT1 => ?_⟩⟩
          have Y7 := Y6.but b4 t4
          obtain ⟨m4, hd4⟩ := Y6.tape.dk
          have hvo7 := dpO (OffN.but hd4 b4) hvo6
          have h37 := (OffN.but hd4 b4).seqT h36
          obtain ⟨x1, B1⟩ := bd_od (od_st _ _ _ b4 ho1)
          obtain ⟨x2, g1, g2, g3, g4, _⟩ := ho2
          have g1 := g1.imp (dpM (Same.off d)) (sdM (Same.off d))
          have lnsT : ∀ z : V, (ns'.map natV).length + [z].length ≤ 1000 := fun z => by
            rw [List.length_map, List.length_singleton]
            omega
          have z1 : Same Jb (upd Jb T1 (.tup [o2])) := same_new same_id nT1
          refine catA_run (same_seqT z1 h37) (SqT.of upd_same) (lnsT _) fun Jd c2 z2 hc2 => ?_
          have z12 := z1.trans z2
          obtain ⟨x2', B2⟩ := bd_cat hlt3 (by omega) hc2 (g1.imp (dpM z12) (sdM z12)) g2 g3 g4
          have h3d := same_seqT z12 h37
          refine ⟨_, rfl, a', _, rfl, .inr h3d, fun D3 nD3 => ?_⟩
          have z3 : Same Jd (upd Jd D3 (.lst (ns'.map natV))) := same_new same_id nD3
          obtain ⟨x3, B3⟩ := bd_list (K := K) hlt3 (by omega) (upd_same : (upd Jd D3 (.lst (ns'.map natV))) D3 = _)
          generalize upd Jd D3 (.lst (ns'.map natV)) = Je at z3 B3 ⊢
          refine ⟨_, rfl, few (by show 1 ≤ 1000; decide), fun T4 nT4 => ?_⟩
          have z4 : Same Je (upd Je T4 (.tup [.int 99])) := same_new same_id nT4
          refine catA_run (same_seqT (z3.trans z4) h3d) (SqT.of upd_same) (lnsT _) fun Jf c4 z5 hc4 => ?_
          obtain ⟨x4, B4⟩ := bd_cat hlt3 (by omega) hc4 (.inl (.int 99)) (by decide +kernel) (by decide) (by decide +kernel)
          refine ⟨_, rfl, 1, rfl, few (by show 1 ≤ 1000; decide), fun T5 nT5 => ?_⟩
          have z6 : Same Jf (upd Jf T5 (.tup [.int (-1)])) := same_new same_id nT5
          have z36 := ((z3.trans z4).trans z5).trans z6
          refine catA_run (same_seqT z36 h3d) (SqT.of upd_same) (lnsT _) fun Jg c5 z7 hc5 => ?_
          obtain ⟨x5, B5⟩ := bd_cat hlt3 (by omega) hc5 (.inl (.int (-1))) (by decide +kernel) (by decide) (by decide +kernel)
          refine ⟨_, rfl, few (by show 1 ≤ 1000; decide), fun T6 nT6 => ?_⟩
          have z8 : Same Jg (upd Jg T6 (.tup [.bl true])) := same_new same_id nT6
          refine catA_run (same_seqT ((z36.trans z7).trans z8) h3d) (SqT.of upd_same) (lnsT _) fun Jh c6 z9 hc6 => ?_
          obtain ⟨x6, B6⟩ := bd_cat hlt3 (by omega) hc6 (.inl (.bl true)) (by decide +kernel) (by decide) (by decide +kernel)
          refine ⟨few (by show 6 ≤ 1000; decide), fun B nB => ?_⟩
          have z10 : Same Jh (upd Jh B (.lst [o1, .ref c2, .ref D3, .ref c4, .ref c5, .ref c6])) := same_new same_id nB
          have hB : (upd Jh B (.lst [o1, .ref c2, .ref D3, .ref c4, .ref c5, .ref c6])) B = some (.lst [o1, .ref c2, .ref D3, .ref c4, .ref c5, .ref c6]) := upd_same
          have zg := (z8.trans z9).trans z10
          have zf := (z6.trans z7).trans zg
          have ze := (z4.trans z5).trans zf
          have zd := z3.trans ze
          have zb := z12.trans zd
          have hbads : ∀ x ∈ [o1, .ref c2, .ref D3, .ref c4, .ref c5, .ref c6], ∃ t, Bd K (upd Jh B (.lst [o1, .ref c2, .ref D3, .ref c4, .ref c5, .ref c6])) x t := by
            intro x hx
            simp only [List.mem_cons, List.not_mem_nil, or_false] at hx
            rcases hx with rfl | rfl | rfl | rfl | rfl | rfl
            · exact ⟨_, B1.same zb⟩
            · exact ⟨_, B2.same zd⟩
            · exact ⟨_, B3.same ze⟩
            · exact ⟨_, B4.same zf⟩
            · exact ⟨_, B5.same zg⟩
            · exact ⟨_, B6.same z10⟩
          have Y8 := Y7.same zb
          have hvo8 := dpM zb hvo7
          generalize upd Jh B (.lst [o1, .ref c2, .ref D3, .ref c4, .ref c5, .ref c6]) = Ji at hB hbads Y8 hvo8 ⊢
          generalize [o1, V.ref c2, .ref D3, .ref c4, .ref c5, .ref c6] = bads at hB hbads ⊢
          refine ⟨B, rfl, ⟨_, SqL.of hB⟩, ?_⟩
          refine for_list (K := K) (a := B) (xs := bads) (fun k σ H' => ∃ x12 : Option V, σ = [some (.ref a), some (.ref d), some (.int (0 + (i : Int))), some (.ref kp), some vx, some (.ref R), none, some (.int (0 + (j : Int))), some (.ref a'), some u, some vo, some ud, x12] ∧ Fx K d l kp R T vx tx us (N1 + 1002) H' ∧ (∀ x ∈ bads, ∃ t, Bd K H' x t) ∧ H' B = some (.lst bads) ∧ Dp K H' vo to)
            ⟨w12, rfl, Y8, hbads, hB, hvo8⟩ ?_ ?_ ?_
          · rintro k σ H' _ ⟨x12, _, _, _, hB', _⟩
            exact SqL.of hB'
          · rintro k v σ Ka hv' ⟨x12, rfl, Z0, hb0, hB0, hvo0⟩
            obtain ⟨t, Bv⟩ := hb0 v (List.mem_of_getElem? hv')
            refine ⟨_, rfl, v, t, rfl, Bv.1, _, rfl, R, rfl, ⟨_, SqL.of Z0.hR⟩, fun D nD => ?_⟩
            refine lc_list (K := K) (a := R) (xs := us) (fun j2 H' => Same Ka H' ∧ H' D = some (.lst ((((allS 7 tx []).take j2).map fun r => (natD r.1).shown).map V.str))) ⟨same_new same_id nD, upd_same⟩ ?_ ?_ ?_
            · rintro j2 H' _ ⟨s8, _⟩
              exact SqL.of (s8 _ _ Z0.hR)
            · rintro j2 x H' hx2 ⟨s8, hD⟩
              obtain ⟨r2, hr2', q2, a2, u2, rfl, k2, k3, k4⟩ := row_get Z0.rows hx2
              obtain ⟨ns2, e2, hat2, hlt2, hlt32⟩ := allS_at hwx (List.mem_of_getElem? hr2')
              rw [List.nil_append] at e2
              refine ⟨rfl, _, rfl, q2, _, 0, _, rfl, rfl, SqT.of (s8 _ _ k2), at_0 _ _, .ref a2, natD r2.1, rfl, shw_fit (.tup (same_seqT s8 k3) (dps_of_nat _)) (by rw [e2]; exact fit_spot hlt32 (by omega)) (by decide) (by decide), _, hD, Nat.lt_of_le_of_lt (show _ ≤ 9841 by rw [List.length_map, List.length_map, List.length_take]; omega) (by decide), ?_, ?_⟩
              · intro b' o ho
                rw [upd_ne (ne_of_none ho nD)]
                exact s8 _ _ ho
              · rw [upd_same, List.take_add_one, hr2', List.map_append, List.map_append]
                rfl
            · rintro Kb ⟨s8, hD⟩
              rw [lus, List.take_length] at hD
              have Z1 := Z0.same s8
              have hb1 : ∀ x ∈ bads, ∃ t, Bd K Kb x t := fun x hx => (hb0 x hx).imp fun _ z => z.same s8
              have hB1 := s8 _ _ hB0
              have hvo1 := dpM s8 hvo0
              have Bv1 := Bv.same s8
              refine ⟨D, _, rfl, .inl (SqL.of hD), rfl, flat_strs _, _, rfl, ?_⟩
              rw [inV_strs]
              refine ite2 (fun _ => ⟨_, rfl, Z1, hb1, hB1, hvo1⟩) (fun hno => nx_run ?_)
              have hno : t.shown ∉ (allS 7 tx []).map fun r => (natD r.1).shown := fun z => hno (decide_eq_true z)
              refine ⟨Z1.tabs, fun Kc ex1 tabs1 => ?_⟩
              have Z2 := Z1.ext ex1 tabs1
              have Bv2 := Bv1.ext ex1
              refine ⟨_, rfl, _, rfl, vx, v, 7, tx, rfl, Z2.hx, hwx, spotA_bad hwx Bv2 hno fun Kd dd s9 hdd => ⟨dd, v, t, rfl, rfl, hdd, (Bv2.same s9).1, _, rfl, v, t, rfl, (Bv2.same s9).1, rfl, false, neF _, iteF (nx_run ?_)⟩⟩
              have Z3 := Z2.same s9
              refine ⟨Z3.tabs, fun Ke ex2 tabs2 => ?_⟩
              have Z4 := Z3.ext ex2 tabs2
              have Bv4 := (Bv2.same s9).ext ex2
              have hvo4 := dpO (OffN.ext ex2) (dpM s9 (dpO (OffN.ext ex1) hvo1))
              refine ⟨_, rfl, _, rfl, _, rfl, vx, v, vo, 7, 4, tx, to, rfl, Z4.hx, hwx, hvo4, hwo, spotA_bad hwx Bv4 hno fun Kf dd2 s10 hdd2 => ⟨dd2, v, t, rfl, rfl, hdd2, (Bv4.same s10).1, _, rfl, v, t, rfl, (Bv4.same s10).1, rfl, false, neF _, iteF (nx_run ?_)⟩⟩
              refine ⟨_, rfl, Z4.same s10, fun x hx => (hb1 x hx).imp fun _ z => (((z.ext ex1).same s9).ext ex2).same s10, ?_, dpM s10 hvo4⟩
              exact s10 _ _ ((OffN.ext ex2).lst (s9 _ _ ((OffN.ext ex1).lst hB1)))
          · rintro σ Ka ⟨x12, rfl, Z0, _⟩
            exact ⟨_, _, _, _, _, _, rfl, Z0.more (by omega)⟩
        · rintro σ Hl ⟨w7, w8, w9, w10, w11, w12, rfl, Y0⟩
          exact fin0 Hl _ _ _ _ _ _ _ _ _ _ _ Y0 (by omega)
  · rintro σ Ha ⟨v2, v3, v4, v5, v7, v8, v9, v10, v11, v12, rfl, ta, tba⟩
    exact q Ha
end
end Toy


namespace Toy
open PySem PySem.Spec PyProof.Rows L2
/-! ### the head: what the top has written, as one answer -/
def wordOf : Value → Option Str
  | .str x _ => some x
  | _ => none
theorem words_vals : ∀ {us : List Value} {xs : List Str}, us.map wordOf = xs.map some → Vals (xs.map V.str) us
  | [], [], _ => .nil
  | [], _ :: _, h => by simp at h
  | _ :: _, [], h => by simp at h
  | u :: us, x :: xs, h => by
    simp only [List.map_cons, List.cons.injEq] at h
    refine .cons ?_ (words_vals h.2)
    cases u with
    | str y t =>
      obtain rfl := Option.some.inj h.1
      exact ⟨t, rfl⟩
    | _ => simp [wordOf] at h
def tupB (K : PySem.W.Frag) (a : Addr) (xs : List Str) : Bool := match K.lookup a with
  | some ⟨cls, none, .seq vs _, _⟩ => cls == .type "tuple" && decide (vs.toList.map wordOf = xs.map some)
  | _ => false
def tupB2 (K : PySem.W.Frag) (v : Value) (xs : List Str) : Bool := match v with
  | .ref a => tupB K a xs
  | _ => false
theorem tupB_ok {K : PySem.W.Frag} {a : Addr} {xs : List Str} (h : tupB K a xs = true) (hz : xs.length ≤ 1000) : TupK K a xs := by
  unfold tupB at h
  split at h
  · rename_i cls vs n sl e
    rw [Bool.and_eq_true] at h
    have h2 := of_decide_eq_true h.2
    have hl : vs.toList.length = xs.length := by
      have := congrArg List.length h2
      simpa using this
    have hc : cls = .type "tuple" := eq_of_beq h.1
    exact fun H => .inr ⟨_, vs, n, e, hc, rfl, few (by rw [← Array.length_toList]; omega), words_vals h2⟩
  · cases h
def wordsL : List Str := ["null", "yes", "no", "each", "none", "fail", "try", "other", "if", "then", "else", "end", "when", "as", "catch", "reduce", "first", "take", "fails", "def", "in", "change", "drop", "places", "add", "append", "is", "equal", "at", "and", "or", "not"]
def sortsL : List Str := ["null", "no", "yes", "number", "text", "list", "dict"]
def testsL : List Str := ["is", "equal", "at", "and", "or", "not"]
def walksL : List Str := ["same", "field", "item", "none", "fail", "pipe", "if"]
def choosersL : List Str := ["same", "field", "item", "every", "none", "fail", "pipe", "both", "if", "try", "other"]
def freeB (K : PySem.W.Frag) (c : Addr) (f : Str) : Bool := decide (PySem.W.takerIn K c f = some none) && He.eqO (PySem.W.findIn K (.ref c) f) (some none)
def btL : List Value := [.type "LookupError", .type "Exception", .type "BaseException", .type "object"]
def ownB (K : PySem.W.Frag) (c fi : Addr) : Bool :=
  PySem.W.excInitIn K c btL "LookupError.__new__" && (PySem.W.excOver K c btL && (PySem.W.hasDictIn K c && (He.eqO (PySem.W.findIn K (.ref c) "__setattr__") (some (some (.builtin "object.__setattr__"))) &&
  (He.eqO (PySem.W.findIn K (.ref c) "__getattribute__") (some (some (.builtin "BaseException.__getattribute__"))) && (He.eqO (PySem.W.findIn K (.ref c) "__getattr__") (some none) && (decide (PySem.W.subIn K (.ref c) (.type "BaseException") = some true) &&
  (PySem.W.keepIn K (.ref c) && (He.eqO (PySem.W.findIn K (.ref c) "__init__") (some (some (.ref fi))) && (decide (PySem.W.typeIn K (.ref fi) = some (.type "function")) && (He.eqO (PySem.W.findIn K (.ref c) "__class__") (some (some (.builtin "object.__class__"))) &&
  decide (PySem.W.mroIn K c (.type "object") = some true)))))))))))
def CA (K : PySem.W.Frag) : Addr := He.ga K "NoSpot"
def clsB (K : PySem.W.Frag) : Bool := ownB K (CA K) (He.ma K (CA K) "__init__") && (freeB K (CA K) "spot" && (decide (PySem.W.kitOne K (.ref (CA K)) (.type "LookupError") = some true) && (decide (PySem.W.exmOne K (.ref (CA K)) (.ref (CA K)) = some true) && (decide (PySem.W.typeIn K (.ref (CA K)) = some (.type "type")) &&
  (decide (PySem.W.specialIn K (.builtin "object.__class__") "__get__" = some (some (.builtin "getset_descriptor.__get__"))) && decide (PySem.W.takesIn K (.builtin "object.__class__") = some true))))))
def exB (K : PySem.W.Frag) : Bool := clsB K && (tupB K (He.ga K "PART_KINDS") kinds4 && (tupB K (He.ga K "WORDS") wordsL && (tupB K (He.ga K "SORTS") sortsL && (tupB K (He.ga K "TESTS") testsL && (tupB K (He.ga K "WALKS") walksL && (tupB K (He.ga K "CHOOSERS") choosersL && formsL.all fun p => match PySem.W.nsIn K (He.ga K "FORMS") p.1 with
  | some (some v) => tupB2 K v p.2
  | _ => false))))))
theorem forms_ok {K : PySem.W.Frag} {w : World} {d : Addr} (D : ∃ es n, KDict K w d es n) (h : (formsL.all fun p => match PySem.W.nsIn K d p.1 with
  | some (some v) => tupB2 K v p.2
  | _ => false) = true) : FormsK K w d := by
  obtain ⟨es, n, D⟩ := D
  intro p hp
  have z := List.all_eq_true.mp h p hp
  cases e : PySem.W.nsIn K d p.1 with
  | none => rw [e] at z; cases z
  | some r =>
    cases r with
    | none => rw [e] at z; cases z
    | some v =>
      rw [e] at z
      cases v with
      | ref a => exact ⟨a, ⟨es, n, .ref a, D.at_, D.lit, e, rfl⟩, tupB_ok z (Nat.le_trans (forms_len p hp) (by decide))⟩
      | _ => simp [tupB2] at z
def ts : List He.Tab := [(fun K => He.ga K "FORMS", formsL.map (·.1))]
def tf : List He.Defn := [("law", none)]
def iOf (x q : Str) (st : Stmt) : He.DefD := ⟨(x, some "__init__"), "__init__", q, defArgs st, defBody st, defScope st, [], []⟩
def hdOf (x : Str) (st : Stmt) : He.DefD := ⟨(x, none), x, x, defArgs st, defBody st, defScope st, [], []⟩
def fn : List He.DefD := [hdOf "is_integer" sIsInt, hdOf "is_name" sName, hdOf "is_free_name" sFree, hdOf "is_leaf" sLeafV, hdOf "_is_text" sTxt, hdOf "begins_kind" sBeg, hdOf "kinds_and_parts" sKP, hdOf "with_parts" sWP, hdOf "is_filter" sIF, hdOf "_is_of_kind" sOK, hdOf "narrowed" sNar, hdOf "_has_form" sHF, hdOf "is_index" sIdx, hdOf "_is_field" sFld, hdOf "_are_entries" sEnts, hdOf "_are_unlike" sUnl, hdOf "spots" sSpots, hdOf "part_at_spot" sPA, hdOf "with_spot" sWS, hdOf "_passed" sPs, hdOf "_law_begin" sBegin, hdOf "_law_draw" sDraw, hdOf "_law_pick" sPick, hdOf "_law_odd" sOdd, hdOf "_law_leaf" sLeaf, hdOf "_law_test" sTest, hdOf "_law_step" sStep, hdOf "_law_walk" sWalk, hdOf "_law_chooser" sChs, hdOf "_law_filter" sFl, hdOf "_law_slots" sSlots, hdOf "_law_test_slots" sTSlots, hdOf "_law_parts" sParts, hdOf "_law_all_spots" sAS, hdOf "_law_is_word" ToyY.sWordL, hdOf "_law_is_free" ToyY.sFreeL, hdOf "_law_is_leaf" ToyY.sLeafL, hdOf "_law_is_whole" ToyY.sWholeL, hdOf "_law_is_slot" ToyY.sSlot, hdOf "_law_is_form" ToyY.sForm, hdOf "_law_is_of" ToyY.sOf, hdOf "_law_lost" sLost, hdOf "_law_put" sPu, hdOf "law" sLaw, iOf "NoSpot" "NoSpot.__init__" (inClass (top 1) 0)]
def fa : List He.Fa := [.glo "is_integer", .glo "is_name", .glo "is_free_name", .glo "is_leaf", .glo "_is_text", .glo "begins_kind", .glo "kinds_and_parts", .glo "with_parts", .glo "is_filter", .glo "_is_of_kind", .glo "narrowed", .glo "_has_form", .glo "is_index", .glo "_is_field", .glo "_are_entries", .glo "_are_unlike", .glo "spots", .glo "part_at_spot", .glo "with_spot", .glo "_passed", .glo "_law_begin", .glo "_law_draw", .glo "_law_pick", .glo "_law_odd", .glo "_law_leaf", .glo "_law_test", .glo "_law_step", .glo "_law_walk", .glo "_law_chooser", .glo "_law_filter", .glo "_law_slots", .glo "_law_test_slots", .glo "_law_parts", .glo "_law_all_spots", .glo "_law_is_word", .glo "_law_is_free", .glo "_law_is_leaf", .glo "_law_is_whole", .glo "_law_is_slot", .glo "_law_is_form", .glo "_law_is_of", .glo "_law_lost", .glo "_law_put", .glo "law", .glo "FORMS", .glo "TESTS", .glo "WALKS", .glo "CHOOSERS", .glo "PART_KINDS", .glo "WORDS", .glo "SORTS", .int "MOST_LETTERS_words" 8, .int "GREATEST" (10 ^ 30), .int "MOST_LETTERS_data" 200, .int "PERCENT_SIGN" 37, .int "MOST_SPOTS" 200, .int "MOST_LEVELS" 40, .int "MOST_INDEX" 99, .int "MOST_HANDED" 3, .free "len", .free "int", .free "bool", .free "str", .free "list", .free "range", .free "min", .free "repr", .free "ord", .free "isinstance", .free "all", .free "tuple", .free "zip", .free "set", .free "abs", .free "enumerate", .free "reversed", .free "LookupError", .glo "NoSpot"]
abbrev R : PySem.W.OpenRow := PySem.W.OpenLaw.row PySem.Challenge.rw_sieveways_k07_spots_of_filters
abbrev hk : PySem.W.Hook := He.hookX 5 fa fn ts tf exB
def ob (s : PySem.W.SharedT) : He.AlX := He.obsX 5 fa fn ts tf exB (HandSHeadRun.getT s)
theorem ob_eq (s : PySem.W.SharedT) : ob s = hk.obs s.abs := He.obsX_eq (HandSHeadRun.getT_eq s)
def looseN0 : List Str := ["is_integer", "is_name", "is_free_name", "is_leaf", "_is_text", "begins_kind", "kinds_and_parts", "with_parts", "is_filter", "_is_of_kind", "narrowed", "_has_form", "is_index", "_is_field", "_are_entries", "_are_unlike", "spots", "part_at_spot"]
def looseN1 : List Str := ["with_spot", "_passed", "_law_begin", "_law_draw", "_law_pick", "_law_odd", "_law_leaf", "_law_test", "_law_step", "_law_walk", "_law_chooser", "_law_filter", "_law_slots", "_law_test_slots", "_law_parts", "_law_all_spots", "_law_is_word", "_law_is_free"]
def looseN2 : List Str := ["_law_is_leaf", "_law_is_whole", "_law_is_slot", "_law_is_form", "_law_is_of", "_law_lost", "_law_put", "FORMS", "TESTS", "WALKS", "CHOOSERS", "PART_KINDS", "WORDS", "SORTS", "MOST_LETTERS_words", "GREATEST", "MOST_LETTERS_data", "PERCENT_SIGN"]
def looseN3 : List Str := ["MOST_SPOTS", "MOST_LEVELS", "MOST_INDEX", "MOST_HANDED", "NoSpot"]
def looseN : List Str := looseN0 ++ looseN1 ++ looseN2 ++ looseN3
/-! a text's hash asks the world whether a special's get may raise: the run is told for either answer -/
def wB (b : Bool) (w : World) : World := ⟨w.draws, {w.params with followText := fun x => match decide (x = "special-get-raises") with | true => b | false => w.params.followText x}⟩
theorem wB_eq (w : World) : wB (w.params.followText "special-get-raises") w = w := by
  have e : (fun x => match decide (x = "special-get-raises") with | true => w.params.followText "special-get-raises" | false => w.params.followText x) = w.params.followText := by
    funext x
    by_cases h : x = "special-get-raises"
    · subst h; rfl
    · rw [decide_eq_false h]
  unfold wB
  rw [e]
theorem runT (w : World) : HandSHeadRun.RunEq R (PySem.W.view R.prog [66]) hk ob 9000 looseN (wB true w) := by
  intro os
  kernel_rfl
theorem runF (w : World) : HandSHeadRun.RunEq R (PySem.W.view R.prog [66]) hk ob 9000 looseN (wB false w) := by
  intro os
  kernel_rfl
theorem run (w : World) : HandSHeadRun.RunEq R (PySem.W.view R.prog [66]) hk ob 9000 looseN w := by
  have z := wB_eq w
  cases h : w.params.followText "special-get-raises" with
  | true =>
    rw [h] at z
    exact (congrArg (HandSHeadRun.RunEq R (PySem.W.view R.prog [66]) hk ob 9000 looseN) z).mp (runT w)
  | false =>
    rw [h] at z
    exact (congrArg (HandSHeadRun.RunEq R (PySem.W.view R.prog [66]) hk ob 9000 looseN) z).mp (runF w)
end Toy


namespace Toy
open PySem PySem.Spec PyProof.Rows L2 PySem.KX
/-! ### the facts, read off the head's answer -/
theorem fun_of {K : PySem.W.Frag} {x q : Str} {st : Stmt} {f : Addr} {fd : FuncData} (F : FunD K x q (defArgs st) (defBody st) (defScope st) [] [] f fd) : Fun K x q st f fd := by
  obtain ⟨oc, od, dV, kV, doc, pm, an, cdv, ct, osl, rfl, lk, hcd, hD, _⟩ := F.ex
  rcases hD with ⟨_, rfl⟩ | ⟨e, _⟩
  · exact ⟨⟨oc, od, kV, doc, pm, an, cdv, ct, osl, rfl, lk, hcd⟩, F.kp⟩
  · exact absurd rfl e
theorem and2 {a b : Bool} (h : (a && b) = true) : a = true ∧ b = true := Bool.and_eq_true_iff.mp h
section
variable {K : PySem.W.Frag} (c : clsB K = true)
include c
theorem ex_own : Own K (CA K) (He.ma K (CA K) "__init__") "LookupError" "LookupError.__new__" "LookupError.__init__" btL := by
  obtain ⟨o, h⟩ := and2 c
  obtain ⟨_, h⟩ := and2 h
  obtain ⟨_, h⟩ := and2 h
  obtain ⟨_, h⟩ := and2 h
  obtain ⟨_, h⟩ := and2 h
  obtain ⟨s1, s2⟩ := and2 h
  obtain ⟨o1, o⟩ := and2 o
  obtain ⟨o2, o⟩ := and2 o
  obtain ⟨o3, o⟩ := and2 o
  obtain ⟨o4, o⟩ := and2 o
  obtain ⟨o5, o⟩ := and2 o
  obtain ⟨o6, o⟩ := and2 o
  obtain ⟨o7, o⟩ := and2 o
  obtain ⟨o8, o⟩ := and2 o
  obtain ⟨o9, o⟩ := and2 o
  obtain ⟨o10, o⟩ := and2 o
  obtain ⟨o11, o12⟩ := and2 o
  exact ⟨PySem.F.excBase_LookupError, PySem.F.store_LookupError, o1, o2, o3, He.eqO_ok o4, He.eqO_ok o5, He.eqO_ok o6, of_decide_eq_true o7, o8, He.eqO_ok o9, of_decide_eq_true o10, He.eqO_ok o11, of_decide_eq_true s1, of_decide_eq_true s2, of_decide_eq_true o12⟩
theorem ex_free : Free K (CA K) "spot" := by
  obtain ⟨_, h⟩ := and2 c
  obtain ⟨h, _⟩ := and2 h
  obtain ⟨a, b⟩ := and2 h
  exact ⟨of_decide_eq_true a, He.eqO_ok b⟩
theorem ex_clsN : ClsN K (CA K) := by
  have o := ex_own c
  obtain ⟨_, h⟩ := and2 c
  obtain ⟨_, h⟩ := and2 h
  obtain ⟨h1, h⟩ := and2 h
  obtain ⟨h2, _⟩ := and2 h
  exact ⟨⟨o.ga, o.gg, o.exc, o.dct, o.cA, o.cN, o.cT, o.cM⟩, ⟨o.ga, o.gg, o.exc, o.dct⟩, (ex_free c).n, of_decide_eq_true h2, of_decide_eq_true h1⟩
theorem ex_clR : ClR K (CA K) := by
  have o := ex_own c
  obtain ⟨_, h⟩ := and2 c
  obtain ⟨_, h⟩ := and2 h
  obtain ⟨_, h⟩ := and2 h
  obtain ⟨_, h⟩ := and2 h
  obtain ⟨h1, _⟩ := and2 h
  exact ⟨o.exc, of_decide_eq_true h1⟩
end
/-- the maker of a class of one field -/
theorem mk_cl1 {K : PySem.W.Frag} (c : clsB K = true) {qual : Str} {fd : FuncData} {a1 a2 q1 q2 q3 q4 : Pos}
    (F : FunD K "__init__" qual (argsOf [arg1 "self" a1, arg1 "spot" a2]) [setS "spot" q1 q2 q3 q4] (scOf ["self", "spot"]) [] [] (He.ma K (CA K) "__init__") fd)
    (b1 : ∀ (kV doc pm : Value) (an : Option Addr) (cdv ct self v : Value), bindArgs (PySem.W.fnOf "__init__" qual (argsOf [arg1 "self" a1, arg1 "spot" a2]) [setS "spot" q1 q2 q3 q4] (scOf ["self", "spot"]) .none kV doc pm an cdv ct) ⟨[self, v], []⟩ = pure [(("self" : Str), self), ("spot", v)])
    (b2 : ∀ (kV doc pm : Value) (an : Option Addr) (cdv ct self v : Value), bindArgs (PySem.W.fnOf "__init__" qual (argsOf [arg1 "self" a1, arg1 "spot" a2]) [setS "spot" q1 q2 q3 q4] (scOf ["self", "spot"]) .none kV doc pm an cdv ct) ⟨[self], [("spot", v)]⟩ = pure [(("self" : Str), self), ("spot", v)]) : Cl1 K (CA K) "spot" := by
  have O := ex_own c
  refine ⟨⟨_, _, _, _, _, qual, fd, a1, a2, q1, q2, q3, q4, O, F, ?_⟩, ex_free c, by decide +kernel, by decide +kernel, O.kp⟩
  obtain ⟨oc, od, dV, kV, doc, pm, an, cdv, ct, osl, rfl, lk, hcd, hD, _⟩ := F.ex
  rcases hD with ⟨_, rfl⟩ | ⟨e, _⟩
  · exact ⟨fun s self v => .of_eq (b1 kV doc pm an cdv ct (.ref self) v), fun s self v => .of_eq (b2 kV doc pm an cdv ct (.ref self) v)⟩
  · exact absurd rfl e
theorem facts {P : Program} {w : World} {K : PySem.W.Frag} {h : Heap} {mg : Str → Option Value} {f : Addr} (X : K.In h) (G : h.Ns mainGlobals mg) (hfa : mg ("law" : Str) = some (.ref f)) (S : He.SaysX fa fn ts tf exB w h K) :
    ∃ (fd : FuncData) (c T : Addr), FunD K "law" "law" (defArgs sLaw) (defBody sLaw) (defScope sLaw) [] [] f fd ∧ fd.code = .ref c ∧ (∀ (s : Shared) (v : Value), BindsTo s fd ⟨[v], []⟩ [("_law_script", v)]) ∧ h.get? T = some { cls := .none, data := .fields #[] } ∧ K.lookup T = none ∧ PySem.W.CodeHd h c T ∧
      ∀ base : Heap, K.In base → base.Ns mainGlobals mg → LamX.TabB base mg c T → BodyT P w K mg base 84 NLw "law" (defScope sLaw) (defBody sLaw) f c (spLawT K T) := by
  obtain ⟨dIi, FIi⟩ := S.t.d.def_ 0 (d := hdOf "is_integer" sIsInt) rfl
  have mIi := He.glo_ok X G (S.t.d.fact 0 (f := .glo "is_integer") rfl)
  obtain ⟨dNm, FNm⟩ := S.t.d.def_ 1 (d := hdOf "is_name" sName) rfl
  have mNm := He.glo_ok X G (S.t.d.fact 1 (f := .glo "is_name") rfl)
  obtain ⟨dFr, FFr⟩ := S.t.d.def_ 2 (d := hdOf "is_free_name" sFree) rfl
  have mFr := He.glo_ok X G (S.t.d.fact 2 (f := .glo "is_free_name") rfl)
  obtain ⟨dLv, FLv⟩ := S.t.d.def_ 3 (d := hdOf "is_leaf" sLeafV) rfl
  have mLv := He.glo_ok X G (S.t.d.fact 3 (f := .glo "is_leaf") rfl)
  obtain ⟨dTx, FTx⟩ := S.t.d.def_ 4 (d := hdOf "_is_text" sTxt) rfl
  have mTx := He.glo_ok X G (S.t.d.fact 4 (f := .glo "_is_text") rfl)
  obtain ⟨dBg, FBg⟩ := S.t.d.def_ 5 (d := hdOf "begins_kind" sBeg) rfl
  have mBg := He.glo_ok X G (S.t.d.fact 5 (f := .glo "begins_kind") rfl)
  obtain ⟨dKp, FKp⟩ := S.t.d.def_ 6 (d := hdOf "kinds_and_parts" sKP) rfl
  have mKp := He.glo_ok X G (S.t.d.fact 6 (f := .glo "kinds_and_parts") rfl)
  obtain ⟨dWp, FWp⟩ := S.t.d.def_ 7 (d := hdOf "with_parts" sWP) rfl
  have mWp := He.glo_ok X G (S.t.d.fact 7 (f := .glo "with_parts") rfl)
  obtain ⟨dIf, FIf⟩ := S.t.d.def_ 8 (d := hdOf "is_filter" sIF) rfl
  have mIf := He.glo_ok X G (S.t.d.fact 8 (f := .glo "is_filter") rfl)
  obtain ⟨dOk, FOk⟩ := S.t.d.def_ 9 (d := hdOf "_is_of_kind" sOK) rfl
  have mOk := He.glo_ok X G (S.t.d.fact 9 (f := .glo "_is_of_kind") rfl)
  obtain ⟨dNa, FNa⟩ := S.t.d.def_ 10 (d := hdOf "narrowed" sNar) rfl
  have mNa := He.glo_ok X G (S.t.d.fact 10 (f := .glo "narrowed") rfl)
  obtain ⟨dHf, FHf⟩ := S.t.d.def_ 11 (d := hdOf "_has_form" sHF) rfl
  have mHf := He.glo_ok X G (S.t.d.fact 11 (f := .glo "_has_form") rfl)
  obtain ⟨dIx, FIx⟩ := S.t.d.def_ 12 (d := hdOf "is_index" sIdx) rfl
  have mIx := He.glo_ok X G (S.t.d.fact 12 (f := .glo "is_index") rfl)
  obtain ⟨dFi, FFi⟩ := S.t.d.def_ 13 (d := hdOf "_is_field" sFld) rfl
  have mFi := He.glo_ok X G (S.t.d.fact 13 (f := .glo "_is_field") rfl)
  obtain ⟨dEn, FEn⟩ := S.t.d.def_ 14 (d := hdOf "_are_entries" sEnts) rfl
  have mEn := He.glo_ok X G (S.t.d.fact 14 (f := .glo "_are_entries") rfl)
  obtain ⟨dUn, FUn⟩ := S.t.d.def_ 15 (d := hdOf "_are_unlike" sUnl) rfl
  have mUn := He.glo_ok X G (S.t.d.fact 15 (f := .glo "_are_unlike") rfl)
  obtain ⟨dSp, FSp⟩ := S.t.d.def_ 16 (d := hdOf "spots" sSpots) rfl
  have mSp := He.glo_ok X G (S.t.d.fact 16 (f := .glo "spots") rfl)
  obtain ⟨dPA, FPA⟩ := S.t.d.def_ 17 (d := hdOf "part_at_spot" sPA) rfl
  have mPA := He.glo_ok X G (S.t.d.fact 17 (f := .glo "part_at_spot") rfl)
  obtain ⟨dWS, FWS⟩ := S.t.d.def_ 18 (d := hdOf "with_spot" sWS) rfl
  have mWS := He.glo_ok X G (S.t.d.fact 18 (f := .glo "with_spot") rfl)
  obtain ⟨dPs, FPs⟩ := S.t.d.def_ 19 (d := hdOf "_passed" sPs) rfl
  have mPs := He.glo_ok X G (S.t.d.fact 19 (f := .glo "_passed") rfl)
  obtain ⟨dB, FB⟩ := S.t.d.def_ 20 (d := hdOf "_law_begin" sBegin) rfl
  have mB := He.glo_ok X G (S.t.d.fact 20 (f := .glo "_law_begin") rfl)
  obtain ⟨dD, FD⟩ := S.t.d.def_ 21 (d := hdOf "_law_draw" sDraw) rfl
  have mD := He.glo_ok X G (S.t.d.fact 21 (f := .glo "_law_draw") rfl)
  obtain ⟨dPi, FPi⟩ := S.t.d.def_ 22 (d := hdOf "_law_pick" sPick) rfl
  have mPi := He.glo_ok X G (S.t.d.fact 22 (f := .glo "_law_pick") rfl)
  obtain ⟨dOd, FOd⟩ := S.t.d.def_ 23 (d := hdOf "_law_odd" sOdd) rfl
  have mOd := He.glo_ok X G (S.t.d.fact 23 (f := .glo "_law_odd") rfl)
  obtain ⟨dLf, FLf⟩ := S.t.d.def_ 24 (d := hdOf "_law_leaf" sLeaf) rfl
  have mLf := He.glo_ok X G (S.t.d.fact 24 (f := .glo "_law_leaf") rfl)
  obtain ⟨dTe, FTe⟩ := S.t.d.def_ 25 (d := hdOf "_law_test" sTest) rfl
  have mTe := He.glo_ok X G (S.t.d.fact 25 (f := .glo "_law_test") rfl)
  obtain ⟨dSt, FSt⟩ := S.t.d.def_ 26 (d := hdOf "_law_step" sStep) rfl
  have mSt := He.glo_ok X G (S.t.d.fact 26 (f := .glo "_law_step") rfl)
  obtain ⟨dWk, FWk⟩ := S.t.d.def_ 27 (d := hdOf "_law_walk" sWalk) rfl
  have mWk := He.glo_ok X G (S.t.d.fact 27 (f := .glo "_law_walk") rfl)
  obtain ⟨dCh, FCh⟩ := S.t.d.def_ 28 (d := hdOf "_law_chooser" sChs) rfl
  have mCh := He.glo_ok X G (S.t.d.fact 28 (f := .glo "_law_chooser") rfl)
  obtain ⟨dFl, FFl⟩ := S.t.d.def_ 29 (d := hdOf "_law_filter" sFl) rfl
  have mFl := He.glo_ok X G (S.t.d.fact 29 (f := .glo "_law_filter") rfl)
  obtain ⟨dSl, FSl⟩ := S.t.d.def_ 30 (d := hdOf "_law_slots" sSlots) rfl
  have mSl := He.glo_ok X G (S.t.d.fact 30 (f := .glo "_law_slots") rfl)
  obtain ⟨dTs, FTs⟩ := S.t.d.def_ 31 (d := hdOf "_law_test_slots" sTSlots) rfl
  have mTs := He.glo_ok X G (S.t.d.fact 31 (f := .glo "_law_test_slots") rfl)
  obtain ⟨dPa, FPa⟩ := S.t.d.def_ 32 (d := hdOf "_law_parts" sParts) rfl
  have mPa := He.glo_ok X G (S.t.d.fact 32 (f := .glo "_law_parts") rfl)
  obtain ⟨dAs, FAs⟩ := S.t.d.def_ 33 (d := hdOf "_law_all_spots" sAS) rfl
  have mAs := He.glo_ok X G (S.t.d.fact 33 (f := .glo "_law_all_spots") rfl)
  obtain ⟨dWdL, FWdL⟩ := S.t.d.def_ 34 (d := hdOf "_law_is_word" ToyY.sWordL) rfl
  have mWdL := He.glo_ok X G (S.t.d.fact 34 (f := .glo "_law_is_word") rfl)
  obtain ⟨dFrL, FFrL⟩ := S.t.d.def_ 35 (d := hdOf "_law_is_free" ToyY.sFreeL) rfl
  have mFrL := He.glo_ok X G (S.t.d.fact 35 (f := .glo "_law_is_free") rfl)
  obtain ⟨dLfL, FLfL⟩ := S.t.d.def_ 36 (d := hdOf "_law_is_leaf" ToyY.sLeafL) rfl
  have mLfL := He.glo_ok X G (S.t.d.fact 36 (f := .glo "_law_is_leaf") rfl)
  obtain ⟨dWhL, FWhL⟩ := S.t.d.def_ 37 (d := hdOf "_law_is_whole" ToyY.sWholeL) rfl
  have mWhL := He.glo_ok X G (S.t.d.fact 37 (f := .glo "_law_is_whole") rfl)
  obtain ⟨dSlt, FSlt⟩ := S.t.d.def_ 38 (d := hdOf "_law_is_slot" ToyY.sSlot) rfl
  have mSlt := He.glo_ok X G (S.t.d.fact 38 (f := .glo "_law_is_slot") rfl)
  obtain ⟨dFo, FFo⟩ := S.t.d.def_ 39 (d := hdOf "_law_is_form" ToyY.sForm) rfl
  have mFo := He.glo_ok X G (S.t.d.fact 39 (f := .glo "_law_is_form") rfl)
  obtain ⟨dOf, FOf⟩ := S.t.d.def_ 40 (d := hdOf "_law_is_of" ToyY.sOf) rfl
  have mOf := He.glo_ok X G (S.t.d.fact 40 (f := .glo "_law_is_of") rfl)
  obtain ⟨dLo, FLo⟩ := S.t.d.def_ 41 (d := hdOf "_law_lost" sLost) rfl
  have mLo := He.glo_ok X G (S.t.d.fact 41 (f := .glo "_law_lost") rfl)
  obtain ⟨dPu, FPu⟩ := S.t.d.def_ 42 (d := hdOf "_law_put" sPu) rfl
  have mPu := He.glo_ok X G (S.t.d.fact 42 (f := .glo "_law_put") rfl)
  obtain ⟨dL, FL⟩ := S.t.d.def_ 43 (d := hdOf "law" sLaw) rfl
  have mL := He.glo_ok X G (S.t.d.fact 43 (f := .glo "law") rfl)
  obtain ⟨dI, FI⟩ := S.t.d.def_ 44 (d := iOf "NoSpot" "NoSpot.__init__" (inClass (top 1) 0)) rfl
  have mg0 := He.glo_ok X G (S.t.d.fact 44 (f := .glo "FORMS") rfl)
  have mg1 := He.glo_ok X G (S.t.d.fact 45 (f := .glo "TESTS") rfl)
  have mg2 := He.glo_ok X G (S.t.d.fact 46 (f := .glo "WALKS") rfl)
  have mg3 := He.glo_ok X G (S.t.d.fact 47 (f := .glo "CHOOSERS") rfl)
  have mg4 := He.glo_ok X G (S.t.d.fact 48 (f := .glo "PART_KINDS") rfl)
  have mg5 := He.glo_ok X G (S.t.d.fact 49 (f := .glo "WORDS") rfl)
  have mg6 := He.glo_ok X G (S.t.d.fact 50 (f := .glo "SORTS") rfl)
  obtain ⟨ti0, mi0⟩ := He.int_ok X G (S.t.d.fact 51 (f := .int "MOST_LETTERS_words" 8) rfl)
  have ri0 : L2.RelV (.int 8) (.int 8 ti0) := ⟨ti0, rfl⟩
  obtain ⟨ti1, mi1⟩ := He.int_ok X G (S.t.d.fact 52 (f := .int "GREATEST" (10 ^ 30)) rfl)
  have ri1 : L2.RelV (.int (10 ^ 30)) (.int (10 ^ 30) ti1) := ⟨ti1, rfl⟩
  obtain ⟨ti2, mi2⟩ := He.int_ok X G (S.t.d.fact 53 (f := .int "MOST_LETTERS_data" 200) rfl)
  have ri2 : L2.RelV (.int 200) (.int 200 ti2) := ⟨ti2, rfl⟩
  obtain ⟨ti3, mi3⟩ := He.int_ok X G (S.t.d.fact 54 (f := .int "PERCENT_SIGN" 37) rfl)
  have ri3 : L2.RelV (.int 37) (.int 37 ti3) := ⟨ti3, rfl⟩
  obtain ⟨ti4, mi4⟩ := He.int_ok X G (S.t.d.fact 55 (f := .int "MOST_SPOTS" 200) rfl)
  have ri4 : L2.RelV (.int 200) (.int 200 ti4) := ⟨ti4, rfl⟩
  obtain ⟨ti5, mi5⟩ := He.int_ok X G (S.t.d.fact 56 (f := .int "MOST_LEVELS" 40) rfl)
  have ri5 : L2.RelV (.int 40) (.int 40 ti5) := ⟨ti5, rfl⟩
  obtain ⟨ti6, mi6⟩ := He.int_ok X G (S.t.d.fact 57 (f := .int "MOST_INDEX" 99) rfl)
  have ri6 : L2.RelV (.int 99) (.int 99 ti6) := ⟨ti6, rfl⟩
  obtain ⟨ti7, mi7⟩ := He.int_ok X G (S.t.d.fact 58 (f := .int "MOST_HANDED" 3) rfl)
  have ri7 : L2.RelV (.int 3) (.int 3 ti7) := ⟨ti7, rfl⟩
  have z0 := He.free_ok X G (S.t.d.fact 59 (f := .free "len") rfl)
  have z1 := He.free_ok X G (S.t.d.fact 60 (f := .free "int") rfl)
  have z2 := He.free_ok X G (S.t.d.fact 61 (f := .free "bool") rfl)
  have z3 := He.free_ok X G (S.t.d.fact 62 (f := .free "str") rfl)
  have z4 := He.free_ok X G (S.t.d.fact 63 (f := .free "list") rfl)
  have z5 := He.free_ok X G (S.t.d.fact 64 (f := .free "range") rfl)
  have z6 := He.free_ok X G (S.t.d.fact 65 (f := .free "min") rfl)
  have z7 := He.free_ok X G (S.t.d.fact 66 (f := .free "repr") rfl)
  have z8 := He.free_ok X G (S.t.d.fact 67 (f := .free "ord") rfl)
  have z9 := He.free_ok X G (S.t.d.fact 68 (f := .free "isinstance") rfl)
  have z10 := He.free_ok X G (S.t.d.fact 69 (f := .free "all") rfl)
  have z11 := He.free_ok X G (S.t.d.fact 70 (f := .free "tuple") rfl)
  have z12 := He.free_ok X G (S.t.d.fact 71 (f := .free "zip") rfl)
  have z13 := He.free_ok X G (S.t.d.fact 72 (f := .free "set") rfl)
  have z14 := He.free_ok X G (S.t.d.fact 73 (f := .free "abs") rfl)
  have z15 := He.free_ok X G (S.t.d.fact 74 (f := .free "enumerate") rfl)
  have z16 := He.free_ok X G (S.t.d.fact 75 (f := .free "reversed") rfl)
  have z17 := He.free_ok X G (S.t.d.fact 76 (f := .free "LookupError") rfl)
  have mN := He.glo_ok X G (S.t.d.fact 77 (f := .glo "NoSpot") rfl)
  have hm := S.more
  unfold exB at hm
  simp only [Bool.and_eq_true] at hm
  obtain ⟨x0, x1, x2, x3, x4, x5, x6, x7⟩ := hm
  have KPK := tupB_ok x1 (by decide)
  have KWO := tupB_ok x2 (by decide)
  have KSO := tupB_ok x3 (by decide)
  have KTE := tupB_ok x4 (by decide)
  have KWA := tupB_ok x5 (by decide)
  have KCH := tupB_ok x6 (by decide)
  have FOR := S.t.tab 0 (t := (fun K => He.ga K "FORMS", formsL.map (·.1))) rfl
  have FK : FormsK K w (He.ga K "FORMS") := forms_ok FOR x7
  have C1 : Cl1 K (CA K) "spot" := mk_cl1 x0 FI (fun _ _ _ _ _ _ _ _ => rfl) (fun _ _ _ _ _ _ _ _ => rfl)
  have CR := ex_clR x0
  have CN := ex_clsN x0
  have bIi : Binds K dIi ["value"] [] := FIi.bindsN fun _ _ _ _ _ _ us hl => match us, hl with | [_], _ => rfl
  have bNm : Binds K dNm ["value"] [] := FNm.bindsN fun _ _ _ _ _ _ us hl => match us, hl with | [_], _ => rfl
  have bFr : Binds K dFr ["value"] [] := FFr.bindsN fun _ _ _ _ _ _ us hl => match us, hl with | [_], _ => rfl
  have bLv : Binds K dLv ["value"] [] := FLv.bindsN fun _ _ _ _ _ _ us hl => match us, hl with | [_], _ => rfl
  have bTx : Binds K dTx ["text"] [] := FTx.bindsN fun _ _ _ _ _ _ us hl => match us, hl with | [_], _ => rfl
  have bBg : Binds K dBg ["word", "kind"] [] := FBg.bindsN fun _ _ _ _ _ _ us hl => match us, hl with | [_, _], _ => rfl
  have bKp : Binds K dKp ["term"] [] := FKp.bindsN fun _ _ _ _ _ _ us hl => match us, hl with | [_], _ => rfl
  have bWp : Binds K dWp ["term", "parts"] [] := FWp.bindsN fun _ _ _ _ _ _ us hl => match us, hl with | [_, _], _ => rfl
  have bIf : Binds K dIf ["value"] [] := FIf.bindsN fun _ _ _ _ _ _ us hl => match us, hl with | [_], _ => rfl
  have bOk : Binds K dOk ["value", "kind"] [] := FOk.bindsN fun _ _ _ _ _ _ us hl => match us, hl with | [_, _], _ => rfl
  have bNa : Binds K dNa ["outer", "kind"] [] := FNa.bindsN fun _ _ _ _ _ _ us hl => match us, hl with | [_, _], _ => rfl
  have bHf : Binds K dHf ["value", "kind"] [] := FHf.bindsN fun _ _ _ _ _ _ us hl => match us, hl with | [_, _], _ => rfl
  have bIx : Binds K dIx ["value"] [] := FIx.bindsN fun _ _ _ _ _ _ us hl => match us, hl with | [_], _ => rfl
  have bFi : Binds K dFi ["value", "told"] [] := FFi.bindsN fun _ _ _ _ _ _ us hl => match us, hl with | [_, _], _ => rfl
  have bEn : Binds K dEn ["values"] [] := FEn.bindsN fun _ _ _ _ _ _ us hl => match us, hl with | [_], _ => rfl
  have bUn : Binds K dUn ["names"] [] := FUn.bindsN fun _ _ _ _ _ _ us hl => match us, hl with | [_], _ => rfl
  have bSp : Binds K dSp ["term"] [] := FSp.bindsN fun _ _ _ _ _ _ us hl => match us, hl with | [_], _ => rfl
  have bPA : Binds K dPA ["term", "spot"] [] := FPA.bindsN fun _ _ _ _ _ _ us hl => match us, hl with | [_, _], _ => rfl
  have bWS : Binds K dWS ["term", "spot", "part"] [] := FWS.bindsN fun _ _ _ _ _ _ us hl => match us, hl with | [_, _, _], _ => rfl
  have bPs : Binds K dPs ["term", "spot"] [] := FPs.bindsN fun _ _ _ _ _ _ us hl => match us, hl with | [_, _], _ => rfl
  have bB : Binds K dB ["_law_script"] [] := FB.bindsN fun _ _ _ _ _ _ us hl => match us, hl with | [_], _ => rfl
  have bD : Binds K dD ["_law_tape", "_law_many"] [] := FD.bindsN fun _ _ _ _ _ _ us hl => match us, hl with | [_, _], _ => rfl
  have bPi : Binds K dPi ["_law_tape", "_law_items"] [] := FPi.bindsN fun _ _ _ _ _ _ us hl => match us, hl with | [_, _], _ => rfl
  have bOd : Binds K dOd ["_law_tape"] [] := FOd.bindsN fun _ _ _ _ _ _ us hl => match us, hl with | [_], _ => rfl
  have bLf : Binds K dLf ["_law_tape"] [] := FLf.bindsN fun _ _ _ _ _ _ us hl => match us, hl with | [_], _ => rfl
  have bTe : Binds K dTe ["_law_tape", "_law_keys", "_law_deep"] [] := FTe.bindsN fun _ _ _ _ _ _ us hl => match us, hl with | [_, _, _], _ => rfl
  have bSt : Binds K dSt ["_law_tape", "_law_keys"] [] := FSt.bindsN fun _ _ _ _ _ _ us hl => match us, hl with | [_, _], _ => rfl
  have bWk : Binds K dWk ["_law_tape", "_law_keys", "_law_deep"] [] := FWk.bindsN fun _ _ _ _ _ _ us hl => match us, hl with | [_, _, _], _ => rfl
  have bCh : Binds K dCh ["_law_tape", "_law_keys", "_law_deep"] [] := FCh.bindsN fun _ _ _ _ _ _ us hl => match us, hl with | [_, _, _], _ => rfl
  have bFl : Binds K dFl ["_law_tape", "_law_keys", "_law_deep"] [] := FFl.bindsN fun _ _ _ _ _ _ us hl => match us, hl with | [_, _, _], _ => rfl
  have bSl : Binds K dSl ["_law_word"] [] := FSl.bindsN fun _ _ _ _ _ _ us hl => match us, hl with | [_], _ => rfl
  have bTs : Binds K dTs ["_law_word"] [] := FTs.bindsN fun _ _ _ _ _ _ us hl => match us, hl with | [_], _ => rfl
  have bPa : Binds K dPa ["_law_term"] [] := FPa.bindsN fun _ _ _ _ _ _ us hl => match us, hl with | [_], _ => rfl
  have bAs : Binds K dAs ["_law_term", "_law_spot"] [] := FAs.bindsN fun _ _ _ _ _ _ us hl => match us, hl with | [_, _], _ => rfl
  have bWdL : Binds K dWdL ["_law_x"] [] := FWdL.bindsN fun _ _ _ _ _ _ us hl => match us, hl with | [_], _ => rfl
  have bFrL : Binds K dFrL ["_law_x"] [] := FFrL.bindsN fun _ _ _ _ _ _ us hl => match us, hl with | [_], _ => rfl
  have bLfL : Binds K dLfL ["_law_x"] [] := FLfL.bindsN fun _ _ _ _ _ _ us hl => match us, hl with | [_], _ => rfl
  have bWhL : Binds K dWhL ["_law_x", "_law_most"] [] := FWhL.bindsN fun _ _ _ _ _ _ us hl => match us, hl with | [_, _], _ => rfl
  have bSlt : Binds K dSlt ["_law_slot", "_law_x"] [] := FSlt.bindsN fun _ _ _ _ _ _ us hl => match us, hl with | [_, _], _ => rfl
  have bFo : Binds K dFo ["_law_x", "_law_of_filters"] [] := FFo.bindsN fun _ _ _ _ _ _ us hl => match us, hl with | [_, _], _ => rfl
  have bOf : Binds K dOf ["_law_term", "_law_slot"] [] := FOf.bindsN fun _ _ _ _ _ _ us hl => match us, hl with | [_, _], _ => rfl
  have bLo : Binds K dLo ["_law_call"] [] := FLo.bindsN fun _ _ _ _ _ _ us hl => match us, hl with | [_], _ => rfl
  have bPu : Binds K dPu ["_law_term", "_law_seat", "_law_part"] [] := FPu.bindsN fun _ _ _ _ _ _ us hl => match us, hl with | [_, _, _], _ => rfl
  have e := hfa.symm.trans mL
  cases e
  have eqc : ∃ c, dL.code = .ref c ∧ He.codeOf K ("law", none) = c := by
    obtain ⟨oc, od, dV, kV, doc, pm, an, cdv, ct, osl, rfl, lk, hcd, _, _⟩ := FL.ex
    obtain ⟨c, rfl⟩ := He.codeIn_ref hcd
    exact ⟨c, rfl, He.codeOf_eq (p := ("law", none)) lk rfl⟩
  obtain ⟨c, ec, eco⟩ := eqc
  have tmem : (("law", none) : He.Defn) ∈ tf := List.mem_singleton.mpr rfl
  have th := S.hd _ tmem
  have to := S.out _ tmem
  have te := S.empty _ tmem
  have ecT : He.cT K ("law", none) = (c, He.tabOf K c) := by
    unfold He.cT
    rw [eco]
  rw [ecT] at th to te
  refine ⟨dL, c, He.tabOf K c, FL, ec, fun s v => FL.bindsA (ps := ["_law_script"]) (fun _ _ _ _ _ _ us hl => match us, hl with | [_], _ => rfl) s [v] rfl, te, to, PySem.W.codeHd_of_K X th, fun base _ _ TB => ?_⟩
  have GD : FnOk P w K mg base CX0 1 _ dD ["_law_tape", "_law_many"] spDraw := ok_draw (fun_of FD) z0 z1
  have GB : FnOk P w K mg base CX0 1 _ dB ["_law_script"] (spBegin K) := ok_begin (fun_of FB)
  have GPi : FnOk P w K mg base CX0 2 _ dPi ["_law_tape", "_law_items"] spPick := ok_pick (fun_of FPi) GD mD FD.kp bD z0
  have GLf : FnOk P w K mg base CX0 3 _ dLf ["_law_tape"] spLeaf := ok_leaf (fun_of FLf) GPi mPi FPi.kp bPi
  have GSt : FnOk P w K mg base CX0 3 _ dSt ["_law_tape", "_law_keys"] (spStep K) := ok_step (fun_of FSt) GPi mPi FPi.kp bPi GD mD FD.kp bD
  have tw := fun j => ok_tw (P := P) (w := w) (base := base) (fun_of FTe) (fun_of FWk) GPi mPi FPi.kp bPi GD mD FD.kp bD GLf mLf FLf.kp bLf GSt mSt FSt.kp bSt mTe FTe.kp bTe mWk FWk.kp bWk j
  have GTe : FnOk P w K mg base CX0 6 _ dTe ["_law_tape", "_law_keys", "_law_deep"] (spTm K 2) := (tw 2).1
  have GWk : FnOk P w K mg base CX0 6 _ dWk ["_law_tape", "_law_keys", "_law_deep"] (spTm K 2) := (tw 2).2
  have GCh : FnOk P w K mg base CX0 6 _ dCh ["_law_tape", "_law_keys", "_law_deep"] (spTm K 2) := ok_chs (fun_of FCh) GSt mSt FSt.kp bSt GD mD FD.kp bD mCh FCh.kp bCh mTe FTe.kp bTe mWk FWk.kp bWk tw 2
  have GFl : FnOk P w K mg base CX0 12 _ dFl ["_law_tape", "_law_keys", "_law_deep"] (spFl K 5) := ok_fl (fun_of FFl) GPi mPi FPi.kp bPi GD mD FD.kp bD GLf mLf FLf.kp bLf GTe mTe FTe.kp bTe GWk mWk FWk.kp bWk GCh mCh FCh.kp bCh mFl FFl.kp bFl 5
  have GOd : FnOk P w K mg base CX0 3 _ dOd ["_law_tape"] (spOdd K) := ok_odd (fun_of FOd) GPi mPi FPi.kp bPi
  have GSl : FnOk P w K mg base CX0 1 _ dSl ["_law_word"] (spSlot slF) := ok_slots (fun_of FSl)
  have GTs : FnOk P w K mg base CX0 1 _ dTs ["_law_word"] (spSlot slT) := ok_tslots (fun_of FTs)
  have GPa : FnOk P w K mg base CX0 2 _ dPa ["_law_term"] (spParts K) := ok_parts (fun_of FPa) GSl mSl FSl.kp bSl GTs mTs FTs.kp bTs z12 z4
  have GAs : FnOk P w K mg base CX0 10 _ dAs ["_law_term", "_law_spot"] (spAS K 7) := ok_as (fun_of FAs) mAs FAs.kp bAs GPa mPa FPa.kp bPa z15 7
  have GPu : FnOk P w K mg base CX0 10 _ dPu ["_law_term", "_law_seat", "_law_part"] (spPu K 7) := ok_pu (fun_of FPu) mPu FPu.kp bPu GPa mPa FPa.kp bPa GSl mSl FSl.kp bSl GTs mTs FTs.kp bTs z12 z11 7
  have GWdL : FnOk P w K mg base CX0 1 _ dWdL ["_law_x"] (ToyY.spM K ToyY.wordD) := ToyY.ok_wordL (fun_of FWdL) z9 z3 z0
  have GFrL : FnOk P w K mg base CX0 2 _ dFrL ["_law_x"] (ToyY.spM K ToyY.freeD) := ToyY.ok_freeL (fun_of FFrL) GWdL mWdL FWdL.kp bWdL
  have GLfL : FnOk P w K mg base CX0 1 _ dLfL ["_law_x"] (ToyY.spM K ToyY.leafD) := ToyY.ok_leafL (fun_of FLfL) z9 z3 z2 z1 z0 z14
  have GWhL : FnOk P w K mg base CX0 1 _ dWhL ["_law_x", "_law_most"] (ToyY.spWh K) := ToyY.ok_wholeL (fun_of FWhL) z9 z2 z1
  have lk := ToyY.ok_look (P := P) (w := w) (base := base) (fun_of FFo) (fun_of FOf) (fun_of FSlt) GSl mSl FSl.kp bSl GTs mTs FTs.kp bTs GWhL mWhL FWhL.kp bWhL GWdL mWdL FWdL.kp bWdL GFrL mFrL FFrL.kp bFrL GLfL mLfL FLfL.kp bLfL mFo FFo.kp bFo mOf FOf.kp bOf mSlt FSlt.kp bSlt z9 z11 z3 z0 z13 z5 z4 z12 40
  have GFo : FnOk P w K mg base CX0 84 _ dFo ["_law_x", "_law_of_filters"] (spIsF K 40) := FnOk.imp lk.1 fun _ _ _ _ h => spIsF_of h
  have GKp : FnOk P w K mg base CX0 1 _ dKp ["term"] (spKP K) := ok_kp (fun_of FKp) mg0 FK mg4 KPK z12
  have GWp : FnOk P w K mg base CX0 1 _ dWp ["term", "parts"] (spWP K) := ok_wp (fun_of FWp) mg0 FK mg4 KPK z12 z0 z11
  have GIi2 : FnOk P w K mg base CX0 1 _ dIi ["value"] (spIsI K) := ok_isI (fun_of FIi) z9 z2 z1
  have GPs : FnOk P w K mg base (L2.CX P w) 3 _ dPs ["term", "spot"] (spPs K (CA K)) := ok_ps (fun_of FPs) C1 CR mN GKp mKp FKp.kp bKp GIi2 mIi FIi.kp bIi z9 z11 z0
  have GPA : FnOk P w K mg base (L2.CX P w) 4 _ dPA ["term", "spot"] (spPA K (CA K)) := ok_pa (fun_of FPA) GPs mPs FPs.kp bPs
  have GWS : FnOk P w K mg base (L2.CX P w) 4 _ dWS ["term", "spot", "part"] (spWS K (CA K)) := ok_ws (fun_of FWS) GPs mPs FPs.kp bPs GKp mKp FKp.kp bKp GWp mWp FWp.kp bWp z16 z4 z12
  have GSp : GFn P w K mg base 2 _ dSp ["term"] (spSpots K) := gok_sp (fun_of FSp) GKp mKp FKp.kp bKp z16 z4 z15
  have GIi : FnOk P w K mg base CX0 1 _ dIi ["value"] spInt := ok_isInt (fun_of FIi) z9 z2 z1
  have GNm : FnOk P w K mg base CX0 1 _ dNm ["value"] spStr := ok_name (fun_of FNm) mi0 ri0 z9 z3 z0 z10
  have GFr : FnOk P w K mg base CX0 2 _ dFr ["value"] spStr := ok_free (fun_of FFr) GNm mNm FNm.kp bNm mg5 KWO
  have GTx : FnOk P w K mg base CX0 1 _ dTx ["text"] spStr := ok_txt (fun_of FTx) mi2 ri2 mi3 ri3 z0 z8 z10
  have GLv : FnOk P w K mg base CX0 2 _ dLv ["value"] spLf := ok_leafV (fun_of FLv) GTx mTx FTx.kp bTx mi1 ri1 z9 z2 z1 z3
  have GUn : FnOk P w K mg base CX0 1 _ dUn ["names"] (spUnl K) := ok_unl (fun_of FUn) z0 z13
  have GEn : FnOk P w K mg base CX0 2 _ dEn ["values"] (spEnts K) := ok_ents (fun_of FEn) GNm mNm FNm.kp bNm GUn mUn FUn.kp bUn z9 z11 z0 z10
  have GNa : FnOk P w K mg base CX0 1 _ dNa ["outer", "kind"] spNar := ok_nar (fun_of FNa)
  have GBg : FnOk P w K mg base CX0 1 _ dBg ["word", "kind"] spBeg := ok_beg (fun_of FBg) mg0 FOR FK mg1 KTE mg2 KWA mg3 KCH
  have GIx : FnOk P w K mg base CX0 2 _ dIx ["value"] spInt := ok_index (fun_of FIx) mi6 ri6 GIi mIi FIi.kp bIi
  have GFi : FnOk P w K mg base CX0 3 _ dFi ["value", "told"] (spFld K) := ok_fld (fun_of FFi) mg4 KPK mg6 KSO mi7 ri7 GNm mNm FNm.kp bNm GFr mFr FFr.kp bFr GIx mIx FIx.kp bIx GLv mLv FLv.kp bLv GUn mUn FUn.kp bUn GEn mEn FEn.kp bEn z9 z11 z0 z10
  have GHf : FnOk P w K mg base CX0 4 _ dHf ["value", "kind"] (spHF K) := ok_hf (fun_of FHf) mg0 FK GBg mBg FBg.kp bBg GFi mFi FFi.kp bFi z9 z11 z3 z0 z10 z12
  have GOk : FnOk P w K mg base CX0 5 _ dOk ["value", "kind"] (spOK K) := ok_of (fun_of FOk) mi5 ri5 mi4 ri4 GHf mHf FHf.kp bHf GKp mKp FKp.kp bKp GNa mNa FNa.kp bNa z0
  have GIf : FnOk P w K mg base CX0 6 _ dIf ["value"] (spIF K) := ok_if (fun_of FIf) GOk mOk FOk.kp bOk
  obtain ⟨oc, od, dV, kV, doc, pm, an, cdv, ct, osl, rfl, lkL, hcL, _, _⟩ := FLo.ex
  exact body_law ⟨z0, z5, z6, z7, z4, z9, z17⟩ GB mB FB.kp bB GD mD FD.kp bD GPi mPi FPi.kp bPi GFl mFl FFl.kp bFl GTe mTe FTe.kp bTe GIf mIf FIf.kp bIf GAs mAs FAs.kp bAs GSp mSp FSp.kp bSp GPu mPu FPu.kp bPu GFo mFo FFo.kp bFo GPA mPA FPA.kp bPA GWS mWS FWS.kp bWS GOd mOd FOd.kp bOd CN mN mLo FLo.kp lkL hcL bLo TB
end Toy
open PySem PySem.W PySem.Calls PyProof.Rows
set_option maxRecDepth 100000 in
set_option maxHeartbeats 0 in
theorem PySem.Challenge.cw_sieveways_k07_spots_of_filters_holds : PySem.Challenge.rw_sieveways_k07_spots_of_filters.Holds := by
  w_on; o_law
  refine HandSHeadRun.head_any (r := OpenLaw.row PySem.Challenge.rw_sieveways_k07_spots_of_filters) (q := view (OpenLaw.row PySem.Challenge.rw_sieveways_k07_spots_of_filters).prog [66]) (H := Toy.hk) (ob := Toy.ob) (M := 9000) (loose := Toy.looseN) (d := HandSHeadRun.topDef (OpenLaw.row PySem.Challenge.rw_sieveways_k07_spots_of_filters).prog 66) (kwd := []) Toy.ob_eq
    (by kernel_rfl) (fun s => by kernel_rfl) Toy.run (by kernel_rfl) (by kernel_rfl) (by kernel_rfl) (by rfl) (by first | assumption | decide +kernel) (by decide +kernel) ⟨rfl, rfl, rfl, rfl, rfl, by decide +kernel⟩ ?hw ?hc
  case hw => w_witness2
  case hc =>
    refine L2.walkT (l := PySem.Challenge.rw_sieveways_k07_spots_of_filters) (n := 63) (k := 84) (x := "_law_script") rfl (by decide) (by kernel_rfl) ⟨rfl, by decide, by decide⟩ ?F
    intro w mg fa h Y G hmg0
    obtain ⟨K, KX, c⟩ := Y
    have hmg : mg ("law" : PySem.Str) = some (.ref fa) := by
      have e : (HandSHeadRun.topDef (OpenLaw.row PySem.Challenge.rw_sieveways_k07_spots_of_filters).prog 66).name = ("law" : PySem.Str) := by kernel_rfl
      rw [← e]
      exact hmg0
    obtain ⟨fd, cc, T, FD, ec, hb, hT, nT, CH, hF⟩ := Toy.facts (P := (PySem.Challenge.rw_sieveways_k07_spots_of_filters).prog) (w := w) KX G hmg c
    exact ⟨K, fd, _, _, _, _, _, Toy.NLw, Toy.spLawT K T, cc, T, KX, FD, ec, Toy.scLw, hb, hT, nT, CH, fun H a ns hl hTT hS => ⟨a, ns, rfl, hS, hl, hTT, fun _ => rfl⟩, hF⟩

