import PyProof.Rows.All
import Wide.All
import OpenK.AllK
import Wide.FinOn
import KE.KExcInit
import HandS.ForMost
import HandS.Exc
import HandS.ExcInit
import HandS.ExcIs
import HandS.Defaults
import HandS.ExcValue
import HandS.MakeKw
import KE.KExcIs
import HandS.IsInst
import HandS.MakeKwOnly
import PyProof.ReprRoads
import HandS.Dict
import HandS.Flow
import HandS.Wide
import HandS.Small
import HandS.More
import HandS.Strs
import HandS.Style
import HandS.Conv
import HandS.HeadEnd
import KE.KStateDown
import HandS.Zip
import HandS.Deep
import HandS.ListItems
import HandS.SortKw
import HandS.Text
import HandS.StrMore
import HandS.Steps
import KE.IntTextLaws
import HandS.Codes
import HandS.Walk
import HandS.Star
import KE.KSuper
import HandS.Nested
import HandS.Words
import HandS.WordsExc
import HandS.ExcField
import PyProof.NeKinds
import PyProof.Rows.SortShellAny
import KE.KIntText
import HandS.ReplaceLit
import HandS.ReplaceList
import HandS.ReplaceDef
import PyProof.StrOps2
import HandS.Head0
import HandS.Head1
import HandS.Head2
import HandS.HeadHook1
import HandS.HeadHook2
import HandS.HeadHook3
import HandS.HeadHook4
import HandS.NestedK
import PySem.Challenge.RW_sieveways_k71_data_written_and_read
set_option Elab.async false
set_option linter.all false
set_option maxRecDepth 100000
set_option maxHeartbeats 0
/-! An own exception class over any base, called with positional or keyword arguments: the library tells it without keywords. -/
namespace PySem
namespace KX
open PySem.W PySem.Calls PyProof.Rows PySem.HandSPX
open Builtin Builtin.ObjectAttr
section
variable {P : Program} {wo : World} {Ar : Around} {Er : Value → Shared → Prop} {Rs : Result → Shared → Prop} {hp : Heap} {gs : Array GenState} {dr : Drawn} {tk : Nat} {os : OsState}
variable {cn qn : Str} {c nsA : Addr} {bases tl bt : List Value} {hasD : Bool} {sls : List Str} {subs : List Value} {abst : Bool} {coll : Option Bool} {cd : Option Addr} {y0 y1 y2 y3 y5 : Option Value} {base nid iid : String}
/-- the class's object -/
abbrev clsO (cn qn : Str) (c nsA : Addr) (bases tl : List Value) (hasD : Bool) (sls : List Str) (subs : List Value) (abst : Bool) (coll : Option Bool) (cd : Option Addr) (y0 y1 y2 y3 y5 : Option Value) (nid : String) : Obj :=
  excClassObj cn qn c nsA bases tl hasD sls subs abst coll cd y0 y1 y2 y3 y5 nid
variable (FB : ExcBaseFacts base nid iid bt) (same : ∀ Z : String, tl.contains (.type Z) = bt.contains (.type Z)) (at_ : hp.get? c = some (clsO cn qn c nsA bases tl hasD sls subs abst coll cd y0 y1 y2 y3 y5 nid))
include same in
theorem has_in {Z : String} {b : Bool} (z : bt.contains (.type Z) = b) : (Value.ref c :: tl).contains (.type Z) = b := by
  rw [List.contains_cons, same Z, z]; exact Bool.false_or b
include FB same at_ in
theorem new_checked {M : Model} {ps : List Value} {ks : List (Str × Value)} {Go : Unit → Shared → Prop} (go : Go () ⟨hp, gs, dr, tk, os⟩) : wpAny M Ar (checkBuiltinCall nid ⟨.ref c :: ps, ks⟩) Go Er ⟨hp, gs, dr, tk, os⟩ := by
  have star := FB.noStar
  have sub := has_in (c := c) same FB.hasB
  simp only [checkBuiltinCall, FB.newKind, FB.newSplit, FB.newRow]
  repeat (first | (refine wpAny_isSubtype_exc at_ ?_; rw [sub]) | refine wpAny_loadPart_at at_ ?_ | refine wpAny_madeBy_exc at_ ?_ | refine wpAny_staticBase_exc at_ ?_ | wp_step | simp only [Bool.false_eq_true, bne_self_eq_false, if_false])
  exact go
include FB same at_ in
theorem born {ps : List Value} {ks : List (Str × Value)} (few : ps.length ≤ sizeLine)
    (go : Rs (.ok (.ret (.ref (hp.objs.size + 1)))) ⟨(hp.push (W.kdv_tup ps)).push (excO c hp.objs.size), gs, dr, tk, os⟩) : codeAny (model P wo) Ar (.builtin nid ⟨.ref c :: ps, ks⟩) Rs ⟨hp, gs, dr, tk, os⟩ := by
  have fin := FB.ends
  have i1 := has_in (c := c) same FB.hasB
  have i2 := has_in (c := c) same FB.noAttr
  have i3 := has_in (c := c) same FB.noName
  refine codeAny_builtinAt FB.entry ?_
  unfold Builtin.«BaseException.__new__»
  refine wpAt_bind (?_ : wpAt _ _ _ (stack >>= _) _ _ _)
  refine wpAt_bind (wpAt_stack fun _ _ => wpAt_of_wpAny ?_)
  wp_walk
  refine wpAt_of_wpAny ?_
  rw [FB.owner]
  repeat (first | with_reducible refine wpAny_loadPart_at at_ ?_ | with_reducible refine wpAny_madeHere_exc FB.canon at_ ?_ | (with_reducible refine wpAny_isSubtype_exc at_ ?_; first | rw [i1] | rw [i2] | rw [i3]) | wp_step)
  show Rs _ _
  rw [Heap.size_push]
  exact go
include FB same at_ in
/-- C(.., k = ..): a new object, then the class's own __init__ -/
theorem class_called {ps : List Value} {ks : List (Str × Value)} {fi : Addr} (few : ps.length ≤ sizeLine)
    (ini : W.Looks (model P wo) hp (typeLookup (.ref c) "__init__") (some (.ref fi))) (bnd : ∀ self, W.Looks (model P wo) hp (bindSpecial (.ref fi) self) (.ref fi, [self]))
    (go : codeAny (model P wo) (Ar.under (.builtin "type.__call__" ⟨.ref c :: ps, ks⟩)) (.call (.ref fi) ⟨.ref (hp.objs.size + 1) :: ps, ks⟩) (W.InitBack (hp.objs.size + 1) Rs)
      ⟨(hp.push (W.kdv_tup ps)).push (excO c hp.objs.size), gs, dr, tk, os⟩) : codeAny (model P wo) Ar (.call (.ref c) ⟨ps, ks⟩) Rs ⟨hp, gs, dr, tk, os⟩ := by
  have t1 := tc_lookup
  have t2 := tc_bind (.ref c)
  have isT : (⟨hp, gs, dr, tk, os⟩ : Shared).TypeIs (.ref c) "type" := ⟨_, at_, rfl⟩
  refine codeAny_of_tree (?_ : wpAny _ _ (callAny (.ref c) _) _ _ _)
  repeat (any_goals (first | assumption | wp_step | with_reducible refine wpAny_loadPart_at at_ ?_))
  refine ⟨rfl, codeAny_call_builtin_at (Code.quiet_builtin _ (by decide +kernel)) entry_typeCall (wpAny_check_type_call_sub at_ (?_ : wpAny _ _ (Builtin.«type.__call__» ⟨.ref c :: ps, ks⟩) _ _ _))⟩
  repeat (first | with_reducible refine wpAny_madeBy_exc at_ ?_ | with_reducible refine wpAny_loadPart_at at_ ?_ | wp_step)
  refine codeAny_call_builtin_code (Code.quiet_builtin _ FB.quiet) (new_checked FB same at_ (born FB same at_ few ?_))
  show wpAny _ _ _ _ _ _
  have up : ∀ b o, hp.get? b = some o → ((hp.push (W.kdv_tup ps)).push (excO c hp.objs.size)).get? b = some o := fun _ _ q => Heap.get?_push_of_some _ (Heap.get?_push_of_some _ q)
  have at2 := up _ _ at_
  have obj : ((hp.push (W.kdv_tup ps)).push (excO c hp.objs.size)).get? (hp.objs.size + 1) = some (excO c hp.objs.size) := by heap_get
  have self : (Value.ref c :: tl).contains (.ref c) = true := by simp
  have l1 := ini.keeps up
  have l2 := (bnd (.ref (hp.objs.size + 1))).keeps up
  unfold isInstance
  repeat (first | (with_reducible refine wpAny_isSubtype_exc at2 ?_; rw [self]) | with_reducible refine wpAny_loadPart_at obj ?_ | wp_step)
  refine (l1.at ?_ : wpAny _ _ (typeLookup (.ref c) _) _ _ _)
  refine wpAny_holding (wpAny_bind (l2.at (wpAny_bind (wpAny_call (codeAny_mono go fun r s' q => ?_)))))
  cases r with
  | error e => exact q
  | ok fl =>
    cases fl with
    | ret v =>
      obtain ⟨rfl, q⟩ := q
      first
        | exact wpAny_pure (wpAny_pure q)
        | (wp_walk; exact q)
    | next => exact q.elim
    | brk => exact q.elim
    | cont => exact q.elim
end
end KX
end PySem


namespace PySem
namespace KX
open PySem.W PySem.Calls PyProof.Rows PySem.HandSPX
open Builtin Builtin.ObjectAttr
/-- what the written part says of an own exception class with an own __init__, over the built-in class of that name -/
structure Own (K : Frag) (c fi : Addr) (base nid iid : String) (bt : List Value) : Prop where
  FB : ExcBaseFacts base nid iid bt
  SF : StoreFacts base bt "object.__setattr__" "object"
  ini : excInitIn K c bt nid = true
  over : excOver K c bt = true
  dct : hasDictIn K c = true
  sa : findIn K (.ref c) "__setattr__" = some (some (.builtin "object.__setattr__"))
  ga : findIn K (.ref c) "__getattribute__" = some (some (.builtin "BaseException.__getattribute__"))
  gg : findIn K (.ref c) "__getattr__" = some none
  exc : subIn K (.ref c) (.type "BaseException") = some true
  kp : keepIn K (.ref c) = true
  fI : findIn K (.ref c) "__init__" = some (some (.ref fi))
  fT : typeIn K (.ref fi) = some (.type "function")
  cA : findIn K (.ref c) "__class__" = some (some (.builtin "object.__class__"))
  cN : specialIn K (.builtin "object.__class__") "__get__" = some (some (.builtin "getset_descriptor.__get__"))
  cT : takesIn K (.builtin "object.__class__") = some true
  cM : mroIn K c (.type "object") = some true
/-- no class says anything of the name f -/
structure Free (K : Frag) (c : Addr) (f : Str) : Prop where
  t : takerIn K c f = some none
  n : findIn K (.ref c) f = some none
/-- an exception's object, its dict at d -/
abbrev withD (c t : Addr) (d : Option Addr) : Obj := { cls := .ref c, dict := d, data := .fields #[.ref t, .none, .none, .none, .bool false, .none] }
section
variable {P : Program} {wo : World} {Ar : Around} {Rs : Result → Shared → Prop} {hp : Heap} {gs : Array GenState} {dr : Drawn} {tk : Nat} {os : OsState}
variable {K : Frag} {c fi : Addr} {base nid iid : String} {bt : List Value} {f : Str} {v : Value} {x t : Addr} {tn : Tok}
/-- the first store -/
theorem put_first (O : Own K c fi base nid iid bt) (N : Free K c f) (X : K.In hp) (hx : hp.get? x = some (withD c t none))
    (go : ∀ h' tk' dx, (∀ b o, b ≠ x → hp.get? b = some o → h'.get? b = some o) → hp.objs.size ≤ dx → dx ≠ x → h'.get? x = some (withD c t (some dx)) →
      h'.Ns1 dx (fun y => if y = f then some v else none) → Rs (.ok (.ret .none)) ⟨h', gs, dr, tk', os⟩) :
    codeAny (model P wo) Ar (.call (.builtin "object.__setattr__") ⟨[.ref x, .str f tn, v], []⟩) Rs ⟨hp, gs, dr, tk, os⟩ := by
  have at_ : InstAt hp x (withD c t none) c none := ⟨hx, rfl, rfl, trivial⟩
  have apart : x ≠ hp.objs.size := Nat.ne_of_lt (Heap.lt_size hx)
  obtain ⟨cd, hcd, hdd⟩ := any_some O.dct
  have look : Looks (model P wo) hp (classData c) cd := looks_clsIn X hcd
  refine osa_openX O.SF X at_ O.over N.t fun b => ?_
  show wpAny _ _ (storeInOwnDict (.ref x) (.ref c) (.str f tn) f v b) _ _ _
  obtain ⟨a1, a2, a3, a4, a5, a6, a7, a8, a9, a10, a11⟩ := cd
  have e6 : a6 = true := hdd
  subst e6
  unfold storeInOwnDict ownDictForStores
  repeat (first | with_reducible refine store_in_new ?_ ?_ | with_reducible refine look.at ?_ | with_reducible refine wpAny_loadPart_at hx ?_ | wp_step)
  · exact ⟨_, #[], _, (Heap.get?_update_ne _ _ _ _ apart.symm).trans (Heap.get?_push_at rfl rfl), rfl, fun e he => absurd he (by simp), fun _ => rfl⟩
  · intro h' tk' hn but
    have old : (hp.push { cls := .type "dict", data := .dict #[] }).get? x = some (withD c t none) := Heap.get?_push_of_some _ hx
    exact go h' tk' hp.objs.size (fun b o hb q => (but.2 b (Nat.ne_of_lt (Heap.lt_size q))).trans ((Heap.get?_update_ne _ _ _ _ hb).trans (Heap.get?_push_of_some _ q))) (Nat.le_refl _) apart.symm
      ((but.2 x apart).trans (Heap.get?_update_self _ old rfl)) hn
/-- a further store -/
theorem put_next {dx : Addr} {m0 : Str → Option Value} {ns : List Str} (O : Own K c fi base nid iid bt) (N : Free K c f) (X : K.In hp) (hx : hp.get? x = some (withD c t (some dx))) (hm : hp.Ns1 dx m0) (hw : Within m0 ns) (hz : ns.length ≤ 1000)
    (go : ∀ h' tk', (∀ b o, b ≠ dx → hp.get? b = some o → h'.get? b = some o) → h'.Ns1 dx (fun y => if y = f then some v else m0 y) → Rs (.ok (.ret .none)) ⟨h', gs, dr, tk', os⟩) :
    codeAny (model P wo) Ar (.call (.builtin "object.__setattr__") ⟨[.ref x, .str f tn, v], []⟩) Rs ⟨hp, gs, dr, tk, os⟩ := by
  obtain ⟨od, _, _, hod, _, _⟩ := hm.count hw
  have at_ : InstAt hp x (withD c t (some dx)) c (some od) := ⟨hx, rfl, rfl, hod⟩
  obtain ⟨cd, hcd, hdd⟩ := any_some O.dct
  have look : Looks (model P wo) hp (classData c) cd := looks_clsIn X hcd
  refine osa_openX O.SF X at_ O.over N.t fun b => ?_
  show wpAny _ _ (storeInOwnDict (.ref x) (.ref c) (.str f tn) f v b) _ _ _
  obtain ⟨a1, a2, a3, a4, a5, a6, a7, a8, a9, a10, a11⟩ := cd
  have e6 : a6 = true := hdd
  subst e6
  unfold storeInOwnDict ownDictForStores
  repeat (first | with_reducible refine PySem.OEX.store_in_old hm hw hz ?_ | with_reducible refine look.at ?_ | with_reducible refine wpAny_loadPart_at hx ?_ | wp_step)
  intro h' tk' hn but
  exact go h' tk' (fun b o hb q => (but.2 b hb).trans q) hn
end
end KX
end PySem


namespace PySem
namespace KX
open PySem.W PySem.Calls PyProof.Rows PySem.HandSPX
def arg1 (n : Str) (p : Pos) : Arg := { arg := n, annotation := none, pos := p }
def argsOf (l : List Arg) : Arguments := { posonlyargs := [], args := l, vararg := none, kwonlyargs := [], kw_defaults := [], kwarg := none, defaults := [] }
def setS (f : Str) (q1 q2 q3 q4 : Pos) : Stmt := .Assign [.Attribute (.Name "self" q1) f q2] (.Name f q3) q4
def scOf (l : List Str) : Scope := { kind := .function, names := l.map fun n => (n, .local), isGenerator := false, isCoroutine := false, more := [] }
/-- a local name is read -/
theorem readL {M : Model} {s : Shared} {name : Str} {sc : Scope} {L a : Addr} {cd : Value} {m : Str → Option Value} {x : Str} {pos : Pos} {v : Value} {Q : Value → Shared → Prop} {A : Around} {E : Value → Shared → Prop} (hn : s.heap.Ns L m) (hv : m x = some v)
    (hk : sc.kind = .function) (hl : sc.names.lookup x = some .local) (hd : (x == ("__debug__" : Str)) = false) (h : Q v s) : wpAny M A (eval (.Name x pos) (envOfC name sc L a cd)) Q E s := wpAny_Name (wpAny_loadName_local hk hl hn hv h) hd
/-- what __init__ leaves of the object at x: its dict at dx holds m -/
structure Filled (h h' : Heap) (x c dx t : Addr) (m : Str → Option Value) : Prop where
  old : ∀ b o, b ≠ x → h.get? b = some o → h'.get? b = some o
  obj : h'.get? x = some (withD c t (some dx))
  big : h.objs.size ≤ dx
  ne : dx ≠ x
  ns : h'.Ns1 dx m
section
variable {P : Program} {wo : World} {Ar : Around} {Rs : Result → Shared → Prop} {s : Shared} {K : Frag} {c fi : Addr} {base nid iid : String} {bt : List Value} {f g : Str} {v u : Value} {x t : Addr} {qual : Str} {fd : FuncData} {a1 a2 a3 q1 q2 q3 q4 r1 r2 r3 r4 : Pos} {args : Args}
theorem in_step {A : Around} {E : Value → Shared → Prop} {Q : Flow → Shared → Prop} {L a : Addr} {cd : Value} {sc : Scope} {m : Str → Option Value} {rest : List Stmt} (hn : s.heap.Ns L m) (hk : sc.kind = .function) (sS : sc.names.lookup ("self" : Str) = some NameKind.local) (sF : sc.names.lookup f = some .local)
    (dF : (f == ("__debug__" : Str)) = false) (mS : m "self" = some (.ref x)) (mF : m f = some v)
    (h : wpAny (model P wo) A (setAttr (.ref x) f v) (fun _ s' => wpAny (model P wo) A (execs rest (envOfC qual sc L a cd)) Q E s') E s) :
    wpAny (model P wo) A (execs (setS f q1 q2 q3 q4 :: rest) (envOfC qual sc L a cd)) Q E s := by
  refine wpAny_execs_cons (plainObj_wpAny_Assign_Attribute ?_)
  exact readL hn mF hk sF dF (readL hn mS hk sS (by decide) h)
theorem init_one (O : Own K c fi base nid iid bt) (N : Free K c f) (F : L2.FunD K "__init__" qual (argsOf [arg1 "self" a1, arg1 f a2]) [setS f q1 q2 q3 q4] (scOf ["self", f]) [] [] fi fd) (fs : (f == ("self" : Str)) = false) (fdb : (f == ("__debug__" : Str)) = false)
    (hb : BindsTo s fd args [("self", .ref x), (f, v)]) (X : K.In s.heap) (lim : s.heap.NoLimit) (hx : s.heap.get? x = some (withD c t none)) (room : Ar.depth < recursionLimit)
    (go : ∀ h' tk dx, Filled s.heap h' x c dx t (fun y => if y = f then some v else none) → Rs (.ok (.ret .none)) { s with heap := h', toks := tk }) :
    codeAny (model P wo) Ar (.call (.ref fi) args) Rs s := by
  obtain ⟨oc, od, dV, kV, doc, pm, an, cdv, ct, osl, rfl, lk, hcd, hD, hK⟩ := F.ex
  have l1 : (scOf ["self", f]).names.lookup ("self" : Str) = some .local := by simp [scOf, List.lookup]
  have l2 : (scOf ["self", f]).names.lookup f = some .local := by simp [scOf, List.lookup, fs]
  refine Att.call_fn (binds := [("self", .ref x), (f, v)]) X lim lk hcd room hb (by simp [l1, l2]) (fun s₁ IC => ?_) rfl rfl rfl
  obtain ⟨h₁, tk₁, rfl⟩ := IC.toInCall.same
  have up : ∀ b o, s.heap.get? b = some o → h₁.get? b = some o := IC.toInCall.keep
  have hn := IC.toInCall.ns
  have k1 : (envOfC qual (scOf ["self", f]) s.heap.objs.size fi cdv).kindOf ("self" : Str) = some .local := l1
  have k2 : (envOfC qual (scOf ["self", f]) s.heap.objs.size fi cdv).kindOf f = some .local := l2
  have nsf : ¬ (("self" : Str) = f) := fun z => by rw [← z] at fs; simp at fs
  refine in_step (x := x) (v := v) hn rfl l1 l2 fdb (by simp [bindL, k1, k2, nsf]) (by simp [bindL, k1, k2]) ?_
  refine set_plain (X.keeps up) (ox := withD c t none) (od := none) ⟨up _ _ hx, rfl, rfl, trivial⟩ O.sa ?_
  refine put_first O N (X.keeps up) (up _ _ hx) (fun h₃ tk₃ dx k₃ dn dne hx₃ hn₃ => ?_)
  have z : s.heap.objs.size < h₁.objs.size := hn.lt
  exact wpAny_execs_nil (go h₃ tk₃ dx ⟨fun b o hb e => k₃ b o hb (up b o e), hx₃, Nat.le_of_lt (Nat.lt_of_lt_of_le z dn), dne, hn₃⟩)
theorem init_two (O : Own K c fi base nid iid bt) (N : Free K c f) (N2 : Free K c g) (F : L2.FunD K "__init__" qual (argsOf [arg1 "self" a1, arg1 f a2, arg1 g a3]) [setS f q1 q2 q3 q4, setS g r1 r2 r3 r4] (scOf ["self", f, g]) [] [] fi fd)
    (fs : (f == ("self" : Str)) = false) (gs : (g == ("self" : Str)) = false) (gf : (g == f) = false) (fdb : (f == ("__debug__" : Str)) = false) (gdb : (g == ("__debug__" : Str)) = false)
    (hb : BindsTo s fd args [("self", .ref x), (f, v), (g, u)]) (X : K.In s.heap) (lim : s.heap.NoLimit) (hx : s.heap.get? x = some (withD c t none)) (hnx : K.lookup x = none) (room : Ar.depth < recursionLimit)
    (go : ∀ h' tk dx, Filled s.heap h' x c dx t (fun y => if y = g then some u else if y = f then some v else none) → Rs (.ok (.ret .none)) { s with heap := h', toks := tk }) :
    codeAny (model P wo) Ar (.call (.ref fi) args) Rs s := by
  obtain ⟨oc, od, dV, kV, doc, pm, an, cdv, ct, osl, rfl, lk, hcd, hD, hK⟩ := F.ex
  have l1 : (scOf ["self", f, g]).names.lookup ("self" : Str) = some .local := by simp [scOf, List.lookup]
  have l2 : (scOf ["self", f, g]).names.lookup f = some .local := by simp [scOf, List.lookup, fs]
  have l3 : (scOf ["self", f, g]).names.lookup g = some .local := by simp [scOf, List.lookup, gs, gf]
  refine Att.call_fn (binds := [("self", .ref x), (f, v), (g, u)]) X lim lk hcd room hb (by simp [l1, l2, l3]) (fun s₁ IC => ?_) rfl rfl rfl
  obtain ⟨h₁, tk₁, rfl⟩ := IC.toInCall.same
  have up : ∀ b o, s.heap.get? b = some o → h₁.get? b = some o := IC.toInCall.keep
  have hn := IC.toInCall.ns
  have k1 : (envOfC qual (scOf ["self", f, g]) s.heap.objs.size fi cdv).kindOf ("self" : Str) = some .local := l1
  have k2 : (envOfC qual (scOf ["self", f, g]) s.heap.objs.size fi cdv).kindOf f = some .local := l2
  have k3 : (envOfC qual (scOf ["self", f, g]) s.heap.objs.size fi cdv).kindOf g = some .local := l3
  have n1 : ¬ (("self" : Str) = f) := fun z => by rw [← z] at fs; simp at fs
  have n2 : ¬ (("self" : Str) = g) := fun z => by rw [← z] at gs; simp at gs
  have n3 : ¬ (f = g) := fun z => by rw [← z] at gf; simp at gf
  refine in_step (x := x) (v := v) hn rfl l1 l2 fdb (by simp [bindL, k1, k2, k3, n1, n2]) (by simp [bindL, k1, k2, k3, n3]) ?_
  refine set_plain (X.keeps up) (ox := withD c t none) (od := none) ⟨up _ _ hx, rfl, rfl, trivial⟩ O.sa ?_
  refine put_first O N (X.keeps up) (up _ _ hx) (fun h₃ tk₃ dx k₃ dn dne hx₃ hn₃ => ?_)
  have z : s.heap.objs.size < h₁.objs.size := hn.lt
  have lx : s.heap.objs.size ≠ x := Nat.ne_of_gt (Heap.lt_size hx)
  have hn3 : h₃.Ns s.heap.objs.size _ := hn.at fun o q => k₃ _ _ lx q
  obtain ⟨od3, _, _, hod3, _, _⟩ := hn₃.count (Within.cons f v Within.nil)
  have X3 : K.In h₃ := fun b o e => by
    by_cases hbx : b = x
    · rw [hbx, hnx] at e
      cases e
    · exact k₃ b o hbx (up _ _ (X b o e))
  refine in_step (x := x) (v := u) hn3 rfl l1 l3 gdb (by simp [bindL, k1, k2, k3, n1, n2]) (by simp [bindL, k1, k2, k3]) ?_
  refine set_plain X3 (ox := withD c t (some dx)) (od := some od3) ⟨hx₃, rfl, rfl, hod3⟩ O.sa ?_
  refine put_next O N2 X3 hx₃ hn₃ (Within.cons f v Within.nil) (by show 1 ≤ 1000; decide) (fun h₄ tk₄ k₄ hn₄ => ?_)
  exact wpAny_execs_nil (go h₄ tk₄ dx ⟨fun b o hb e => k₄ b o (Nat.ne_of_lt (Nat.lt_of_lt_of_le (Heap.lt_size (up b o e)) dn)) (k₃ b o hb (up b o e)), k₄ _ _ dne.symm hx₃, Nat.le_of_lt (Nat.lt_of_lt_of_le z dn), dne, hn₄⟩)
end
end KX
end PySem


namespace L2
open PySem PySem.Spec PyProof.Rows PySem.KX
/-- the end of C(..): the object at e and its dict at d stand -/
def Laid (H : Hp) (c : Addr) (fs : List (Str × V)) (Q : VK) : Prop := ∀ e d, H e = none → H d = none → d ≠ e → Q (.ref e) (upd (upd H d (exd d fs)) e (exo e c (some d)))
section
variable {X : Cx} {pins : List (Addr × Obj)} {σ : St} {H : Hp} {s : Shared} {c fi : Addr} {base nid iid : String} {bt : List Value} {f g : Str} {y z : V} {v u : Value} {qual : Str} {fd : FuncData} {a1 a2 a3 q1 q2 q3 q4 r1 r2 r3 r4 : Pos} {us : List Value} {ks : List (Str × Value)} {Q : VK} {k : Nat}
theorem laid_end {hp h' : Heap} {g0 : Array GenState} {dr : Drawn} {t0 t' : Nat} {os : OsState} {d0 t1 : Addr} {m : Str → Option Value} {fs : List (Str × V)} (I : Inv X pins σ H ⟨hp, g0, dr, t0, os⟩) (h : Laid H c fs Q) {w1 w2 : Obj}
    (M : Filled ((hp.push w1).push w2) h' (hp.objs.size + 1) c d0 t1 m) (rel : ∀ f, RelO (fs.lookup f) (m f)) :
    EP X pins σ Q (.ref (hp.objs.size + 1)) ⟨h', g0, dr, t', os⟩ := by
  have old : ∀ b o, hp.get? b = some o → h'.get? b = some o := fun b o e => M.old b o (Nat.ne_of_lt (Nat.lt_succ_of_lt (Heap.lt_size e))) (Heap.get?_push_of_some _ (Heap.get?_push_of_some _ e))
  have big : hp.objs.size ≤ d0 := by
    have z := M.big
    rw [Heap.size_push, Heap.size_push] at z
    omega
  have hn : H (hp.objs.size + 1) = none := I.hok.fresh (Nat.le_succ _)
  have hd : H d0 = none := I.hok.fresh big
  obtain ⟨G, g1, g2⟩ := restrict h' fun b => decide (b ≠ hp.objs.size + 1)
  have gk : ∀ b, b ≠ hp.objs.size + 1 → G.get? b = h'.get? b := fun b hb => g1 b (decide_eq_true hb)
  have ge : G.get? (hp.objs.size + 1) = none := g2 _ (by simp)
  have oldG : ∀ b o, hp.get? b = some o → G.get? b = some o := fun b o q => (gk b (Nat.ne_of_lt (Nat.lt_succ_of_lt (Heap.lt_size q)))).trans (old b o q)
  have J : Inv X pins σ (upd H d0 (exd d0 fs)) ⟨G, g0, dr, t', os⟩ := I.laid (t' := t') oldG big (exd_ok (M.ns.at fun o q => (gk d0 M.ne).trans q) rel)
  have he : (upd H d0 (exd d0 fs)) (hp.objs.size + 1) = none := by rw [upd_ne M.ne.symm]; exact hn
  refine ⟨.ref (hp.objs.size + 1), _, J.laidN (t' := t') (h' := h') (fun b o q => ?_) ge he (exo_ok M.obj), rfl, h _ _ hn hd M.ne⟩
  by_cases hb : b = hp.objs.size + 1
  · have q' : G.get? b = some o := q
    rw [hb, ge] at q'
    cases q'
  · exact (gk b hb).symm.trans q
theorem not_written {K : PySem.W.Frag} {hp : Heap} (KX : K.In hp) : K.lookup (hp.objs.size + 1) = none := by
  cases e : K.lookup (hp.objs.size + 1) with
  | none => rfl
  | some o =>
    have z : hp.get? (hp.objs.size + 1) = some o := KX _ _ e
    exact absurd (Nat.lt_of_succ_lt (Heap.lt_size z)) (Nat.lt_irrefl _)
theorem run_mk1 (O : Own X.K c fi base nid iid bt) (N : Free X.K c f) (F : FunD X.K "__init__" qual (argsOf [arg1 "self" a1, arg1 f a2]) [setS f q1 q2 q3 q4] (scOf ["self", f]) [] [] fi fd) (fs : (f == ("self" : Str)) = false) (fdb : (f == ("__debug__" : Str)) = false)
    (hr : Room 1 X.A) (I : Inv X pins σ H s) (rv : RelV y v) (few : us.length ≤ sizeLine) (hb : ∀ s self, BindsTo s fd ⟨.ref self :: us, ks⟩ [("self", .ref self), (f, v)])
    (h : Laid H c [(f, y)] Q) : wpAny (model X.prog X.w) X.A (call (.ref c) us ks) (EP X pins σ Q) X.xe s := by
  obtain ⟨nm, nsA, qn, bs, bm, hdct, sn, sub, ab, col, dd, k0, k1, k2, k3, k5, hC, same⟩ := PySem.W.excInit_of I.kIn O.ini
  obtain ⟨hp, g0, dr, tk, os⟩ := s
  have up : ∀ b o, hp.get? b = some o → ((hp.push (PySem.W.kdv_tup us)).push (PySem.HandSPX.excO c hp.objs.size)).get? b = some o := fun b o e => Heap.get?_push_of_some _ (Heap.get?_push_of_some _ e)
  have obj : ((hp.push (PySem.W.kdv_tup us)).push (PySem.HandSPX.excO c hp.objs.size)).get? (hp.objs.size + 1) = some (withD c hp.objs.size none) := by heap_get
  refine wpAny_call (class_called O.FB same hC few (PySem.W.looks_findIn I.kIn O.fI) (fun self => PySem.W.bind_fn I.kIn self O.fT) ?_)
  refine init_one (s := ⟨(hp.push (PySem.W.kdv_tup us)).push (PySem.HandSPX.excO c hp.objs.size), g0, dr, tk, os⟩) O N F fs fdb (hb _ _) (I.kIn.keeps up) (I.nolimit.keeps up) obj (by show X.A.depth + 1 < recursionLimit; have := hr.dp; omega) fun h' tk' d0 M => ?_
  refine ⟨rfl, laid_end I h M fun q => ?_⟩
  exact relO_put (fs := []) (mA := fun _ => none) rv (fun _ => True.intro) q
theorem run_mk2 (O : Own X.K c fi base nid iid bt) (N : Free X.K c f) (N2 : Free X.K c g) (F : FunD X.K "__init__" qual (argsOf [arg1 "self" a1, arg1 f a2, arg1 g a3]) [setS f q1 q2 q3 q4, setS g r1 r2 r3 r4] (scOf ["self", f, g]) [] [] fi fd)
    (fs : (f == ("self" : Str)) = false) (gs : (g == ("self" : Str)) = false) (gf : (g == f) = false) (fdb : (f == ("__debug__" : Str)) = false) (gdb : (g == ("__debug__" : Str)) = false)
    (hr : Room 1 X.A) (I : Inv X pins σ H s) (rv : RelV y v) (ru : RelV z u) (few : us.length ≤ sizeLine) (hb : ∀ s self, BindsTo s fd ⟨.ref self :: us, ks⟩ [("self", .ref self), (f, v), (g, u)])
    (h : Laid H c [(g, z), (f, y)] Q) : wpAny (model X.prog X.w) X.A (call (.ref c) us ks) (EP X pins σ Q) X.xe s := by
  obtain ⟨nm, nsA, qn, bs, bm, hdct, sn, sub, ab, col, dd, k0, k1, k2, k3, k5, hC, same⟩ := PySem.W.excInit_of I.kIn O.ini
  obtain ⟨hp, g0, dr, tk, os⟩ := s
  have up : ∀ b o, hp.get? b = some o → ((hp.push (PySem.W.kdv_tup us)).push (PySem.HandSPX.excO c hp.objs.size)).get? b = some o := fun b o e => Heap.get?_push_of_some _ (Heap.get?_push_of_some _ e)
  have obj : ((hp.push (PySem.W.kdv_tup us)).push (PySem.HandSPX.excO c hp.objs.size)).get? (hp.objs.size + 1) = some (withD c hp.objs.size none) := by heap_get
  refine wpAny_call (class_called O.FB same hC few (PySem.W.looks_findIn I.kIn O.fI) (fun self => PySem.W.bind_fn I.kIn self O.fT) ?_)
  refine init_two (s := ⟨(hp.push (PySem.W.kdv_tup us)).push (PySem.HandSPX.excO c hp.objs.size), g0, dr, tk, os⟩) O N N2 F fs gs gf fdb gdb (hb _ _) (I.kIn.keeps up) (I.nolimit.keeps up) obj (not_written I.kIn) (by show X.A.depth + 1 < recursionLimit; have := hr.dp; omega) fun h' tk' d0 M => ?_
  refine ⟨rfl, laid_end I h M fun q => ?_⟩
  exact relO_put (fs := [(f, y)]) ru (relO_put (fs := []) (mA := fun _ => none) rv (fun _ => True.intro)) q
end
end L2


namespace L2
open PySem PySem.Spec PyProof.Rows PySem.KX
/-- the class nm, at c, has an __init__ of one field f -/
structure Cl1 (K : PySem.W.Frag) (c : Addr) (f : Str) : Prop where
  ex : ∃ (fi : Addr) (base nid iid : String) (bt : List Value) (qual : Str) (fd : FuncData) (a1 a2 q1 q2 q3 q4 : Pos), Own K c fi base nid iid bt ∧
    FunD K "__init__" qual (argsOf [arg1 "self" a1, arg1 f a2]) [setS f q1 q2 q3 q4] (scOf ["self", f]) [] [] fi fd ∧
    (∀ s self v, BindsTo s fd ⟨[.ref self, v], []⟩ [("self", .ref self), (f, v)]) ∧ ∀ s self v, BindsTo s fd ⟨[.ref self], [(f, v)]⟩ [("self", .ref self), (f, v)]
  fr : Free K c f
  fs : (f == ("self" : Str)) = false
  fdb : (f == ("__debug__" : Str)) = false
  kp : PySem.W.keepIn K (.ref c) = true
/-- .. of two fields f, g; by name in the other order -/
structure Cl2 (K : PySem.W.Frag) (c : Addr) (f g : Str) : Prop where
  ex : ∃ (fi : Addr) (base nid iid : String) (bt : List Value) (qual : Str) (fd : FuncData) (a1 a2 a3 q1 q2 q3 q4 r1 r2 r3 r4 : Pos), Own K c fi base nid iid bt ∧
    FunD K "__init__" qual (argsOf [arg1 "self" a1, arg1 f a2, arg1 g a3]) [setS f q1 q2 q3 q4, setS g r1 r2 r3 r4] (scOf ["self", f, g]) [] [] fi fd ∧
    (∀ s self v u, BindsTo s fd ⟨[.ref self, v, u], []⟩ [("self", .ref self), (f, v), (g, u)]) ∧ ∀ s self v u, BindsTo s fd ⟨[.ref self], [(g, u), (f, v)]⟩ [("self", .ref self), (f, v), (g, u)]
  fr : Free K c f
  gr : Free K c g
  fs : (f == ("self" : Str)) = false
  gs : (g == ("self" : Str)) = false
  gf : (g == f) = false
  fdb : (f == ("__debug__" : Str)) = false
  gdb : (g == ("__debug__" : Str)) = false
  kp : PySem.W.keepIn K (.ref c) = true
/-- what reading an exception of the class at c wants -/
structure ClG (K : PySem.W.Frag) (c : Addr) : Prop where
  ga : PySem.W.findIn K (.ref c) "__getattribute__" = some (some (.builtin "BaseException.__getattribute__"))
  gg : PySem.W.findIn K (.ref c) "__getattr__" = some none
  exc : PySem.W.subIn K (.ref c) (.type "BaseException") = some true
  dct : PySem.W.hasDictIn K c = true
  cA : PySem.W.findIn K (.ref c) "__class__" = some (some (.builtin "object.__class__"))
  cN : PySem.W.specialIn K (.builtin "object.__class__") "__get__" = some (some (.builtin "getset_descriptor.__get__"))
  cT : PySem.W.takesIn K (.builtin "object.__class__") = some true
  cM : PySem.W.mroIn K c (.type "object") = some true
def tX1 (c : Addr) (f : Str) (ta : TA) : TE := fun σ H Q => ta σ H fun vs H1 => ∃ y, vs = [y] ∧ Laid H1 c [(f, y)] Q
def tX2 (c : Addr) (f g : Str) (ta : TA) : TE := fun σ H Q => ta σ H fun vs H1 => ∃ y z, vs = [y, z] ∧ Laid H1 c [(g, z), (f, y)] Q
def tX2k (c : Addr) (f g : Str) (ta : TA) : TE := fun σ H Q => ta σ H fun vs H1 => ∃ y z, vs = [z, y] ∧ Laid H1 c [(g, z), (f, y)] Q
/-- e.f of an exception object -/
def tXG (K : PySem.W.Frag) (f : Str) (te : TE) : TE := fun σ H Q => te σ H fun x H1 => ∃ (a c d : Addr) (fs : List (Str × V)) (v : V), x = .ref a ∧ ClG K c ∧ PySem.W.findIn K (.ref c) f = some none ∧ H1 a = some (exo a c (some d)) ∧ H1 d = some (exd d fs) ∧ fs.lookup f = some v ∧ Q v H1
def rIsX (K : PySem.W.Frag) : List V → Hp → VK → Prop := fun xs H Q => ∃ (a c d : Addr) (fs : List (Str × V)) (k : V) (u : Value) (b : Bool), xs = [.ref a, k] ∧ ClsV k u ∧ ClG K c ∧ H a = some (exo a c (some d)) ∧ H d = some (exd d fs) ∧ PySem.W.kitOne K (.ref c) u = some b ∧ Q (.bl b) H
section
variable {X : Cx} {c : Addr} {f g : Str} {x : Str} {p pos : Pos} {e : Expr} {es : List Expr} {kws : List Keyword} {ta : TA} {te : TE}
theorem one_few (v : Value) : [v].length ≤ sizeLine := by
  rw [sizeLine_eq]
  exact (by decide : 1 ≤ 16777216)
theorem two_few (v u : Value) : [v, u].length ≤ sizeLine := by
  rw [sizeLine_eq]
  exact (by decide : 2 ≤ 16777216)
theorem nil_few : ([] : List Value).length ≤ sizeLine := Nat.zero_le _
theorem pe_x1 (T : Cl1 X.K c f) (hr : Room 1 X.A) (hm : X.mg x = some (.ref c)) (hg : Gl X x) (ha : PA X [e] ta) (hdb : (x == ("__debug__" : Str)) = false := by decide)
    (he : starEach (e :: []) X.env = (false, eval e X.env) :: starEach [] X.env := by rfl) (hpl : (backTo pos (starEach [] X.env)).any (·.1) = false := by rfl) : PE X (.Call (.Name x p) [e] [] pos) (tX1 c f ta) := by
  refine ⟨fun pins s σ H Q I h => ?_⟩
  obtain ⟨fi, base, nid, iid, bt, qual, fd, a1, a2, q1, q2, q3, q4, O, F, b1, b2⟩ := T.ex
  refine wpAny_Call_Name_kw (ld_glob I hg hm ?_ hdb)
  refine PySem.W.callWith_K (h₀ := X.base) I.ok.mod.kin T.kp (thn (ha.run pos pins s σ H _ I h) fun us s1 hh => ?_) he hpl
  obtain ⟨vs, H1, I1, r1, y, rfl, q⟩ := hh
  obtain ⟨u, rfl, ru⟩ := vals1 r1
  exact ⟨I1.kIn, run_mk1 (us := [u]) (ks := []) O T.fr F T.fs T.fdb hr I1 ru (one_few u) (fun s self => b1 s self u) q⟩
theorem pe_x1k (T : Cl1 X.K c f) (hr : Room 1 X.A) (hm : X.mg x = some (.ref c)) (hg : Gl X x) (hkw : PK X kws ta) (hall : (backToKw pos (keywordEach kws X.env)).all (·.1.isSome) = true := by rfl) (hks : (backToKw pos (keywordEach kws X.env)).filterMap (·.1) = [f] := by rfl)
    (hdb : (x == ("__debug__" : Str)) = false := by decide) (hpl : ((backTo pos (starEach [] X.env)).any (·.1) || (backToKw pos (keywordEach kws X.env)).any (·.1.isNone)) = false := by rfl) : PE X (.Call (.Name x p) [] kws pos) (tX1 c f ta) := by
  refine ⟨fun pins s σ H Q I h => ?_⟩
  obtain ⟨fi, base, nid, iid, bt, qual, fd, a1, a2, q1, q2, q3, q4, O, F, b1, b2⟩ := T.ex
  refine wpAny_Call_Name_kw (ld_glob I hg hm ?_ hdb)
  refine PySem.W.callWith_KW0 (h₀ := X.base) I.ok.mod.kin T.kp hall ?_ hpl
  refine thn (hkw.run pos pins s σ H _ I h) fun ws s2 hh => ?_
  obtain ⟨zs, H2, I2, rz, y, rfl, q⟩ := hh
  obtain ⟨u, rfl, ru⟩ := vals1 rz
  refine ⟨I2.kIn, ?_⟩
  rw [hks]
  exact run_mk1 (us := []) (ks := [(f, u)]) O T.fr F T.fs T.fdb hr I2 ru nil_few (fun s self => b2 s self u) q
theorem pe_x2 (T : Cl2 X.K c f g) (hr : Room 1 X.A) (hm : X.mg x = some (.ref c)) (hg : Gl X x) (ha : PA X (e :: es) ta) (hdb : (x == ("__debug__" : Str)) = false := by decide)
    (he : starEach (e :: es) X.env = (false, eval e X.env) :: starEach es X.env := by rfl) (hpl : (backTo pos (starEach es X.env)).any (·.1) = false := by rfl) : PE X (.Call (.Name x p) (e :: es) [] pos) (tX2 c f g ta) := by
  refine ⟨fun pins s σ H Q I h => ?_⟩
  obtain ⟨fi, base, nid, iid, bt, qual, fd, a1, a2, a3, q1, q2, q3, q4, r1, r2, r3, r4, O, F, b1, b2⟩ := T.ex
  refine wpAny_Call_Name_kw (ld_glob I hg hm ?_ hdb)
  refine PySem.W.callWith_K (h₀ := X.base) I.ok.mod.kin T.kp (thn (ha.run pos pins s σ H _ I h) fun us s1 hh => ?_) he hpl
  obtain ⟨vs, H1, I1, r1, y, z, rfl, q⟩ := hh
  obtain ⟨u, u2, rfl, ru, ru2⟩ := vals2 r1
  exact ⟨I1.kIn, run_mk2 (us := [u, u2]) (ks := []) O T.fr T.gr F T.fs T.gs T.gf T.fdb T.gdb hr I1 ru ru2 (two_few u u2) (fun s self => b1 s self u u2) q⟩
theorem pe_x2k (T : Cl2 X.K c f g) (hr : Room 1 X.A) (hm : X.mg x = some (.ref c)) (hg : Gl X x) (hkw : PK X kws ta) (hall : (backToKw pos (keywordEach kws X.env)).all (·.1.isSome) = true := by rfl) (hks : (backToKw pos (keywordEach kws X.env)).filterMap (·.1) = [g, f] := by rfl)
    (hdb : (x == ("__debug__" : Str)) = false := by decide) (hpl : ((backTo pos (starEach [] X.env)).any (·.1) || (backToKw pos (keywordEach kws X.env)).any (·.1.isNone)) = false := by rfl) : PE X (.Call (.Name x p) [] kws pos) (tX2k c f g ta) := by
  refine ⟨fun pins s σ H Q I h => ?_⟩
  obtain ⟨fi, base, nid, iid, bt, qual, fd, a1, a2, a3, q1, q2, q3, q4, r1, r2, r3, r4, O, F, b1, b2⟩ := T.ex
  refine wpAny_Call_Name_kw (ld_glob I hg hm ?_ hdb)
  refine PySem.W.callWith_KW0 (h₀ := X.base) I.ok.mod.kin T.kp hall ?_ hpl
  refine thn (hkw.run pos pins s σ H _ I h) fun ws s2 hh => ?_
  obtain ⟨zs, H2, I2, rz, y, z, rfl, q⟩ := hh
  obtain ⟨u2, u, rfl, ru2, ru⟩ := vals2 rz
  refine ⟨I2.kIn, ?_⟩
  rw [hks]
  exact run_mk2 (us := []) (ks := [(g, u2), (f, u)]) O T.fr T.gr F T.fs T.gs T.gf T.fdb T.gdb hr I2 ru ru2 nil_few (fun s self => b2 s self u u2) q
theorem inst_at {pins : List (Addr × Obj)} {σ : St} {H : Hp} {s : Shared} {a d : Addr} {fs : List (Str × V)} (I : Inv X pins σ H s) (ea : H a = some (exo a c (some d))) (ed : H d = some (exd d fs)) :
    ∃ ox od, PySem.W.InstAt s.heap a ox c (some od) ∧ ∀ f v, fs.lookup f = some v → ∃ u, PySem.W.lookIn f od = some (some u) ∧ RelV v u := by
  obtain ⟨t1, ho⟩ := exo_at I.hok ea
  obtain ⟨mA, hns, rel⟩ := exd_at I.hok ed
  obtain ⟨od, hod, hl⟩ := lookIn_ns hns
  refine ⟨_, od, ⟨ho, rfl, rfl, hod⟩, fun f v l => ?_⟩
  obtain ⟨u, hu, ru⟩ := RelO.some_of (v := v) (o := mA f) (by rw [← l]; exact rel f)
  exact ⟨u, by rw [hl, hu], ru⟩
theorem pe_xg (he : PE X e te) (hb : attributeBase e f X.env (eval e X.env) = eval e X.env := by rfl) : PE X (.Attribute e f pos) (tXG X.K f te) := by
  refine ⟨fun pins s σ H Q I h => ?_⟩
  refine attr_of hb (thn (he.run pins s σ H _ I h) fun u s1 hh => ?_)
  obtain ⟨x, H1, I1, rx, a, c, d, fs, v, rfl, T, hno, ea, ed, l, q⟩ := hh
  obtain rfl : u = Value.ref a := rx
  obtain ⟨ox, od, J, look⟩ := inst_at I1 ea ed
  obtain ⟨w, lw, rw'⟩ := look f v l
  exact HandSPX.exc_get I1.kIn J T.ga T.gg T.exc (PySem.W.findObj_own T.dct hno rfl lw) (handed_of rw') ⟨v, H1, I1.tok _, rw', q⟩
theorem call_isX : CallR X (.builtin "isinstance") (rIsX X.K) := by
  intro pins s σ H xs us Q I r h
  obtain ⟨a, c, d, fs, k, u, b, rfl, ku, T, ea, ed, e, q⟩ := h
  obtain ⟨u1, u2, rfl, r1, r2⟩ := vals2 r
  have e2 := ku.eq r2
  subst e2
  obtain rfl : u1 = Value.ref a := r1
  obtain ⟨ox, od, J, look⟩ := inst_at I ea ed
  exact PySem.W.kia_one (PySem.W.kitx_exc (by obtain ⟨cd, hc, _⟩ := PySem.W.any_some T.dct; rw [hc]; rfl) T.ga T.gg T.exc T.cA T.cN T.cT T.cM) I.kIn J e (fun z => nomatch z) fun tk => ⟨.bl b, H, I.tok tk, rfl, q⟩
end
end L2


namespace L2
open PySem PySem.Spec PyProof.Rows PySem.KX
/-! repr of data: lists, tuples, dicts of flat values -/
def keyD : Key → PyData
  | .inl i => .int i
  | .inr x => .str x
def leafD : V → PyData
  | .int i => .int i
  | .str x => .str x
  | _ => .none
def leafV (v : V) : Prop := (∃ i, v = .int i) ∨ ∃ x, v = .str x
mutual
inductive Dq (H : Hp) : V → PyData → Prop
  | non : Dq H .non .none
  | bl (b : Bool) : Dq H (.bl b) (.bool b)
  | int (i : Int) : Dq H (.int i) (.int i)
  | str (x : Str) : Dq H (.str x) (.str x)
  | lst {a : Addr} {xs : List V} {ds : List PyData} : H a = some (.lst xs) → sysModules ≠ a → DqAll H xs ds → Dq H (.ref a) (.list ds)
  | tup {a : Addr} {xs : List V} {ds : List PyData} : H a = some (.tup xs) → DqAll H xs ds → Dq H (.ref a) (.tuple ds)
  | dct {a : Addr} {kvs : List (Key × V)} : H a = some (.dK kvs) → (∀ p ∈ kvs, leafV p.2) → Dq H (.ref a) (.dict (kvs.map fun p => (keyD p.1, leafD p.2)))
inductive DqAll (H : Hp) : List V → List PyData → Prop
  | nil : DqAll H [] []
  | cons {v : V} {vs : List V} {d : PyData} {ds : List PyData} : Dq H v d → DqAll H vs ds → DqAll H (v :: vs) (d :: ds)
end
mutual
theorem Dq.mono {H H' : Hp} (s : Same H H') : ∀ {v : V} {d : PyData}, Dq H v d → Dq H' v d
  | _, _, .non => .non
  | _, _, .bl b => .bl b
  | _, _, .int i => .int i
  | _, _, .str x => .str x
  | _, _, .lst h n a => .lst (s _ _ h) n (DqAll.mono s a)
  | _, _, .tup h a => .tup (s _ _ h) (DqAll.mono s a)
  | _, _, .dct h a => .dct (s _ _ h) a
theorem DqAll.mono {H H' : Hp} (s : Same H H') : ∀ {v : List V} {d : List PyData}, DqAll H v d → DqAll H' v d
  | _, _, .nil => .nil
  | _, _, .cons a b => .cons (Dq.mono s a) (DqAll.mono s b)
end
section
variable {X : Cx} {pins : List (Addr × Obj)} {σ : St} {H : Hp} {s : Shared}
theorem reads_keys (h : Heap) {P : Program} {w : World} : ∀ {es : List DictEntry} {vs : List (Key × Value)}, Pairs (mixKind P w) es vs → ReadsAll h (es.map (·.key)) (vs.map fun p => keyD p.1) [] ∧ es.map (·.val) = vs.map (·.2) := by
  intro es vs hp
  induction hp with
  | nil => exact ⟨.nil, rfl⟩
  | @cons e kv es kvs hk hv _ ih =>
    obtain ⟨i1, i2⟩ := ih
    have kd : ∀ k : Key, ∀ u : Value, keyIs k u = true → Reads h u (keyD k) [] := fun k u q => by
      rcases keyIs_shape q with ⟨i, t, rfl, rfl⟩ | ⟨x, t, rfl, rfl⟩
      · exact .int i t
      · exact .str x t
    exact ⟨ReadsAll.cons (as := []) (bs := []) (kd _ _ hk) i1, by rw [List.map_cons, List.map_cons, i2, hv]⟩
theorem reads_leaf {h : Heap} {v : V} {u : Value} (l : leafV v) (r : RelV v u) : Reads h u (leafD v) [] := by
  rcases l with ⟨i, rfl⟩ | ⟨x, rfl⟩
  · obtain ⟨t, rfl⟩ := r
    exact .int i t
  · obtain ⟨t, rfl⟩ := r
    exact .str x t
theorem reads_vals {h : Heap} : ∀ {kvs : List (Key × V)} {vs : List (Key × Value)}, KV kvs vs → (∀ p ∈ kvs, leafV p.2) → ReadsAll h (vs.map (·.2)) (kvs.map fun p => leafD p.2) [] ∧ (vs.map fun p => keyD p.1) = kvs.map fun p => keyD p.1 := by
  intro kvs vs r
  unfold KV at r
  induction r with
  | nil => intro _; exact ⟨.nil, rfl⟩
  | @cons p q ps qs hpq t ih =>
    intro l
    obtain ⟨i1, i2⟩ := ih fun z hz => l z (List.mem_cons_of_mem _ hz)
    refine ⟨ReadsAll.cons (as := []) (bs := []) (reads_leaf (l p List.mem_cons_self) hpq.2) i1, ?_⟩
    rw [List.map_cons, List.map_cons, i2, hpq.1]
mutual
theorem Dq.reads (I : Inv X pins σ H s) : ∀ {v : V} {d : PyData} {u : Value}, Dq H v d → RelV v u → ∃ as, Reads s.heap u d as ∧ sysModules ∉ as
  | _, _, _, .non, r => by cases r; exact ⟨_, .none, nofun⟩
  | _, _, _, .bl b, r => by cases r; exact ⟨_, .bool b, nofun⟩
  | _, _, _, .int i, r => by obtain ⟨t, rfl⟩ := r; exact ⟨_, .int i t, nofun⟩
  | _, _, _, .str x, r => by obtain ⟨t, rfl⟩ := r; exact ⟨_, .str x t, nofun⟩
  | _, _, _, .lst h n a, r => by
    cases r
    obtain ⟨its, rv, ⟨o, m, ho, hc, _, hd⟩, _⟩ := I.list (SqL.of h)
    obtain ⟨as, hr, hn⟩ := DqAll.reads I a rv
    exact ⟨_, Reads.list ho hc hd hr, fun z => by rcases List.mem_cons.mp z with e | e; exact n e; exact hn e⟩
  | _, _, _, .tup h a, r => by
    cases r
    obtain ⟨its, rv, ⟨o, ho, hc, m, hd⟩, _⟩ := I.tuple (SqT.of h)
    obtain ⟨as, hr, hn⟩ := DqAll.reads I a rv
    exact ⟨_, Reads.tuple ho hc hd hr, hn⟩
  | _, _, _, .dct (a := a) (kvs := kvs) h l, r => by
    cases r
    obtain ⟨_, hs, vs, rv, o, es, ep, h1, h2, h3, _, h5, _⟩ := (show ObjOk X.prog X.w H s.heap a (.dK kvs) from I.hok a _ h)
    obtain ⟨k1, k2⟩ := reads_keys s.heap h5
    obtain ⟨v1, v2⟩ := reads_vals (h := s.heap) rv l
    refine ⟨_, Reads.dict (as := []) (bs := []) h1 h2.1 h3 ?_ ?_, ?_⟩
    · rw [List.map_map]
      rw [v2] at k1
      exact k1
    · rw [k2, List.map_map]
      exact v1
    · intro z
      simp at z
      rw [← z] at hs
      simp at hs
theorem DqAll.reads (I : Inv X pins σ H s) : ∀ {v : List V} {d : List PyData} {u : List Value}, DqAll H v d → Vals v u → ∃ as, ReadsAll s.heap u d as ∧ sysModules ∉ as
  | _, _, _, .nil, r => by cases r; exact ⟨_, .nil, nofun⟩
  | _, _, _, .cons a b, r => by
    cases r with
    | cons r1 r2 =>
      obtain ⟨as, q1, n1⟩ := Dq.reads I a r1
      obtain ⟨bs, q2, n2⟩ := DqAll.reads I b r2
      exact ⟨_, .cons q1 q2, fun z => by rcases List.mem_append.mp z with e | e; exact n1 e; exact n2 e⟩
end
end
section
variable {X : Cx}
/-- a list display, new, not sys.modules -/
def tLstN (t : TA) : TE := fun σ H Q => t σ H fun xs H1 => xs.length ≤ sizeLine ∧ ∀ l, H1 l = none → sysModules ≠ l → Q (.ref l) (upd H1 l (.lst xs))
theorem pe_lstN {es : List Expr} {t : TA} {pos : Pos} (h : PA X es t) : PE X (.List es pos) (tLstN t) := by
  refine ⟨fun pins s σ H Q I hq => ?_⟩
  refine wpAny_List_spliced (thn (h.run pos pins s σ H _ I hq) fun us s1 hh => ?_)
  obtain ⟨xs, H1, I1, r, z, q⟩ := hh
  refine ⟨by rw [← r.length]; exact z, .ref s1.heap.objs.size, upd H1 s1.heap.objs.size (.lst xs), I1.laid (t' := s1.toks) (fun b u e => Heap.get?_push_of_some _ e) (Nat.le_refl _) ⟨z, us, 0, r, Heap.get?_push_size _ rfl⟩, rfl, ?_⟩
  exact q _ (I1.hok.fresh (Nat.le_refl _)) (Nat.ne_of_lt I1.big)
/-- repr(x), x a list or a tuple or a dict -/
def rShow (xs : List V) (H : Hp) (Q : VK) : Prop := ∃ (a : Addr) (d : PyData), xs = [.ref a] ∧ Dq H (.ref a) d ∧ d.showable = true ∧ d.depth ≤ 20 ∧ d.shown.length ≤ sizeLine ∧ Q (.str d.shown) H
theorem call_repD (hr : Room 1 X.A) (hg : X.A.guards = some []) : CallR X (.builtin "repr") rShow := by
  intro pins s σ H xs us Q I r h
  obtain ⟨a, d, rfl, hd, hs, hdp, hz, q⟩ := h
  obtain ⟨u, rfl, ru⟩ := vals1 r
  obtain ⟨as, hr1, hn⟩ := Dq.reads I hd ru
  cases ru
  refine repr_of_reads' hr1 hs (fun _ => hn) hg ?_ (fun _ _ e => e) (fun h' u tk k => ?_) hz
  · have := hr.un
    omega
  · exact ⟨.str d.shown, H, I.kept (t' := tk) k, ⟨_, rfl⟩, q⟩
end
end L2


namespace L2
open PySem PySem.Spec PyProof.Rows PySem.KX
/-! raise C(x), C an own class whose __init__ keeps what it is given -/
section
variable {X : Cx} {pins : List (Addr × Obj)} {σ : St} {H : Hp} {c : Addr} {f : Str}
theorem flown {hp h' : Heap} {g0 : Array GenState} {dr : Drawn} {t0 t' : Nat} {os : OsState} {d0 t1 : Addr} {m : Str → Option Value} {fs : List (Str × V)} {Q : XK} (I : Inv X pins σ H ⟨hp, g0, dr, t0, os⟩) {w1 w2 : Obj} (T : Raises X (.ref c))
    (M : Filled ((hp.push w1).push w2) h' (hp.objs.size + 1) c d0 t1 m) (rel : ∀ f, RelO (fs.lookup f) (m f)) (h : ∀ d, H d = none → Q (.ref c) (some d) (upd H d (.xd fs))) :
    MkP X pins σ Q (.ref (hp.objs.size + 1)) ⟨h', g0, dr, t', os⟩ := by
  have was : ∀ b o, hp.get? b = some o → h'.get? b = some o := fun b o e => M.old b o (Nat.ne_of_lt (Nat.lt_succ_of_lt (Heap.lt_size e))) (Heap.get?_push_of_some _ (Heap.get?_push_of_some _ e))
  have big : hp.objs.size ≤ d0 := by
    have z := M.big
    simp only [Heap.size_push] at z
    omega
  have nE : H (hp.objs.size + 1) = none := I.hok.fresh (Nat.le_succ _)
  obtain ⟨G, g1, g2⟩ := restrict h' fun b => decide (b ≠ hp.objs.size + 1)
  have gE : G.get? (hp.objs.size + 1) = none := g2 _ (by simp)
  have gN : ∀ b, b ≠ hp.objs.size + 1 → G.get? b = h'.get? b := fun b hb => g1 b (decide_eq_true hb)
  have J : Inv X pins σ (upd H d0 (.xd fs)) ⟨G, g0, dr, t', os⟩ := I.laid (t' := t') (fun b o q => (gN b (Nat.ne_of_lt (Nat.lt_succ_of_lt (Heap.lt_size q)))).trans (was b o q)) big ⟨m, M.ns.at fun o q => (gN d0 M.ne).trans q, rel⟩
  refine ⟨_, _, _, ⟨G, g0, dr, t', os⟩, _, .ref c, some d0, rfl, J, fun b o q => ?_, gE, M.obj, ⟨rfl, rfl⟩, rfl, rfl, ?_, rfl, J.bare, T, h d0 (I.hok.fresh big)⟩
  · by_cases hb : b = hp.objs.size + 1
    · have q' : G.get? b = some o := q
      rw [hb, gE] at q'
      cases q'
    · exact (gN b hb).symm.trans q
  · rw [upd_ne M.ne.symm]
    exact nE
/-- what raise C(..) asks of C -/
structure ClR (K : PySem.W.Frag) (c : Addr) : Prop where
  sub : PySem.W.subIn K (.ref c) (.type "BaseException") = some true
  typ : PySem.W.typeIn K (.ref c) = some (.type "type")
variable {x : Str} {e : Expr} {ta : TA} {p pos : Pos}
theorem pmk_x1 (T : Cl1 X.K c f) (R : ClR X.K c) (hr : Room 1 X.A) (hm : X.mg x = some (.ref c)) (hg : Gl X x) (ha : PA X [e] ta) (hdb : (x == ("__debug__" : Str)) = false := by decide)
    (he : starEach (e :: []) X.env = (false, eval e X.env) :: starEach [] X.env := by rfl) (hpl : (backTo pos (starEach [] X.env)).any (·.1) = false := by rfl) :
    PMk X (.Call (.Name x p) [e] [] pos) (fun σ H Q => ta σ H fun vs H1 => ∃ y, vs = [y] ∧ ∀ d, H1 d = none → Q (.ref c) (some d) (upd H1 d (.xd [(f, y)]))) := by
  intro pins s σ H Q I h
  obtain ⟨fi, base, nid, iid, bt, qual, fd, a1, a2, q1, q2, q3, q4, O, F, b1, b2⟩ := T.ex
  refine wpAny_Call_Name_kw (ld_glob I hg hm ?_ hdb)
  refine PySem.W.callWith_K (h₀ := X.base) I.ok.mod.kin T.kp (thn (ha.run pos pins s σ H _ I h) fun us s1 hh => ?_) he hpl
  obtain ⟨vs, H1, I1, r1, y, rfl, q⟩ := hh
  obtain ⟨u, rfl, ru⟩ := vals1 r1
  refine ⟨I1.kIn, ?_⟩
  obtain ⟨nm, nsA, qn, bs, bm, hdct, sn, sub, ab, col, dd, k0, k1, k2, k3, k5, hC, same⟩ := PySem.W.excInit_of I1.kIn O.ini
  obtain ⟨hp, g0, dr, tk, os⟩ := s1
  have up : ∀ b o, hp.get? b = some o → ((hp.push (PySem.W.kdv_tup [u])).push (PySem.HandSPX.excO c hp.objs.size)).get? b = some o := fun b o e => Heap.get?_push_of_some _ (Heap.get?_push_of_some _ e)
  refine wpAny_call (class_called O.FB same hC (one_few u) (PySem.W.looks_findIn I1.kIn O.fI) (fun self => PySem.W.bind_fn I1.kIn self O.fT) ?_)
  refine init_one (s := ⟨(hp.push (PySem.W.kdv_tup [u])).push (PySem.HandSPX.excO c hp.objs.size), g0, dr, tk, os⟩) O T.fr F T.fs T.fdb (b1 _ _ _) (I1.kIn.keeps up) (I1.nolimit.keeps up) (by heap_get) (by show X.A.depth + 1 < recursionLimit; have := hr.dp; omega) fun h' tk' d0 M => ?_
  exact ⟨rfl, flown I1 (raises_own R.sub R.typ) M (fun q => relO_put (fs := []) (mA := fun _ => none) ru (fun _ => True.intro) q) q⟩
end
end L2


namespace L2
open PySem PySem.Spec PyProof.Rows PySem.KX
/-! repr of any data: lists, tuples, dicts -/
mutual
inductive Sd (K : PySem.W.Frag) (H : Hp) : V → PyData → Prop
  | non : Sd K H .non .none
  | bl (b : Bool) : Sd K H (.bl b) (.bool b)
  | int (i : Int) : Sd K H (.int i) (.int i)
  | str (x : Str) : Sd K H (.str x) (.str x)
  | lst {a : Addr} {xs : List V} {ds : List PyData} : SqL K H a xs → SdAll K H xs ds → Sd K H (.ref a) (.list ds)
  | tup {a : Addr} {xs : List V} {ds : List PyData} : SqT K H a xs → SdAll K H xs ds → Sd K H (.ref a) (.tuple ds)
  | dct {a : Addr} {kvs : List (Key × V)} {ds : List PyData} : H a = some (.dK kvs) → SdAll K H (kvs.map (·.2)) ds → Sd K H (.ref a) (.dict ((kvs.map fun p => keyD p.1).zip ds))
inductive SdAll (K : PySem.W.Frag) (H : Hp) : List V → List PyData → Prop
  | nil : SdAll K H [] []
  | cons {v : V} {vs : List V} {d : PyData} {ds : List PyData} : Sd K H v d → SdAll K H vs ds → SdAll K H (v :: vs) (d :: ds)
end
/-- sys.modules is a dict -/
def SysD (K : PySem.W.Frag) : Prop := ∃ o, K.lookup sysModules = some o ∧ o.cls = .type "dict"
theorem sds_len {K : PySem.W.Frag} {H : Hp} : ∀ {vs : List V} {ds : List PyData}, SdAll K H vs ds → vs.length = ds.length
  | _, _, .nil => rfl
  | _, _, .cons _ b => by rw [List.length_cons, List.length_cons, sds_len b]
theorem kv_split {kvs : List (Key × V)} {vs : List (Key × Value)} (r : KV kvs vs) : Vals (kvs.map (·.2)) (vs.map (·.2)) ∧ (vs.map fun p => keyD p.1) = kvs.map fun p => keyD p.1 := by
  unfold KV at r
  induction r with
  | nil => exact ⟨.nil, rfl⟩
  | @cons p q ps qs hpq t ih =>
    refine ⟨.cons hpq.2 ih.1, ?_⟩
    rw [List.map_cons, List.map_cons, ih.2, hpq.1]
section
variable {X : Cx} {pins : List (Addr × Obj)} {σ : St} {H : Hp} {s : Shared}
mutual
theorem Sd.reads (I : Inv X pins σ H s) (S : SysD X.K) : ∀ {v : V} {d : PyData} {u : Value}, Sd X.K H v d → RelV v u → ∃ as, Reads s.heap u d as ∧ sysModules ∉ as
  | _, _, _, .non, r => by cases r; exact ⟨_, .none, nofun⟩
  | _, _, _, .bl b, r => by cases r; exact ⟨_, .bool b, nofun⟩
  | _, _, _, .int i, r => by obtain ⟨t, rfl⟩ := r; exact ⟨_, .int i t, nofun⟩
  | _, _, _, .str x, r => by obtain ⟨t, rfl⟩ := r; exact ⟨_, .str x t, nofun⟩
  | _, _, _, .lst h a, r => by
    cases r
    obtain ⟨its, rv, ⟨o, m, ho, hc, _, hd⟩, _⟩ := I.list h
    obtain ⟨as, hr, hn⟩ := SdAll.reads I S a rv
    refine ⟨_, Reads.list ho hc hd hr, fun z => ?_⟩
    rcases List.mem_cons.mp z with e | e
    · obtain ⟨o2, e1, e2⟩ := S
      have e3 := I.kIn _ _ e1
      rw [e, ho] at e3
      cases e3
      rw [hc] at e2
      exact absurd e2 (by decide)
    · exact hn e
  | _, _, _, .tup h a, r => by
    cases r
    obtain ⟨its, rv, ⟨o, ho, hc, m, hd⟩, _⟩ := I.tuple h
    obtain ⟨as, hr, hn⟩ := SdAll.reads I S a rv
    exact ⟨_, Reads.tuple ho hc hd hr, hn⟩
  | _, _, _, .dct (a := a) (kvs := kvs) (ds := ds) h l, r => by
    cases r
    obtain ⟨_, hs, vs, rv, o, es, ep, h1, h2, h3, _, h5, _⟩ := (show ObjOk X.prog X.w H s.heap a (.dK kvs) from I.hok a _ h)
    obtain ⟨k1, k2⟩ := reads_keys s.heap h5
    obtain ⟨v1, v2⟩ := kv_split rv
    obtain ⟨as, hr, hn⟩ := SdAll.reads I S l v1
    have hl := sds_len l
    rw [List.length_map] at hl
    refine ⟨_, Reads.dict (as := []) (bs := as) h1 h2.1 h3 ?_ ?_, ?_⟩
    · rw [List.map_fst_zip (by rw [List.length_map]; omega)]
      rw [v2] at k1
      exact k1
    · rw [List.map_snd_zip (by rw [List.length_map]; omega), k2]
      exact hr
    · intro z
      rcases List.mem_append.mp z with z | z
      · simp at z
        rw [← z] at hs
        simp at hs
      · exact hn z
theorem SdAll.reads (I : Inv X pins σ H s) (S : SysD X.K) : ∀ {v : List V} {d : List PyData} {u : List Value}, SdAll X.K H v d → Vals v u → ∃ as, ReadsAll s.heap u d as ∧ sysModules ∉ as
  | _, _, _, .nil, r => by cases r; exact ⟨_, .nil, nofun⟩
  | _, _, _, .cons a b, r => by
    cases r with
    | cons r1 r2 =>
      obtain ⟨as, q1, n1⟩ := Sd.reads I S a r1
      obtain ⟨bs, q2, n2⟩ := SdAll.reads I S b r2
      exact ⟨_, .cons q1 q2, fun z => by rcases List.mem_append.mp z with e | e; exact n1 e; exact n2 e⟩
end
end
/-- v shows as d -/
def Shw (K : PySem.W.Frag) (H : Hp) (v : V) (d : PyData) : Prop := Sd K H v d ∧ d.showable = true ∧ d.depth ≤ 150 ∧ d.shown.length ≤ sizeLine
theorem seqT_same {K : PySem.W.Frag} {H H' : Hp} {a : Addr} {xs : List V} (e : Same H H') (h : SqT K H a xs) : SqT K H' a xs := by
  rcases h with (h | ⟨o, h⟩) | h
  · exact .inl (.inl (e _ _ h))
  · exact .inl (.inr ⟨o, e _ _ h⟩)
  · exact .inr h
mutual
theorem sdM {K : PySem.W.Frag} {H H' : Hp} (s : Same H H') : ∀ {v : V} {d : PyData}, Sd K H v d → Sd K H' v d
  | _, _, .non => .non
  | _, _, .bl b => .bl b
  | _, _, .int i => .int i
  | _, _, .str x => .str x
  | _, _, .lst h a => .lst (s.seq h) (sdAllM s a)
  | _, _, .tup h a => .tup (seqT_same s h) (sdAllM s a)
  | _, _, .dct h a => .dct (s _ _ h) (sdAllM s a)
theorem sdAllM {K : PySem.W.Frag} {H H' : Hp} (s : Same H H') : ∀ {v : List V} {d : List PyData}, SdAll K H v d → SdAll K H' v d
  | _, _, .nil => .nil
  | _, _, .cons a b => .cons (sdM s a) (sdAllM s b)
end
section
variable {X : Cx}
def rRepA (K : PySem.W.Frag) (xs : List V) (H : Hp) (Q : VK) : Prop := ∃ (v : V) (d : PyData), xs = [v] ∧ Shw K H v d ∧ Q (.str d.shown) H
theorem call_rep (S : SysD X.K) (hu : X.A.units + 200 < cLine) (hg : X.A.guards = some []) : CallR X (.builtin "repr") (rRepA X.K) := by
  intro pins s σ H xs us Q I r h
  obtain ⟨v, d, rfl, ⟨hd, hs, hdp, hz⟩, q⟩ := h
  obtain ⟨u, rfl, ru⟩ := vals1 r
  obtain ⟨as, hr, n⟩ := Sd.reads I S hd ru
  have hn : d.hasDict = true → sysModules ∉ as := fun _ => n
  cases hr with
  | none => exact PySem.P.repr_of_none ⟨.str _, H, I.tok _, ⟨_, rfl⟩, q⟩
  | bool b => exact PySem.P.repr_of_bool ⟨.str _, H, I.tok _, ⟨_, rfl⟩, q⟩
  | int i t => exact PySem.P.repr_of_int (of_decide_eq_true hs) ⟨.str _, H, I.tok _, ⟨_, rfl⟩, q⟩
  | str x t => exact PySem.P.repr_of_str ⟨.str _, H, I.tok _, ⟨_, rfl⟩, q⟩ hz
  | list h1 h2 h3 h4 => exact repr_of_reads' (.list h1 h2 h3 h4) hs hn hg (by omega) (fun _ _ e => e) (fun h' u tk k => ⟨.str _, H, I.kept (t' := tk) k, ⟨_, rfl⟩, q⟩) hz
  | tuple h1 h2 h3 h4 => exact repr_of_reads' (.tuple h1 h2 h3 h4) hs hn hg (by omega) (fun _ _ e => e) (fun h' u tk k => ⟨.str _, H, I.kept (t' := tk) k, ⟨_, rfl⟩, q⟩) hz
  | dict h1 h2 h3 h4 h5 => exact repr_of_reads' (.dict h1 h2 h3 h4 h5) hs hn hg (by omega) (fun _ _ e => e) (fun h' u tk k => ⟨.str _, H, I.kept (t' := tk) k, ⟨_, rfl⟩, q⟩) hz
/-- isinstance(e, c), e what the suite holds, with its fields -/
def rIsS (K : PySem.W.Frag) (a : Addr) (cls : Value) (d : Option Addr) : List V → Hp → VK → Prop := fun xs H Q => ∃ (C dd : Addr) (fs : List (Str × V)) (c : V) (cv : Value) (b : Bool), xs = [.ref a, c] ∧ cls = .ref C ∧ d = some dd ∧ H dd = some (.xd fs) ∧ ClG K C ∧ ClsV c cv ∧ PySem.W.kitOne K (.ref C) cv = some b ∧ Q (.bl b) H
theorem call_isS {a : Addr} {oe : Obj} {cls : Value} {d : Option Addr} {pn : List (Addr × Obj)} (hz : Zc cls d oe) (hf : ∃ vs, oe.data = .fields vs) : CallR (X.suite a ((a, oe) :: pn)) (.builtin "isinstance") (rIsS X.K a cls d) := by
  intro pins s σ H xs us Q I r h
  obtain ⟨C, dd, fs, c, cv, b, rfl, rfl, rfl, ed, T, ku, e, q⟩ := h
  obtain ⟨u1, u2, rfl, r1, r2⟩ := vals2 r
  have e2 := ku.eq r2
  subst e2
  obtain rfl : u1 = Value.ref a := r1
  obtain ⟨ha, _⟩ := I.pin (a, oe) (List.mem_append_left _ List.mem_cons_self)
  obtain ⟨vs, hd⟩ := hf
  have hx : ObjOk X.prog X.w H s.heap dd (.xd fs) := I.hok dd _ ed
  obtain ⟨mA, hns, hr⟩ := hx
  obtain ⟨od, ho, hl⟩ := lookIn_ns hns
  have J : PySem.W.InstAt s.heap a oe C (some od) := ⟨ha, hz.1, by unfold PySem.W.notCls; rw [hd] <;> rfl, by rw [hz.2]; exact ho⟩
  exact PySem.W.kia_one (PySem.W.kitx_exc (by obtain ⟨cd, hc, _⟩ := PySem.W.any_some T.dct; rw [hc]; rfl) T.ga T.gg T.exc T.cA T.cN T.cT T.cM) I.kIn J e (fun z => nomatch z) fun tk => ⟨.bl b, H, I.tok tk, rfl, q⟩
end
end L2


namespace Toy
open PySem L2
def top (i : Nat) : Stmt := PySem.Challenge.pw_sieveways_k71_data_written_and_read.main.body.getD i (.Pass ⟨0, 0, 0, 0⟩)
abbrev sBegin : Stmt := top 41
abbrev sDraw : Stmt := top 42
/-! ### the tape -/
def kC : Key := Sum.inr ("cells" : Str)
def kA : Key := Sum.inr ("place" : Str)
def kL : Key := Sum.inr ("left" : Str)
def tp (l : Addr) (a f : Int) : List (Key × V) := [(kC, .ref l), (kA, .int a), (kL, .int f)]
theorem k_ca : ¬ (kC = kA) := by decide +kernel
theorem k_cl : ¬ (kC = kL) := by decide +kernel
theorem k_al : ¬ (kA = kL) := by decide +kernel
theorem k_la : ¬ (kL = kA) := by decide +kernel
theorem tp_cells (l : Addr) (a f : Int) : valV (tp l a f) kC = some (.ref l) := by
  unfold tp
  rw [valV_pos rfl]
theorem tp_at (l : Addr) (a f : Int) : valV (tp l a f) kA = some (.int a) := by
  unfold tp
  rw [valV_neg k_ca, valV_pos rfl]
theorem tp_left (l : Addr) (a f : Int) : valV (tp l a f) kL = some (.int f) := by
  unfold tp
  rw [valV_neg k_cl, valV_neg k_al, valV_pos rfl]
theorem put_at (l : Addr) (a f b : Int) : putK (tp l a f) kA (.int b) = tp l b f := by
  unfold tp putK
  rw [if_pos (by simp)]
  simp only [List.map_cons, List.map_nil]
  rw [if_neg k_ca, if_pos trivial, if_neg k_la]
theorem put_left (l : Addr) (a f b : Int) : putK (tp l a f) kL (.int b) = tp l a b := by
  unfold tp putK
  rw [if_pos (by simp)]
  simp only [List.map_cons, List.map_nil]
  rw [if_neg k_cl, if_neg k_al, if_pos trivial]
section
variable {H : Hp} {d l : Addr} {a f : Int} (h : H d = some (.dK (tp l a f)))
include h
theorem get_cells : DGet H d (.str ("cells" : Str)) (some (.ref l)) := by
  have z := DGet.k (k := kC) h
  rw [tp_cells] at z
  exact z
theorem get_at : DGet H d (.str ("place" : Str)) (some (.int a)) := by
  have z := DGet.k (k := kA) h
  rw [tp_at] at z
  exact z
theorem get_left : DGet H d (.str ("left" : Str)) (some (.int f)) := by
  have z := DGet.k (k := kL) h
  rw [tp_left] at z
  exact z
theorem set_at (b : Int) : DPut H d (.str ("place" : Str)) (.int b) (upd H d (.dK (tp l b f))) := by
  have z := DPut.k (k := kA) (v := .int b) h (by show 3 < sizeLine; decide)
  rw [put_at] at z
  exact z
theorem set_left (b : Int) : DPut H d (.str ("left" : Str)) (.int b) (upd H d (.dK (tp l a b))) := by
  have z := DPut.k (k := kL) (v := .int b) h (by show 3 < sizeLine; decide)
  rw [put_left] at z
  exact z
end
/-- at d a tape, of which at most n draws were made -/
def Tape (H : Hp) (d l : Addr) (n : Nat) : Prop := ∃ (ns : List Int) (a f : Int), H d = some (.dK (tp l a f)) ∧ H l = some (.lst (ns.map V.int)) ∧ ns ≠ [] ∧ ns.length ≤ 1000 ∧ 0 ≤ a ∧ a ≤ n
/-- all that stood stands, but at d -/
def But (d : Addr) (H H' : Hp) : Prop := ∀ b o, b ≠ d → H b = some o → H' b = some o
theorem But.refl {d : Addr} {H : Hp} : But d H H := fun _ _ _ e => e
theorem But.trans {d : Addr} {H H1 H2 : Hp} (a : But d H H1) (b : But d H1 H2) : But d H H2 := fun x o n e => b x o n (a x o n e)
theorem But.upd {d : Addr} {H H1 : Hp} {u : HO} (a : But d H H1) : But d H (upd H1 d u) := fun x o n e => by
  rw [upd_ne n]
  exact a x o n e
theorem But.new {d p : Addr} {H H1 : Hp} {u : HO} (a : But d H H1) (hp : H1 p = none) : But d H (L2.upd H1 p u) := fun x o n e => by
  rw [upd_ne (ne_of_none (a x o n e) hp)]
  exact a x o n e
def spDraw : Sp := fun vs H Q _ => ∃ (d l : Addr) (n : Nat) (m : Int), vs = [.ref d, .int m] ∧ Tape H d l n ∧ n ≤ 1000000 ∧ 0 < m ∧ m < 1000000 ∧
  ∀ H' r, But d H H' → Tape H' d l (n + 1) → 0 ≤ r → r < m → Q (.int r) H'
section
variable {P : Program} {w : World} {K : PySem.W.Frag} {mg : Str → Option Value} {base : Heap}
theorem scD : FnScope ["_law_tape", "_law_many", "_law_place", "_law_size", "_law_cell", "_law_found"] ["_law_tape", "_law_many"] (defScope sDraw) := ⟨rfl, rfl, rfl, by decide +kernel, rfl, by decide +kernel, by decide +kernel⟩
theorem ok_draw {f : Addr} {fd : FuncData} (F : Fun K "_law_draw" "_law_draw" sDraw f fd) (mLen : mg "len" = none) (mInt : mg "int" = none) : FnOk P w K mg base CX0 1 f fd ["_law_tape", "_law_many"] spDraw := by
  refine F.ok scD (fun vs H Q E h => ?_) (fun cdv A outer s H vs Q E hr h => ?_)
  · obtain ⟨d, l, n, m, rfl, _⟩ := h
    rfl
  · obtain ⟨d, l, n, m, rfl, ⟨ns, a, f, hd, hl, hne, hlen, a0, an⟩, hn, m0, m1, q⟩ := h
    have hu := hu_of hr
    refine ⟨_, pss_cons (ps_if (pt_cmpR op_lt (pe_dget hu (pv 0) pe_str (fun _ _ => rfl)) (pv 1) (nomark _))
      (pss_cons (ps_par (i := 2) (j := 3) rfl scD.nd rfl rfl (by decide) rfl rfl (pa_cons (pe_dget hu (pv 0) pe_str (fun _ _ => rfl)) (pa_cons (pe_callB call_len_seq (by rfl) mLen PySem.boot_len (pa_cons (pe_dget hu (pv 0) pe_str (fun _ _ => rfl)) pa_nil)) pa_nil)) (by rfl))
      (pss_cons (ps_asg (pe_tup (pa_cons (pe_ix ix_list (pe_dget hu (pv 0) pe_str (fun _ _ => rfl)) (pe_op op_mod (pe_callTy call_int1 (by rfl) mInt (by decide +kernel) (pa_cons (pv 2) pa_nil)) (pv 3)) (fun _ _ => rfl)) (pa_cons (pe_op op_add (pv 2) pe_int) pa_nil)))
          (pg_tup rfl (pgs_cons (pg_name (i := 4) scD.nd rfl (.inl rfl)) (pgs_cons (pg_sub (pv 0) pe_str (set_dict hu)) pgs_nil))))
      (pss_cons (ps_dput hu (pv 0) pe_str (pe_op op_mod (pe_callTy call_int1 (by rfl) mInt (by decide +kernel) (pa_cons (pe_op op_pow (pe_op op_add (pe_op op_add (pe_op op_mod (pe_callTy call_int1 (by rfl) mInt (by decide +kernel) (pa_cons (pv 4) pa_nil)) pe_int) (pe_op op_mul pe_int (pv 2))) pe_int) pe_int) pa_nil)) (pe_op op_add (pe_op op_pow pe_int pe_int) pe_int)) rfl)
      (pss_one (ps_if (PW.pt (pw_and (pt_cmpR op_ge (pv 4) (pe_op op_pow pe_int pe_int) (nomark _)) (pw_and1 (pt_cmpR op_lt (pv 2) (pv 3) (nomark _)))))
        (pss_one (ps_dput hu (pv 0) pe_str (pe_op op_sub (pv 4) (pe_op op_pow pe_int pe_int)) rfl)) pss_nil)))))
      pss_nil)
      (pss_cons (ps_asg (pe_tup (pa_cons (pe_op op_mod (pe_callTy call_int1 (by rfl) mInt (by decide +kernel) (pa_cons (pe_dget hu (pv 0) pe_str (fun _ _ => rfl)) pa_nil)) (pv 1)) (pa_cons (pe_op op_fdivW (pe_dget hu (pv 0) pe_str (fun _ _ => rfl)) (pv 1)) pa_nil)))
          (pg_tup rfl (pgs_cons (pg_name (i := 5) scD.nd rfl (.inl rfl)) (pgs_cons (pg_sub (pv 0) pe_str (set_dict hu)) pgs_nil))))
      (pss_one (ps_ret (pv 5)))), ?_⟩
    refine ⟨_, rfl, d, _, rfl, get_left hd, _, rfl, _, _, rfl, rfl, _, rfl, ?_⟩
    refine ite2 (fun c => ?_) (fun c => ?_)
    · have e0 : ((ns.map V.int).length : Int) = (ns.length : Int) := by rw [List.length_map]
      have lp : 0 < ns.length := List.length_pos_iff.mpr hne
      obtain ⟨j, hj, ej⟩ : ∃ j : Nat, j < ns.length ∧ a % ((ns.map V.int).length : Int) = (j : Int) := by
        rw [e0]
        have h1 : 0 ≤ a % (ns.length : Int) := Int.emod_nonneg a (by omega)
        have h2 : a % (ns.length : Int) < (ns.length : Int) := Int.emod_lt_of_pos a (by omega)
        exact ⟨(a % (ns.length : Int)).toNat, by omega, by omega⟩
      have hat : atI (ns.map V.int) (j : Int) = some (.int ns[j]) := atI_nat (by rw [List.getElem?_map, List.getElem?_eq_getElem hj]; rfl)
      refine ⟨_, rfl, d, _, rfl, get_at hd, _, rfl, d, _, rfl, get_cells hd, l, _, rfl, .inl (SqL.of hl), _, _, rfl, ?_⟩
      refine ⟨_, rfl, d, _, rfl, get_cells hd, _, rfl, .inl ⟨_, rfl, _, rfl, _, _, rfl, rfl, (by show 0 < ((ns.map V.int).length : Int); omega), ?_⟩⟩
      refine ⟨l, _, _, .int ns[j], rfl, rfl, SqL.of hl, (by rw [ej]; exact hat), _, rfl, _, _, rfl, rfl, (by show 2 ≤ sizeLine; decide), fun t nt => ?_⟩
      have ndt : d ≠ t := ne_of_none hd nt
      have nlt : l ≠ t := ne_of_none hl nt
      have nld : l ≠ d := ne_of hl hd (by intro z; cases z)
      refine ⟨t, _, rfl, SqT.of upd_same, rfl, _, _, rfl, _, _, rfl, _, rfl, d, _, rfl, set_at (by rw [upd_ne ndt]; exact hd) _, rfl, ?_⟩
      generalize hcell : ns[j] = cell
      have h63 : 0 ≤ cell % 2147483489 := Int.emod_nonneg _ (by decide)
      have h64 : cell % 2147483489 < 2147483489 := Int.emod_lt_of_pos _ (by decide)
      refine ⟨_, rfl, .inl ⟨_, rfl, _, _, rfl, rfl, (by show (0 : Int) < 2147483489; decide), _, rfl, _, _, rfl, rfl, (.inl ⟨by decide, by decide⟩), _, _, rfl, rfl, _, _, rfl, rfl, _, _, rfl, rfl, ⟨by decide, by decide, by omega⟩, .inl ⟨_, rfl, _, _, rfl, rfl, ⟨by decide, by decide, by decide⟩, _, _, rfl, rfl, _, _, rfl, rfl, (by show (0 : Int) < 10 ^ 50 + 577; decide), ?_⟩⟩⟩
      refine ⟨_, rfl, d, _, rfl, set_left upd_same _, ?_⟩
      refine ⟨_, rfl, _, _, rfl, rfl, ⟨by decide, by decide, by decide⟩, _, _, rfl, rfl, _, rfl, ?_⟩
      refine ite2 (fun c1 => ?_) (fun c1 => ?_)
      · refine ⟨_, rfl, _, rfl, _, _, rfl, rfl, _, rfl, ?_⟩
        refine ite2 (fun c2 => ?_) (fun c2 => ?_)
        · refine ⟨_, rfl, _, _, rfl, rfl, ⟨by decide, by decide, by decide⟩, _, _, rfl, rfl, _, rfl, d, _, rfl, set_left upd_same _, ?_⟩
          refine ⟨_, rfl, d, _, rfl, get_left upd_same, .inl ⟨_, rfl, _, rfl, _, _, rfl, rfl, m0, _, rfl, d, _, rfl, get_left upd_same, _, rfl, _, _, rfl, rfl, wide_div (b := 64) m0 (by omega) (by decide) (by decide), (by show 2 ≤ sizeLine; decide), fun t2 nt2 => ?_⟩⟩
          have ndt2 : d ≠ t2 := ne_of_none upd_same nt2
          refine ⟨t2, _, rfl, SqT.of upd_same, rfl, _, _, rfl, _, _, rfl, _, rfl, d, _, rfl, set_left (by rw [upd_ne ndt2]; exact upd_same) _, rfl, _, rfl, q _ _ ((((But.refl : But d H H).new nt).upd.upd.upd).new nt2).upd ?_ (Int.emod_nonneg _ (by omega)) (Int.emod_lt_of_pos _ m0)⟩
          have nlt2 : l ≠ t2 := ne_of_none (by rw [upd_ne nld, upd_ne nld, upd_ne nld, upd_ne nlt]; exact hl) nt2
          exact ⟨ns, a + 1, _, upd_same, by rw [upd_ne nld, upd_ne nlt2, upd_ne nld, upd_ne nld, upd_ne nld, upd_ne nlt]; exact hl, hne, hlen, by omega, by push_cast; omega⟩
        · refine ⟨_, rfl, d, _, rfl, get_left upd_same, .inl ⟨_, rfl, _, rfl, _, _, rfl, rfl, m0, _, rfl, d, _, rfl, get_left upd_same, _, rfl, _, _, rfl, rfl, wide_div (b := 64) m0 (by omega) (by decide) (by decide), (by show 2 ≤ sizeLine; decide), fun t2 nt2 => ?_⟩⟩
          have ndt2 : d ≠ t2 := ne_of_none upd_same nt2
          refine ⟨t2, _, rfl, SqT.of upd_same, rfl, _, _, rfl, _, _, rfl, _, rfl, d, _, rfl, set_left (by rw [upd_ne ndt2]; exact upd_same) _, rfl, _, rfl, q _ _ ((((But.refl : But d H H).new nt).upd.upd).new nt2).upd ?_ (Int.emod_nonneg _ (by omega)) (Int.emod_lt_of_pos _ m0)⟩
          have nlt2 : l ≠ t2 := ne_of_none (by rw [upd_ne nld, upd_ne nld, upd_ne nlt]; exact hl) nt2
          exact ⟨ns, a + 1, _, upd_same, by rw [upd_ne nld, upd_ne nlt2, upd_ne nld, upd_ne nld, upd_ne nlt]; exact hl, hne, hlen, by omega, by push_cast; omega⟩
      · refine iteF ?_
        refine ⟨_, rfl, d, _, rfl, get_left upd_same, .inl ⟨_, rfl, _, rfl, _, _, rfl, rfl, m0, _, rfl, d, _, rfl, get_left upd_same, _, rfl, _, _, rfl, rfl, wide_div (b := 64) m0 (by omega) (by decide) (by decide), (by show 2 ≤ sizeLine; decide), fun t2 nt2 => ?_⟩⟩
        have ndt2 : d ≠ t2 := ne_of_none upd_same nt2
        refine ⟨t2, _, rfl, SqT.of upd_same, rfl, _, _, rfl, _, _, rfl, _, rfl, d, _, rfl, set_left (by rw [upd_ne ndt2]; exact upd_same) _, rfl, _, rfl, q _ _ ((((But.refl : But d H H).new nt).upd.upd).new nt2).upd ?_ (Int.emod_nonneg _ (by omega)) (Int.emod_lt_of_pos _ m0)⟩
        have nlt2 : l ≠ t2 := ne_of_none (by rw [upd_ne nld, upd_ne nld, upd_ne nlt]; exact hl) nt2
        exact ⟨ns, a + 1, _, upd_same, by rw [upd_ne nld, upd_ne nlt2, upd_ne nld, upd_ne nld, upd_ne nlt]; exact hl, hne, hlen, by omega, by push_cast; omega⟩
    · refine ⟨_, rfl, d, _, rfl, get_left hd, .inl ⟨_, rfl, _, rfl, _, _, rfl, rfl, m0, _, rfl, d, _, rfl, get_left hd, _, rfl, _, _, rfl, rfl, wide_div (b := 64) m0 (by omega) (by decide) (by decide), (by show 2 ≤ sizeLine; decide), fun t nt => ?_⟩⟩
      have ndt : d ≠ t := ne_of_none hd nt
      refine ⟨t, _, rfl, SqT.of upd_same, rfl, _, _, rfl, _, _, rfl, _, rfl, d, _, rfl, set_left (by rw [upd_ne ndt]; exact hd) _, rfl, _, rfl, q _ _ (((But.refl : But d H H)).new nt).upd ?_ (Int.emod_nonneg _ (by omega)) (Int.emod_lt_of_pos _ m0)⟩
      exact ⟨ns, a, _, upd_same, by rw [upd_ne (ne_of hl hd (by intro z; cases z)), upd_ne (ne_of_none hl nt)]; exact hl, hne, hlen, by omega, by push_cast; omega⟩
end
end Toy


namespace Toy
open PySem L2
section
variable {P : Program} {w : World} {K : PySem.W.Frag} {mg : Str → Option Value} {base : Heap}
theorem cut63 (ns : List Int) (h : ns.length ≤ 63) : cutV (ns.map V.int) none (some 63) = ns.map V.int := by
  unfold cutV
  rw [show HT.sIx (ns.map V.int).length (ns.map V.int).length (some 63) = min 63 (ns.map V.int).length from HT.sIx_nat _ _ 63, HT.sIx_none, List.length_map, show min 63 ns.length = ns.length by omega, List.drop_zero, Nat.sub_zero]
  exact List.take_of_length_le (by rw [List.length_map]; exact Nat.le_refl _)
theorem merge_tp (l : Addr) : mergeK [] [(kC, V.ref l), (kA, V.int 0), (kL, V.int 0)] = tp l 0 0 := by
  unfold mergeK
  simp only [List.foldl_cons, List.foldl_nil]
  unfold putK
  simp [k_ca, k_cl, k_al]
  rfl
def spBegin (K : PySem.W.Frag) : Sp := fun vs H Q _ => ∃ (a : Addr) (ns : List Int), vs = [.ref a] ∧ SqL K H a (ns.map V.int) ∧ ns.length ≤ 63 ∧ ∀ H' d l, Same H H' → H d = none → H l = none → l ≠ d → Tape H' d l 0 → Q (.ref d) H'
theorem scB : FnScope ["_law_script"] ["_law_script"] (defScope sBegin) := ⟨rfl, rfl, rfl, by decide +kernel, rfl, by decide +kernel, by decide +kernel⟩
theorem same_new {H H1 : Hp} {p : Addr} {u : HO} (a : Same H H1) (hp : H1 p = none) : Same H (upd H1 p u) := fun x o e => by
  rw [upd_ne (ne_of_none (a x o e) hp)]
  exact a x o e
theorem ok_begin {f : Addr} {fd : FuncData} (F : Fun K "_law_begin" "_law_begin" sBegin f fd) : FnOk P w K mg base CX0 1 f fd ["_law_script"] (spBegin K) := by
  refine F.ok scB (fun vs H Q E h => ?_) (fun cdv A outer s H vs Q E hr h => ?_)
  · obtain ⟨a, ns, rfl, _⟩ := h
    rfl
  · obtain ⟨a, ns, rfl, hS, hlen, q⟩ := h
    refine ⟨_, pss_one (ps_ret (pe_disp (pps_cons pe_str (pe_orT (pe_slice sl_list (pv 0) po_none (po_some pe_int)) (pe_one (pe_lst (pa_cons pe_int pa_nil)))) (pps_cons pe_str pe_int (pps_cons pe_str pe_int pps_nil))) (by rfl) (by rfl) (fun z => by cases z) (by decide))), ?_⟩
    intro p np
    have s1 : Same H (upd H p (.dK [])) := same_new (fun _ _ e => e) np
    refine ⟨_, rfl, 63, rfl, a, _, rfl, s1.seq hS, fun c nc => ?_⟩
    have npc : p ≠ c := ne_of_none upd_same nc
    refine ⟨_, .inl ⟨_, SqL.of upd_same, rfl⟩, ?_⟩
    have fin : ∀ (H2 : Hp) (l : Addr) (ms : List Int), H l = none → Same (upd H p (.dK [])) H2 → H2 l = some (.lst (ms.map V.int)) → ms ≠ [] → ms.length ≤ 1000 → Q (.ref p) (upd H2 p (.dK (mergeK [] [(kC, V.ref l), (kA, V.int 0), (kL, V.int 0)]))) := by
      intro H2 l ms nl s2 hl h1 h2
      have npl : l ≠ p := ne_of hl (s2 _ _ upd_same) (by intro z; cases z)
      rw [merge_tp]
      refine q _ p l (fun b o e => ?_) np nl npl ⟨ms, 0, 0, upd_same, by rw [upd_ne npl]; exact hl, h1, h2, Int.le_refl _, Int.le_refl _⟩
      rw [upd_ne (ne_of_none e np)]
      exact s2 _ _ (s1 _ _ e)
    refine ite2 (fun c1 => ?_) (fun c1 => ?_)
    · refine ⟨Eq.trans (upd_ne npc) upd_same, [(kC, V.ref c), (kA, V.int 0), (kL, V.int 0)], rfl, (by show 3 ≤ 15; decide), fin _ c ns (by rw [upd_ne npc.symm] at nc; exact nc) (same_new (fun _ _ e => e) nc) (by rw [upd_same, cut63 ns hlen]) ?_ (by omega)⟩
      intro z
      rw [z] at c1
      exact Bool.false_ne_true c1
    · refine ⟨(by show 1 ≤ sizeLine; decide), fun e ne => ?_⟩
      have npe : p ≠ e := ne_of_none (Eq.trans (upd_ne npc) upd_same) ne
      refine ⟨Eq.trans (upd_ne npe) (Eq.trans (upd_ne npc) upd_same), [(kC, V.ref e), (kA, V.int 0), (kL, V.int 0)], rfl, (by show 3 ≤ 15; decide), fin _ e [0] (by rw [upd_ne (ne_of_none upd_same ne).symm, upd_ne npe.symm] at ne; exact ne) (same_new (same_new (fun _ _ e => e) nc) ne) upd_same (by decide) (by decide)⟩
end
end Toy


namespace L2
open PySem PySem.Spec PyProof.Rows
/-! The law's own def, run by its caller alone (so that what runs around it is known: repr asks that). -/
/-- the body of the law, in the caller's surroundings -/
def BodyOk (P : Program) (w : World) (K : PySem.W.Frag) (mg : Str → Option Value) (base : Heap) (k : Nat) (N : List Str) (qual : Str) (sc : Scope) (body : List Stmt) (f : Addr) (sp : Sp) : Prop :=
  ∀ (cdv : Value) (s : Shared) (H : Hp) (vs : List V) (Q : VK) (E : XK), Room k (callerA.deeper (envOfC qual sc s.heap.objs.size f cdv)) → sp vs H Q E →
    ∃ t, PSs (cxOf CX0 P w K mg base N qual sc f cdv callerA [] s H E) body t ∧ t { nx := fun _ H' => Q .non H', rt := Q } (start N vs) H
section
variable {P : Program} {w : World} {K : PySem.W.Frag} {mg : Str → Option Value} {base : Heap} {k : Nat} {f : Addr} {x qual : Str} {params : Arguments} {body : List Stmt} {sc : Scope} {N ps : List Str} {sp : Sp} {fd : FuncData}
theorem body_run (F : FunD K x qual params body sc [] [] f fd) (S : FnScope N ps sc) (B : BodyOk P w K mg base k N qual sc body f sp) {s : Shared} {H : Hp} {args : Args} {us : List Value} {vs : List V} {Q : VK} {E : XK} (hr : Room (k + 1) callerA)
    (e0 : Env0 P w K mg base callerA [] s H) (hb : BindsTo s fd args (ps.zip us)) (r : Vals vs us) (hl : vs.length = ps.length) (h : sp vs H Q E) : codeAny (model P w) callerA (.call (.ref f) args) (CR CX0 [] P w H s Q E) s := by
  obtain ⟨oc, od, dV, kV, doc, pm, an, cdv, ct, osl, rfl, lk, hcd, _, _⟩ := F.ex
  have up : ∀ b o, base.get? b = some o → s.heap.get? b = some o := fun b o e => (e0.bs b o e).1
  have KX : K.In s.heap := e0.mod.kin.keeps up
  have kinds : ∀ y ∈ ps.zip us, sc.names.lookup y.1 = some .local ∨ (sc.names.lookup y.1 = some .cell ∧ ((cellsFrom (s.heap.objs.size + 1) sc.names []).lookup y.1).isSome = true) := by
    rintro ⟨n, v⟩ hy
    exact (S.par n (List.of_mem_zip hy).1).imp id fun q => ⟨q, PySem.W.cellsFrom_some _ _ _ (.inl q)⟩
  refine codeAny_call_function hr.depth (KX _ _ lk) rfl S.co S.gen rfl (PySem.W.codeRec_of KX hcd) (hb _ _ _ _ (wpAny_newFunctionEnv_cells S.kind kinds fun env he s1 x => ?_))
  subst he
  obtain ⟨t, ht, hq⟩ := B cdv s H vs Q E (hr.deeper _) h
  refine ⟨(e0.mod.nolimit.keeps up).keeps x.toInCall.keep, codeAny_func (wpAny_mono (ht.run [] s1 (start N vs) H _ (inv_start S hr.hd e0 hl r x) hq) (fun fl s' hs => ?_) fun e s' hs => hs)⟩
  cases fl with
  | ret u =>
    obtain ⟨v, σ', H', J, rv, q⟩ := hs
    exact ⟨v, H', J.os, J.bare, J.base, J.hok, rv, q⟩
  | next =>
    obtain ⟨σ', H', J, q⟩ := hs
    exact ⟨V.non, H', J.os, J.bare, J.base, J.hok, rfl, q⟩
  | brk =>
    obtain ⟨_, _, _, q⟩ := hs
    exact False.elim q
  | cont =>
    obtain ⟨_, _, _, q⟩ := hs
    exact False.elim q
end
end L2
namespace L2
open PySem PySem.Spec PyProof.Rows
section
variable {P : Program} {w : World} {K : PySem.W.Frag} {mg mb : Str → Option Value} {k : Nat} {a fa : Addr} {x qual nm : Str} {params : Arguments} {body : List Stmt} {sc : Scope} {N : List Str} {sp : Sp} {fd : FuncData} {s : Shared} {vs : List Value} {ns : List Int}
/-- where the abstract heap tracks the script alone (or nothing) -/
theorem ground_of {H : Hp} (KX : K.In s.heap) (g : s.heap.Ns mainGlobals mg) (b : s.heap.Ns builtinsNs mb) (bb : ∀ x : Str, x ≠ "__name__" → mb x = bootBuiltins x) (lim : s.heap.NoLimit) (gen : s.gens = #[])
    (ha : s.heap.get? a = some { cls := .type "list", data := .seq vs.toArray }) (hok : HOk P w H s.heap) (only : ∀ c, H c ≠ none → c = a) (out : H a ≠ none → K.lookup a = none) :
    ∃ base : Heap, K.In base ∧ base.Ns mainGlobals mg ∧ Env0 P w K mg base callerA [] s H := by
  have get : ∀ {c : Addr} {o : Obj}, s.heap.get? c = some o → H c = none → (hidT s.heap H).get? c = some o := fun e n => hidT_get e n
  have tab : ∀ {c : Addr} {m : Str → Option Value}, s.heap.Ns c m → (hidT s.heap H).Ns c m := by
    rintro c m ⟨o, es, ep, e, d, r⟩
    refine ⟨o, es, ep, get e (Classical.byContradiction fun q => ?_), d, r⟩
    have ca := only c q
    subst ca
    rw [ha] at e
    cases e
    cases (show Data.seq vs.toArray _ = Data.dict es ep from d)
  have kin : K.In (hidT s.heap H) := fun c o e => get (KX c o e) (Classical.byContradiction fun q => by
    have ca := only c q
    subst ca
    rw [out q] at e
    cases e)
  obtain ⟨mc, l1, l2⟩ := lim
  exact ⟨hidT s.heap H, kin, tab g, rfl, ⟨kin, tab g, ⟨mb, tab b, bb⟩, mc, tab l1, l2⟩, fun c o e => of_hidT e, Nat.le_of_eq (hidT_size _ _), trivial, (fun c hc => nomatch hc), hok, .of_eq gen⟩
theorem law_run (F : FunD K nm qual params body sc [] [] fa fd) (S : FnScope N [x] sc) (B : ∀ base : Heap, K.In base → base.Ns mainGlobals mg → BodyOk P w K mg base k N qual sc body fa sp) (hb : ∀ (s : Shared) (u : Value), BindsTo s fd ⟨[u], []⟩ [(x, u)]) (hr : Room (k + 1) callerA)
    (hsp : ∀ H : Hp, SqL K H a (ns.map V.int) → sp [.ref a] H (fun v _ => v = .bl true) fun _ _ _ => False)
    (KX : K.In s.heap) (g : s.heap.Ns mainGlobals mg) (b : s.heap.Ns builtinsNs mb) (bb : ∀ x : Str, x ≠ "__name__" → mb x = bootBuiltins x) (lim : s.heap.NoLimit) (gen : s.gens = #[])
    (ha : s.heap.get? a = some { cls := .type "list", data := .seq vs.toArray }) (hi : IntsAre vs ns) (hl : ns.length ≤ sizeLine) :
    codeAny (model P w) callerA (.call (.ref fa) ⟨[.ref a], []⟩) (fun r s' => r = .ok (.ret (.bool true)) ∧ OldK s.heap s'.heap ∧ s'.os = s.os ∧ AllBare s'.gens) s := by
  have run : ∀ H : Hp, SqL K H a (ns.map V.int) → HOk P w H s.heap → (∀ c, H c ≠ none → c = a) → (H a ≠ none → K.lookup a = none) → (∀ c u, H c = some u → ∃ o xs, u = .frz o (.lst xs)) →
      codeAny (model P w) callerA (.call (.ref fa) ⟨[.ref a], []⟩) (fun r s' => r = .ok (.ret (.bool true)) ∧ OldK s.heap s'.heap ∧ s'.os = s.os ∧ AllBare s'.gens) s := by
    intro H hS hok only out frz
    obtain ⟨base, k1, k2, e0⟩ := ground_of KX g b bb lim gen ha hok only out
    refine codeAny_mono (body_run (us := [.ref a]) (vs := [.ref a]) F S (B base k1 k2) hr e0 (hb s (.ref a)) (.cons rfl .nil) rfl (hsp H hS)) fun r s' q => ?_
    cases r with
    | error e => exact False.elim q
    | ok fl =>
      cases fl with
      | next => exact False.elim q
      | brk => exact False.elim q
      | cont => exact False.elim q
      | ret u =>
        obtain ⟨v, H', os, bare, un, hok', rv, ev⟩ := q
        have ev' : v = .bl true := ev
        subst ev'
        obtain rfl : u = Value.bool true := rv
        refine ⟨rfl, OldK.of_keep fun c o e => ?_, os, bare⟩
        cases q : H c with
        | none => exact un.keep c o e q (fun z => nomatch z) (fun z => nomatch z)
        | some u =>
          obtain ⟨ob, xs, rfl⟩ := frz c u q
          obtain ⟨e1, _⟩ := hok c _ q
          obtain ⟨e2, _⟩ := hok' c _ (un.frzs c ob _ q)
          rw [e] at e1
          cases e1
          exact e2
  have rv := vals_ints hi
  cases hk : K.lookup a with
  | some o =>
    have e := KX a o hk
    rw [ha] at e
    cases e
    exact run (fun _ => none) (.inr ⟨_, vs.toArray, _, hk, rfl, rfl, rfl, by rw [List.size_toArray, hi.length]; exact hl, by simpa using rv⟩) (fun c u z => nomatch z) (fun c z => absurd rfl z) (fun z => absurd rfl z) fun c u z => nomatch z
  | none =>
    refine run (fun c => if c = a then some (.frz { cls := .type "list", data := .seq vs.toArray } (.lst (ns.map V.int))) else none) (.inl (.inr ⟨{ cls := .type "list", data := .seq vs.toArray }, if_pos rfl⟩)) (fun c u z => ?_)
      (fun c z => Classical.byContradiction fun q => z (if_neg q)) (fun _ => hk) fun c u z => ?_
    · by_cases hc : c = a
      · have z' := (if_pos hc).symm.trans z
        cases z'
        subst hc
        exact ⟨ha, by rw [List.length_map]; exact hl, vs, _, rv, ha⟩
      · cases (if_neg hc).symm.trans z
    · by_cases hc : c = a
      · cases (if_pos hc).symm.trans z
        exact ⟨_, _, rfl⟩
      · cases (if_neg hc).symm.trans z
end
/-- the end -/
theorem walkG {l : PySem.W.OpenLaw} {n k : Nat} {q : Program} {loose : List Str} {XP : (Str → Option Value) → Heap → Prop} {YP : World → Heap → Prop} {d : DefRec} {x : Str} (hn : l.most = some n) (hn2 : n ≤ sizeLine) (hdf : d.params.defaults = []) (hr : Room (k + 1) callerA)
    (F : ∀ (w : World) (mg : Str → Option Value) (fa : Addr) (h : Heap), YP w h → h.Ns mainGlobals mg → mg d.name = some (.ref fa) →
      ∃ (K : PySem.W.Frag) (fd : FuncData) (nm qual : Str) (params : Arguments) (body : List Stmt) (sc : Scope) (N : List Str) (sp : Sp), K.In h ∧ FunD K nm qual params body sc [] [] fa fd ∧ FnScope N [x] sc ∧ (∀ (s : Shared) (u : Value), BindsTo s fd ⟨[u], []⟩ [(x, u)]) ∧
        (∀ (H : Hp) (a : Addr) (ns : List Int), ns.length ≤ n → SqL K H a (ns.map V.int) → sp [.ref a] H (fun v _ => v = .bl true) fun _ _ _ => False) ∧
        ∀ base : Heap, K.In base → base.Ns mainGlobals mg → BodyOk l.prog w K mg base k N qual sc body fa sp) :
    PySem.W.WalkO q loose XP YP l.row.toRowW d [] (fun f vs => PySem.call f vs) := by
  refine Att.attach_call hn hdf fun w s₀ s₁ mg mb fa o pm cd doc a vs ns G Y ho hd hcd hmg hobj hints hlen hg => ?_
  obtain ⟨K, fd, nm, qual, params, body, sc, N, sp, KX, FD, S, hb, hsp, B⟩ := F w mg fa _ Y G.T.g hmg
  exact law_run FD S B hb hr (fun H hS => hsp H a ns hlen hS) KX G.T.g G.T.b G.T.builtins G.T.nolimit hg hobj hints (Nat.le_trans hlen hn2)
end L2


namespace Toy
open PySem L2
theorem Same.delH {H H' : Hp} (s : Same H H') (z : Addr) : Same (L2.delH H z) (L2.delH H' z) := fun b o e => by
  by_cases h : b = z
  · rw [h, delH_same] at e
    cases e
  · rw [delH_ne h] at e ⊢
    exact s b o e
theorem Same.off {H : Hp} (z : Addr) : Same (L2.delH H z) H := fun b o e => by
  by_cases h : b = z
  · rw [h, delH_same] at e
    cases e
  · rw [delH_ne h] at e
    exact e
theorem But.off {H H' : Hp} {z : Addr} (s : But z H H') : Same (L2.delH H z) (L2.delH H' z) := fun b o e => by
  by_cases h : b = z
  · rw [h, delH_same] at e
    cases e
  · rw [delH_ne h] at e ⊢
    exact s b o h e
theorem Same.but {H H' : Hp} (s : Same H H') (z : Addr) : But z H H' := fun b o _ e => s b o e
theorem few {n : Nat} (h : n ≤ 1000) : n ≤ sizeLine := Nat.le_of_lt (small1000 h)
theorem Tape.same {H H' : Hp} {d l : Addr} {n : Nat} (t : Tape H d l n) (s : Same H H') : Tape H' d l n := by
  obtain ⟨ns, a, f, h1, h2, h3⟩ := t
  exact ⟨ns, a, f, s _ _ h1, s _ _ h2, h3⟩
abbrev partOf (st : Stmt) (i : Nat) : Stmt := (defBody st).getD i (.Pass ⟨0, 0, 0, 0⟩)
end Toy


namespace Toy
open PySem L2 PyProof.Rows
theorem dpStrs {K : PySem.W.Frag} {H : Hp} : ∀ ks : List Str, DpAll K H (ks.map V.str) (ks.map PyData.str)
  | [] => .nil
  | k :: ks => .cons (.str k) (dpStrs ks)
theorem layStrs : ∀ {ks : List Str}, (∀ k ∈ ks, PyData.strOk k = true) → PyData.canLayAll0 (ks.map PyData.str) = true
  | [], _ => by simp [PyData.canLayAll0]
  | k :: ks, h => by
    simp only [List.map_cons, PyData.canLayAll0, PyData.canLay0]
    rw [h k List.mem_cons_self, layStrs fun x hx => h x (List.mem_cons_of_mem _ hx)]
    rfl
theorem depthStrs : ∀ ks : List Str, PyData.depthAll (ks.map PyData.str) ≤ 1
  | [] => by simp [PyData.depthAll]
  | k :: ks => by
    have := depthStrs ks
    simp only [List.map_cons, PyData.depthAll, PyData.depth]
    omega
theorem shapedStrs {ks : List Str} (h : ∀ k ∈ ks, PyData.strOk k = true) : SeqAt.shaped (.list (ks.map PyData.str)) = true := by
  unfold SeqAt.shaped
  have z := depthStrs ks
  rw [show (PyData.list (ks.map PyData.str)).canLay0 = true by simp only [PyData.canLay0]; exact layStrs h, Bool.true_and]
  exact decide_eq_true (by simp only [PyData.depth]; omega)
theorem Tape.at {H : Hp} {d l : Addr} {n : Nat} (t : Tape H d l n) : (∃ o, H d = some o) ∧ ∃ o, H l = some o := by
  obtain ⟨ns, a, f, h1, h2, _⟩ := t
  exact ⟨⟨_, h1⟩, _, h2⟩
theorem Tape.upd {H : Hp} {d l p : Addr} {n : Nat} {u : HO} (t : Tape H d l n) (h1 : d ≠ p) (h2 : l ≠ p) : Tape (L2.upd H p u) d l n := by
  obtain ⟨ns, a, f, e1, e2, e3⟩ := t
  exact ⟨ns, a, f, by rw [upd_ne h1]; exact e1, by rw [upd_ne h2]; exact e2, e3⟩
theorem nodup_fst_put {kvs : List (Key × V)} {k : Key} {v : V} (h : k ∉ kvs.map (·.1)) : putK kvs k v = kvs ++ [(k, v)] := by
  unfold putK
  rw [if_neg]
  simpa using h
theorem merge_new : ∀ (more kvs : List (Key × V)), ((kvs ++ more).map (·.1)).Nodup → mergeK kvs more = kvs ++ more
  | [], kvs, _ => by simp [mergeK]
  | p :: more, kvs, h => by
    have e : mergeK kvs (p :: more) = mergeK (putK kvs p.1 p.2) more := by simp [mergeK]
    have hp : p.1 ∉ kvs.map (·.1) := by
      rw [List.map_append, List.nodup_append] at h
      intro z
      exact h.2.2 _ z _ (by simp) rfl
    rw [e, nodup_fst_put hp, merge_new more (kvs ++ [(p.1, p.2)]) (by simpa using h)]
    simp
theorem same_put {H H1 : Hp} {D : Addr} {u : HO} (s : Same H H1) (n : H D = none) : Same H (upd H1 D u) := fun b o e => by
  rw [upd_ne (ne_of_none e n)]
  exact s _ _ e
theorem same_id {H : Hp} : Same H H := fun _ _ z => z
theorem Tape.more {H : Hp} {d l : Addr} {n m : Nat} (t : Tape H d l n) (h : n ≤ m) : Tape H d l m := by
  obtain ⟨ns, a, f, h1, h2, h3, h4, h5, h6⟩ := t
  exact ⟨ns, a, f, h1, h2, h3, h4, h5, by omega⟩
abbrev sPick : Stmt := top 43
def spPick : Sp := fun vs H Q _ => ∃ (d l p : Addr) (n : Nat) (xs : List V), vs = [.ref d, .ref p] ∧ Tape H d l n ∧ n ≤ 1000000 ∧ H p = some (.lst xs) ∧ xs ≠ [] ∧ xs.length < 1000000 ∧
  ∀ H' v, But d H H' → Tape H' d l (n + 1) → v ∈ xs → Q v H'
section
variable {P : Program} {w : World} {K : PySem.W.Frag} {mg : Str → Option Value} {base : Heap}
theorem scP : FnScope ["_law_tape", "_law_items"] ["_law_tape", "_law_items"] (defScope sPick) := ⟨rfl, rfl, rfl, by decide +kernel, rfl, by decide +kernel, by decide +kernel⟩
theorem ok_pick {f fD : Addr} {fd fdD : FuncData} (F : Fun K "_law_pick" "_law_pick" sPick f fd) (GD : FnOk P w K mg base CX0 1 fD fdD ["_law_tape", "_law_many"] spDraw) (mD : mg "_law_draw" = some (.ref fD)) (kD : PySem.W.keepIn K (.ref fD) = true) (bD : Binds K fdD ["_law_tape", "_law_many"] []) (mLen : mg "len" = none) : FnOk P w K mg base CX0 2 f fd ["_law_tape", "_law_items"] spPick := by
  refine F.ok scP (fun vs H Q E h => ?_) (fun cdv A outer s H vs Q E hr h => ?_)
  · obtain ⟨d, l, p, n, xs, rfl, _⟩ := h
    rfl
  · obtain ⟨d, l, p, n, xs, rfl, hT, hn, hp, hne, hlen, q⟩ := h
    refine ⟨_, pss_one (ps_ret (pe_ix ix_list (pv 1) (pe_call GD hr rfl mD kD bD .nil pass0 (pa_cons (pv 0) (pa_cons (pe_callB call_len_seq (by rfl) mLen PySem.boot_len (pa_cons (pv 1) pa_nil)) pa_nil))) (fun _ _ => rfl))), ?_⟩
    have lp : 0 < xs.length := List.length_pos_iff.mpr hne
    refine ⟨_, rfl, _, rfl, _, rfl, p, _, rfl, .inl (SqL.of hp), d, l, n, _, rfl, hT, hn, (by omega), (by omega), fun H1 r hb hT1 r0 r1 => ?_⟩
    have npd : p ≠ d := by
      obtain ⟨ns, a, f, hd, _⟩ := hT
      exact ne_of hp hd (by intro z; cases z)
    obtain ⟨j, ej⟩ : ∃ j : Nat, r = (j : Int) := ⟨r.toNat, by omega⟩
    have hj : j < xs.length := by omega
    refine ⟨p, xs, _, xs[j], rfl, rfl, SqL.of (hb _ _ npd hp), (by rw [ej]; exact atI_nat (List.getElem?_eq_getElem hj)), q _ _ hb hT1 (List.getElem_mem hj)⟩
end
end Toy


namespace Toy
open PySem PySem.Spec L2 PyProof.Rows PySem.W
abbrev sRun : Stmt := top 25
abbrev sGap : Stmt := top 22
/-! ### ends of runs and gaps, as numbers -/
def runE (p : List Nat) (cs : List Nat) (i : Nat) : Nat := i + ((cs.drop i).takeWhile fun c => decide (c ∈ p)).length
theorem runE_in {p cs : List Nat} {i c : Nat} (h : cs[i]? = some c) (hc : c ∈ p) : runE p cs i = runE p cs (i + 1) := by
  obtain ⟨hi, e⟩ := List.getElem?_eq_some_iff.mp h
  unfold runE
  rw [List.drop_eq_getElem_cons hi, e, List.takeWhile_cons, decide_eq_true hc]
  simp only [if_true, List.length_cons]
  omega
theorem runE_out {p cs : List Nat} {i c : Nat} (h : cs[i]? = some c) (hc : c ∉ p) : runE p cs i = i := by
  obtain ⟨hi, e⟩ := List.getElem?_eq_some_iff.mp h
  unfold runE
  rw [List.drop_eq_getElem_cons hi, e, List.takeWhile_cons, decide_eq_false hc]
  simp
theorem runE_end {p cs : List Nat} {i : Nat} (h : cs.length ≤ i) : runE p cs i = i := by
  unfold runE
  rw [List.drop_eq_nil_of_le h]
  rfl
theorem runE_le {p cs : List Nat} {i : Nat} (h : i ≤ cs.length) : i ≤ runE p cs i ∧ runE p cs i ≤ cs.length := by
  unfold runE
  have h1 := (List.takeWhile_sublist (fun c => decide (c ∈ p)) (l := cs.drop i)).length_le
  rw [List.length_drop] at h1
  omega
theorem runE_all {p cs : List Nat} {i j c : Nat} (h1 : i ≤ j) (h2 : j < runE p cs i) (h : cs[j]? = some c) : c ∈ p := by
  unfold runE at h2
  have hlt : j - i < ((cs.drop i).takeWhile fun c => decide (c ∈ p)).length := by omega
  have pre : ((cs.drop i).takeWhile fun c => decide (c ∈ p)) <+: cs.drop i := List.takeWhile_prefix _
  have e1 := pre.getElem hlt
  have e2 : (cs.drop i)[j - i]? = some c := by rw [List.getElem?_drop, show i + (j - i) = j by omega]; exact h
  have e3 := (List.getElem?_eq_some_iff.mp e2).2
  rw [e3] at e1
  have h4 : ((cs.drop i).takeWhile fun c => decide (c ∈ p)).all (fun c => decide (c ∈ p)) = true := List.all_takeWhile
  have h5 := List.all_eq_true.mp h4 _ (List.getElem_mem hlt)
  rw [e1] at h5
  exact of_decide_eq_true h5
def spRun : Sp := fun vs H Q _ => ∃ (z p : Str) (i : Nat), vs = [.str z, .int (i : Int), .str p] ∧ z.length ≤ sizeLine ∧ i ≤ z.length ∧ Q (.int ((runE p.cps.toList z.cps.toList i : Nat) : Int)) H
theorem scRun : FnScope ["text", "at", "letters"] ["text", "at", "letters"] (defScope sRun) := ⟨rfl, rfl, rfl, by decide +kernel, rfl, by decide +kernel, by decide +kernel⟩
section
variable {P : Program} {w : World} {K : PySem.W.Frag} {mg : Str → Option Value} {base : Heap}
theorem ok_run {f : Addr} {fd : FuncData} (F : Fun K "_run_end" "_run_end" sRun f fd) (mLen : mg "len" = none) : FnOk P w K mg base CX0 1 f fd ["text", "at", "letters"] spRun := by
  refine F.ok scRun (fun vs H Q E h => ?_) (fun cdv A outer s H vs Q E hr h => ?_)
  · obtain ⟨z, p, i, rfl, _⟩ := h
    rfl
  · obtain ⟨z, p, i, rfl, hz, hi, q⟩ := h
    have hl : z.cps.toList.length = z.length := by rw [Array.length_toList]; rfl
    refine ⟨_, pss_cons (ps_while PassesOwn.never (PW.pt (pw_and (pt_cmpR op_lt (pv 1) (pe_callB call_len_str (by rfl) mLen PySem.boot_len (pa_cons (pv 0) pa_nil)) (nomark _)) (pw_and1 (pt_cmpR op_inS (pe_ix ix_str (pv 0) (pv 1) (fun _ _ => rfl)) (pv 2) (by rfl)))))
        (pss_one (ps_aug (i := 1) scRun.nd rfl (Or.inl rfl) pe_int ip_add)))
      (pss_one (ps_ret (pv 1))), ?_⟩
    refine ⟨fun m σ H' => ∃ j : Nat, σ = [some (.str z), some (.int (j : Int)), some (.str p)] ∧ H' = H ∧ j ≤ z.length ∧ runE p.cps.toList z.cps.toList j = runE p.cps.toList z.cps.toList i ∧ m = z.length - j, ⟨_, i, rfl, rfl, hi, rfl, rfl⟩, ?_⟩
    rintro m σ H' ⟨j, rfl, rfl, hj, ej, rfl⟩
    refine ⟨_, rfl, _, rfl, _, rfl, hz, _, _, rfl, rfl, _, rfl, ?_⟩
    have fin : runE p.cps.toList z.cps.toList j = j → Q (.int ((j : Nat) : Int)) H' := fun e => by
      rw [← ej, e] at q
      exact q
    refine ite2 (fun c => ?_) (fun c => ?_)
    · have c : (j : Int) < (z.length : Int) := of_decide_eq_true c
      have lj : j < z.cps.toList.length := by omega
      have ej2 : z.cps.toList[j]? = some z.cps.toList[j] := List.getElem?_eq_getElem lj
      generalize z.cps.toList[j] = u at ej2
      refine ⟨_, rfl, _, rfl, z, _, u, rfl, rfl, hz, atI_nat ej2, _, rfl, u, p, rfl, rfl, _, rfl, ?_⟩
      by_cases hu : u ∈ p.cps.toList
      · rw [decide_eq_true hu]
        refine iteT ⟨fun σ' H2 => ∃ j' : Nat, σ' = [some (.str z), some (.int (j' : Int)), some (.str p)] ∧ H2 = H' ∧ j' = j + 1, fun σ' H2 w => ?_, ?_⟩
        · obtain ⟨j', rfl, rfl, rfl⟩ := w
          exact ⟨z.length - (j + 1), by omega, j + 1, rfl, rfl, by omega, by rw [← runE_in ej2 hu]; exact ej, rfl⟩
        · refine ⟨_, rfl, _, _, rfl, rfl, j + 1, ?_, rfl, rfl⟩
          show [some (V.str z), some (V.int ((j : Int) + 1)), some (V.str p)] = _
          push_cast
          rfl
      · rw [decide_eq_false hu]
        exact iteF ⟨_, rfl, fin (runE_out ej2 hu)⟩
    · have c : ¬ (j : Int) < (z.length : Int) := fun h => c (decide_eq_true h)
      exact iteF ⟨_, rfl, fin (runE_end (by omega))⟩
end
end Toy


namespace Toy
open PySem PySem.Spec L2 PyProof.Rows PySem.W
/-! ### the next sign of a kind, or the end -/
/-- the first place from i on at which c stands, or the end -/
def nlE (c : Nat) (cs : List Nat) (i : Nat) : Nat := i + ((cs.drop i).takeWhile fun u => decide (u ≠ c)).length
theorem nlE_here {c : Nat} {cs : List Nat} {i : Nat} (h : cs[i]? = some c) : nlE c cs i = i := by
  obtain ⟨hi, e⟩ := List.getElem?_eq_some_iff.mp h
  unfold nlE
  rw [List.drop_eq_getElem_cons hi, e, List.takeWhile_cons]
  simp
theorem nlE_next {c u : Nat} {cs : List Nat} {i : Nat} (h : cs[i]? = some u) (hu : u ≠ c) : nlE c cs i = nlE c cs (i + 1) := by
  obtain ⟨hi, e⟩ := List.getElem?_eq_some_iff.mp h
  unfold nlE
  rw [List.drop_eq_getElem_cons hi, e, List.takeWhile_cons, decide_eq_true hu]
  simp only [if_true, List.length_cons]
  omega
theorem nlE_end {c : Nat} {cs : List Nat} {i : Nat} (h : cs.length ≤ i) : nlE c cs i = i := by
  unfold nlE
  rw [List.drop_eq_nil_of_le h]
  rfl
theorem nlE_le {c : Nat} {cs : List Nat} {i : Nat} (h : i ≤ cs.length) : i ≤ nlE c cs i ∧ nlE c cs i ≤ cs.length := by
  unfold nlE
  have h1 := (List.takeWhile_sublist (fun u => decide (u ≠ c)) (l := cs.drop i)).length_le
  rw [List.length_drop] at h1
  omega
section
open StrLaws Builtin Builtin.Str
theorem occ_stays (s sub : Str) (hi k : Nat) : ∀ (l : List Nat) (fr : Nat), (forIn l ((#[k] : Array Nat), fr) (occBody s sub hi 1)).run.fst = #[k]
  | [], fr => rfl
  | a :: l, fr => by
    rw [List.forIn_cons]
    unfold occBody
    rw [if_neg (fun z => by have := z.1.1.1; simp at this)]
    exact occ_stays s sub hi k l fr
theorem occ_goes (x : Str) (c : Nat) : ∀ (n lo fr : Nat), fr ≤ lo → lo + n = x.length + 1 → (forIn (List.range' lo n) ((#[] : Array Nat), fr) (occBody x ⟨#[c]⟩ x.length 1)).run.fst.toList = if nlE c x.cps.toList lo < x.length then [nlE c x.cps.toList lo] else []
  | 0, lo, fr, _, h => by
    have hl : x.cps.toList.length = x.length := by rw [Array.length_toList]; rfl
    rw [nlE_end (by omega), if_neg (by omega)]
    rfl
  | n + 1, lo, fr, hf, h => by
    have hl : x.cps.toList.length = x.length := by rw [Array.length_toList]; rfl
    rw [List.range'_succ, List.forIn_cons]
    by_cases hc : x.cps.toList[lo]? = some c
    · have h2 := (subAt_one x c lo).mpr hc
      unfold occBody
      rw [if_pos ⟨⟨⟨by simp, hf⟩, h2.1⟩, h2.2⟩]
      have lt := (List.getElem?_eq_some_iff.mp hc).1
      rw [nlE_here hc, if_pos (by omega)]
      have z := occ_stays x ⟨#[c]⟩ x.length lo (List.range' (lo + 1) n) (lo + (⟨#[c]⟩ : Str).length)
      show (forIn (List.range' (lo + 1) n) ((#[] : Array Nat).push lo, lo + (⟨#[c]⟩ : Str).length) (occBody x ⟨#[c]⟩ x.length 1)).run.fst.toList = [lo]
      rw [show (#[] : Array Nat).push lo = #[lo] from rfl, z]
    · unfold occBody
      rw [if_neg (fun z => hc ((subAt_one x c lo).mp ⟨z.1.2, z.2⟩))]
      have ih := occ_goes x c n (lo + 1) fr (by omega) (by omega)
      show (forIn (List.range' (lo + 1) n) ((#[] : Array Nat), fr) (occBody x ⟨#[c]⟩ x.length 1)).run.fst.toList = _
      rw [ih]
      cases hu : x.cps.toList[lo]? with
      | none =>
        have := List.getElem?_eq_none_iff.mp hu
        rw [nlE_end (by omega : x.cps.toList.length ≤ lo), nlE_end (by omega : x.cps.toList.length ≤ lo + 1), if_neg (by omega), if_neg (by omega)]
      | some u =>
        rw [nlE_next hu (fun z => hc (by rw [hu, z]))]
theorem find3_one (x : Str) (c i : Nat) (hi : i ≤ x.length) : Txt.find3 x ⟨#[c]⟩ (i : Int) = if nlE c x.cps.toList i < x.length then ((nlE c x.cps.toList i : Nat) : Int) else -1 := by
  have e0 : PySem.fromIndex x.length (i : Int) = i := by
    unfold PySem.fromIndex
    rw [if_neg (by omega)]
    omega
  unfold Txt.find3
  rw [e0, occ_eq, occ_goes x c (x.length + 1 - i) i i (Nat.le_refl _) (by omega)]
  by_cases h : nlE c x.cps.toList i < x.length
  · rw [if_pos h, if_pos h]
  · rw [if_neg h, if_neg h]
end
end Toy


namespace Toy
open PySem PySem.Spec L2 PyProof.Rows PySem.W
/-- the end of a gap: spaces, newlines, and what stands behind a # up to the end of its line -/
def gapE (cs : List Nat) (i : Nat) : Nat :=
  if h : i < cs.length then
    if cs[i] = 32 ∨ cs[i] = 10 then gapE cs (i + 1)
    else if cs[i] = 35 then (if i < nlE 10 cs i then gapE cs (nlE 10 cs i) else i)
    else i
  else i
termination_by cs.length - i
decreasing_by all_goals omega
theorem gapE_end {cs : List Nat} {i : Nat} (h : cs.length ≤ i) : gapE cs i = i := by
  rw [gapE, dif_neg (by omega)]
theorem gapE_space {cs : List Nat} {i c : Nat} (h : cs[i]? = some c) (hc : c = 32 ∨ c = 10) : gapE cs i = gapE cs (i + 1) := by
  obtain ⟨hi, e⟩ := List.getElem?_eq_some_iff.mp h
  rw [gapE, dif_pos hi, e, if_pos hc]
theorem nlE_gt {cs : List Nat} {i c : Nat} (h : cs[i]? = some c) (hc : c ≠ 10) : i < nlE 10 cs i := by
  obtain ⟨hi, e⟩ := List.getElem?_eq_some_iff.mp h
  rw [nlE_next h hc]
  exact (nlE_le (show i + 1 ≤ cs.length by omega)).1
theorem gapE_mark {cs : List Nat} {i : Nat} (h : cs[i]? = some 35) : gapE cs i = gapE cs (nlE 10 cs i) := by
  obtain ⟨hi, e⟩ := List.getElem?_eq_some_iff.mp h
  rw [gapE, dif_pos hi, e, if_neg (by decide), if_pos rfl, if_pos (nlE_gt h (by decide))]
theorem gapE_out {cs : List Nat} {i c : Nat} (h : cs[i]? = some c) (h1 : ¬ (c = 32 ∨ c = 10)) (h2 : c ≠ 35) : gapE cs i = i := by
  obtain ⟨hi, e⟩ := List.getElem?_eq_some_iff.mp h
  rw [gapE, dif_pos hi, e, if_neg h1, if_neg h2]
abbrev gapS : Str := " \n#"
theorem gapS_in (c : Nat) : c ∈ gapS.cps.toList ↔ (c = 32 ∨ c = 10 ∨ c = 35) := by
  rw [show gapS.cps.toList = [32, 10, 35] by decide +kernel]
  simp
def spGap : Sp := fun vs H Q _ => ∃ (z : Str) (i : Nat), vs = [.str z, .int (i : Int)] ∧ z.length ≤ sizeLine ∧ i ≤ z.length ∧ Q (.int ((gapE z.cps.toList i : Nat) : Int)) H
theorem scGap : FnScope ["text", "at", "end"] ["text", "at"] (defScope sGap) := ⟨rfl, rfl, rfl, by decide +kernel, rfl, by decide +kernel, by decide +kernel⟩
section
variable {P : Program} {w : World} {K : PySem.W.Frag} {mg : Str → Option Value} {base : Heap}
theorem ok_gap {f : Addr} {fd : FuncData} (F : Fun K "_gap_end" "_gap_end" sGap f fd) (mLen : mg "len" = none) : FnOk P w K mg base CX0 1 f fd ["text", "at"] spGap := by
  refine F.ok scGap (fun vs H Q E h => ?_) (fun cdv A outer s H vs Q E hr h => ?_)
  · obtain ⟨z, i, rfl, _⟩ := h
    rfl
  · obtain ⟨z, i, rfl, hz, hi, q⟩ := h
    have hl : z.cps.toList.length = z.length := by rw [Array.length_toList]; rfl
    refine ⟨_, pss_cons (ps_while PassesOwn.never (PW.pt (pw_and (pt_cmpR op_lt (pv 1) (pe_callB call_len_str (by rfl) mLen PySem.boot_len (pa_cons (pv 0) pa_nil)) (nomark _)) (pw_and1 (pt_cmpR op_inS (pe_ix ix_str (pv 0) (pv 1) (fun _ _ => rfl)) pe_str (by rfl)))))
        (pss_one (ps_if (pt_cmpR op_eq (pe_ix ix_str (pv 0) (pv 1) (fun _ _ => rfl)) pe_str (nomark _))
          (pss_cons (ps_set (i := 2) scGap.nd rfl (Or.inl rfl) (pe_bm PySem.F.plainAttrs_str PySem.F.slot_str_find PySem.F.type_str_find mt_find3 (pv 0) (pa_cons pe_str (pa_cons (pv 1) pa_nil))))
          (pss_one (ps_set (i := 1) scGap.nd rfl (Or.inl rfl) (pe_ifExp (pt_cmpR op_lt (pv 2) pe_int (nomark _)) (pe_callB call_len_str (by rfl) mLen PySem.boot_len (pa_cons (pv 0) pa_nil)) (pv 2)))))
          (pss_one (ps_aug (i := 1) scGap.nd rfl (Or.inl rfl) pe_int ip_add)))))
      (pss_one (ps_ret (pv 1))), ?_⟩
    refine ⟨fun m σ H' => ∃ (j : Nat) (o : Option V), σ = [some (.str z), some (.int (j : Int)), o] ∧ H' = H ∧ j ≤ z.length ∧ gapE z.cps.toList j = gapE z.cps.toList i ∧ m = z.length - j, ⟨_, i, none, rfl, rfl, hi, rfl, rfl⟩, ?_⟩
    rintro m σ H' ⟨j, o, rfl, rfl, hj, ej, rfl⟩
    refine ⟨_, rfl, _, rfl, _, rfl, hz, _, _, rfl, rfl, _, rfl, ?_⟩
    have fin : gapE z.cps.toList j = j → Q (.int ((j : Nat) : Int)) H' := fun e => by
      rw [← ej, e] at q
      exact q
    refine ite2 (fun c => ?_) (fun c => ?_)
    · have c : (j : Int) < (z.length : Int) := of_decide_eq_true c
      have lj : j < z.cps.toList.length := by omega
      have ej2 : z.cps.toList[j]? = some z.cps.toList[j] := List.getElem?_eq_getElem lj
      generalize z.cps.toList[j] = u at ej2
      refine ⟨_, rfl, _, rfl, z, _, u, rfl, rfl, hz, atI_nat ej2, u, gapS, rfl, rfl, _, rfl, ?_⟩
      by_cases hu : u ∈ gapS.cps.toList
      · rw [decide_eq_true hu]
        refine iteT ⟨fun σ' H2 => ∃ (j' : Nat) (o' : Option V), σ' = [some (.str z), some (.int (j' : Int)), o'] ∧ H2 = H' ∧ j < j' ∧ j' ≤ z.length ∧ gapE z.cps.toList j' = gapE z.cps.toList j, fun σ' H2 w => ?_, ?_⟩
        · obtain ⟨j', o', rfl, rfl, l1, l2, e⟩ := w
          exact ⟨z.length - j', by omega, j', o', rfl, rfl, l2, by rw [e]; exact ej, rfl⟩
        · refine ⟨_, rfl, _, rfl, z, _, u, rfl, rfl, hz, atI_nat ej2, rfl, _, rfl, ite2 (fun c2 => ?_) (fun c2 => ?_)⟩
          · have eu : u = 35 := by
              have z := V.str.inj (of_decide_eq_true c2)
              have z2 : (⟨#[u]⟩ : Str).cps = ("#" : Str).cps := by rw [z]
              have z3 : (#[u] : Array Nat) = #[35] := z2
              simpa using z3
            subst eu
            have hnl := nlE_le (c := 10) (show j ≤ z.cps.toList.length by omega)
            have hgt := nlE_gt ej2 (by decide)
            have hge := gapE_mark ej2
            have hf : Txt.find3 z ("\n" : Str) (j : Int) = if nlE 10 z.cps.toList j < z.length then ((nlE 10 z.cps.toList j : Nat) : Int) else -1 := find3_one z 10 j hj
            refine ⟨_, rfl, (rfl : "str" = "str"), _, rfl, z, _, (j : Int), rfl, rfl, ?_⟩
            rw [hf]
            by_cases hlt : nlE 10 z.cps.toList j < z.length
            · rw [if_pos hlt]
              refine ⟨_, rfl, _, _, rfl, rfl, _, rfl, ite2 (fun c3 => ?_) (fun c3 => ?_)⟩
              · have c3 : ((nlE 10 z.cps.toList j : Nat) : Int) < 0 := of_decide_eq_true c3
                omega
              · exact ⟨_, rfl, nlE 10 z.cps.toList j, _, rfl, rfl, hgt, by omega, hge.symm⟩
            · rw [if_neg hlt]
              refine ⟨_, rfl, _, _, rfl, rfl, _, rfl, ite2 (fun c3 => ?_) (fun c3 => ?_)⟩
              · refine ⟨_, rfl, z, rfl, hz, z.length, _, rfl, rfl, by omega, Nat.le_refl _, ?_⟩
                rw [hge, show nlE 10 z.cps.toList j = z.length by omega]
              · exact absurd (decide_eq_true (by decide : (-1 : Int) < 0)) c3
          · have nu : u ≠ 35 := fun e => c2 (by rw [e]; exact decide_eq_true rfl)
            have su : u = 32 ∨ u = 10 := by
              rcases (gapS_in u).mp hu with z | z | z
              · exact .inl z
              · exact .inr z
              · exact absurd z nu
            refine ⟨_, rfl, _, _, rfl, rfl, j + 1, o, ?_, rfl, by omega, by omega, (gapE_space ej2 su).symm⟩
            show [some (V.str z), some (V.int ((j : Int) + 1)), o] = _
            push_cast
            rfl
      · rw [decide_eq_false hu]
        have nu := fun z => hu ((gapS_in u).mpr z)
        exact iteF ⟨_, rfl, fin (gapE_out ej2 (fun z => nu (by rcases z with z | z <;> simp [z])) (fun z => nu (by simp [z])))⟩
    · have c : ¬ (j : Int) < (z.length : Int) := fun h => c (decide_eq_true h)
      exact iteF ⟨_, rfl, fin (gapE_end (by omega))⟩
end
end Toy


namespace Toy
open PySem PySem.Spec L2 PyProof.Rows PySem.W
abbrev sPcI : Stmt := inClass (top 20) 0
abbrev sPc : Stmt := top 24
/-- what is known of the class Piece -/
structure PCls (K : PySem.W.Frag) (C f : Addr) : Prop where
  cl : Cls K C
  mk' : Mk K C f
  nk : NoAttr K C "kind"
  nt : NoAttr K C "told"
  na : NoAttr K C "at"
  ne : NoAttr K C "end"
def pcF (k t a e : V) : List (Str × V) := [("kind", k), ("told", t), ("at", a), ("end", e)]
def spPcI (C : Addr) : Sp := fun vs H Q _ => ∃ (x dx : Addr) (k t a e : V), vs = [.ref x, k, t, a, e] ∧ H x = some (.ins C dx []) ∧ ∀ H', (∀ b, b ≠ x → H' b = H b) → H' x = some (.ins C dx (pcF k t a e)) → Q .non H'
theorem len_putF (f : Str) (v : V) : ∀ fs : List (Str × V), (putF f v fs).length ≤ fs.length + 1
  | [] => by rw [putF]; exact Nat.le_refl _
  | (g, x) :: r => by
    rw [putF]
    split
    · simp
    · have := len_putF f v r
      simp only [List.length_cons]
      omega
theorem scPcI : FnScope ["self", "kind", "told", "at", "end"] ["self", "kind", "told", "at", "end"] (defScope sPcI) := ⟨rfl, rfl, rfl, by decide +kernel, rfl, by decide +kernel, by decide +kernel⟩
theorem scPc : FnScope ["kind", "told", "at", "end", "is_right"] ["kind", "told", "at", "end", "is_right"] (defScope sPc) := ⟨rfl, rfl, rfl, by decide +kernel, rfl, by decide +kernel, by decide +kernel⟩
section
variable {P : Program} {w : World} {K : PySem.W.Frag} {mg : Str → Option Value} {base : Heap}
theorem ok_pcI {C f f0 : Addr} {fd : FuncData} (T : PCls K C f0) (F : Fun K "__init__" "Piece.__init__" sPcI f fd) : FnOk P w K mg base CX0 1 f fd ["self", "kind", "told", "at", "end"] (spPcI C) := by
  refine F.ok scPcI (fun vs H Q E h => ?_) (fun cdv A outer s H vs Q E hr h => ?_)
  · obtain ⟨x, dx, k, t, a, e, rfl, _⟩ := h
    rfl
  · obtain ⟨x, dx, k, t, a, e, rfl, hx, q⟩ := h
    refine ⟨_, pss_cons (ps_fld (pv 0) (pv 1) rfl) (pss_cons (ps_fld (pv 0) (pv 2) rfl) (pss_cons (ps_fld (pv 0) (pv 3) rfl) (pss_one (ps_fld (pv 0) (pv 4) rfl)))), ?_⟩
    refine ⟨_, rfl, _, rfl, x, C, dx, _, rfl, hx, T.cl, T.nk, by show ([] : List (Str × V)).length < 1000; decide, ?_⟩
    refine ⟨_, rfl, _, rfl, x, C, dx, _, rfl, upd_same, T.cl, T.nt, Nat.lt_of_le_of_lt (len_putF _ _ _) (by show 0 + 1 < 1000; decide), ?_⟩
    refine ⟨_, rfl, _, rfl, x, C, dx, _, rfl, upd_same, T.cl, T.na, Nat.lt_of_le_of_lt (len_putF _ _ _) (Nat.lt_of_le_of_lt (Nat.succ_le_succ (len_putF _ _ _)) (by show 0 + 1 + 1 < 1000; decide)), ?_⟩
    refine ⟨_, rfl, _, rfl, x, C, dx, _, rfl, upd_same, T.cl, T.ne, Nat.lt_of_le_of_lt (len_putF _ _ _) (Nat.lt_of_le_of_lt (Nat.succ_le_succ (len_putF _ _ _)) (Nat.lt_of_le_of_lt (Nat.succ_le_succ (Nat.succ_le_succ (len_putF _ _ _))) (by show 0 + 1 + 1 + 1 < 1000; decide))), ?_⟩
    refine q _ (fun b hb => ?_) ?_
    · rw [upd_ne hb, upd_ne hb, upd_ne hb, upd_ne hb]
    · rw [upd_same]
      rfl
def pcR (r : Bool) (k t : V) (a e : Nat) : List (Str × V) := if r = true then pcF k t (.int (a : Int)) (.int (e : Int)) else pcF (.str "wrong") .non (.int (a : Int)) (.int ((a + 1 : Nat) : Int))
def spPc (C : Addr) : Sp := fun vs H Q _ => ∃ (k t : V) (a e : Nat) (r : Bool), vs = [k, t, .int (a : Int), .int (e : Int), .bl r] ∧ ∀ H' x dx, Same H H' → H x = none → H' x = some (.ins C dx (pcR r k t a e)) → Q (.ref x) H'
theorem ok_pc {C f fI : Addr} {fd fdI : FuncData} (T : PCls K C fI) (F : Fun K "_piece" "_piece" sPc f fd) (GI : FnOk P w K mg base CX0 1 fI fdI ["self", "kind", "told", "at", "end"] (spPcI C)) (mC : mg "Piece" = some (.ref C)) (bI : Binds K fdI ["self", "kind", "told", "at", "end"] []) :
    FnOk P w K mg base CX0 3 f fd ["kind", "told", "at", "end", "is_right"] (spPc C) := by
  refine F.ok scPc (fun vs H Q E h => ?_) (fun cdv A outer s H vs Q E hr h => ?_)
  · obtain ⟨k, t, a, e, r, rfl, _⟩ := h
    rfl
  · obtain ⟨k, t, a, e, r, rfl, q⟩ := h
    refine ⟨_, pss_one (ps_ret (pe_ifExp (pt_val (pv 4)) (pe_make T.mk' GI hr (by rfl) mC bI .nil pass0 (pa_cons (pv 0) (pa_cons (pv 1) (pa_cons (pv 2) (pa_cons (pv 3) pa_nil)))))
      (pe_make T.mk' GI hr (by rfl) mC bI .nil pass0 (pa_cons pe_str (pa_cons pe_non (pa_cons (pv 2) (pa_cons (pe_op op_add (pv 2) pe_int) pa_nil))))))), ?_⟩
    have made : ∀ {x dx : Addr} {H' : Hp} {fs : List (Str × V)}, H x = none → H dx = none → dx ≠ x → (∀ b, b ≠ x → H' b = (upd (upd H dx (.own x)) x (.ins C dx [])) b) → H' x = some (.ins C dx fs) → Same H H' := by
      intro x dx H' fs nx ndx ne h1 h2 b o hb
      have b1 : b ≠ x := fun z => by rw [z, nx] at hb; cases hb
      have b2 : b ≠ dx := fun z => by rw [z, ndx] at hb; cases hb
      rw [h1 b b1, upd_ne b1, upd_ne b2]
      exact hb
    refine ⟨_, rfl, r, rfl, ite2 (fun c => ?_) (fun c => ?_)⟩
    · refine ⟨_, rfl, _, rfl, _, rfl, _, rfl, fun x dx nx ndx ne => ⟨x, dx, _, _, _, _, rfl, upd_same, fun H' h1 h2 => ⟨rfl, q H' x dx (made nx ndx ne h1 h2) nx ?_⟩⟩⟩
      rw [h2]
      unfold pcR
      rw [if_pos c]
    · refine ⟨_, rfl, _, rfl, _, _, rfl, rfl, fun x dx nx ndx ne => ⟨x, dx, _, _, _, _, rfl, upd_same, fun H' h1 h2 => ⟨rfl, q H' x dx (made nx ndx ne h1 h2) nx ?_⟩⟩⟩
      rw [h2]
      unfold pcR
      rw [if_neg c]
      push_cast
      rfl
end
end Toy


namespace Toy
open PySem PySem.Spec L2 PyProof.Rows PySem.W PySem.NumText
abbrev sNum : Stmt := top 26
abbrev digS : Str := "0123456789"
theorem digS_in (c : Nat) : c ∈ digS.cps.toList ↔ (48 ≤ c ∧ c ≤ 57) := by
  rw [show digS.cps.toList = [48, 49, 50, 51, 52, 53, 54, 55, 56, 57] by decide +kernel]
  simp
  omega
/-- the digits from b on -/
def digR (cs : List Nat) (b : Nat) : List Nat := (cs.drop b).take (runE digS.cps.toList cs b - b)
def numV (g : Int) (ds : List Nat) : Int := if ds.length ≤ 31 then ((digitsVal ds : Nat) : Int) else g + 1
def numR (g : Int) (ds : List Nat) : Bool := decide (numV g ds ≤ g) && (decide (ds = [48]) || decide (ds.head? ≠ some 48))
theorem cut_lo_hi (z : Str) {a b : Nat} (h1 : a ≤ b) (h2 : b ≤ z.length) : cutS z (some (a : Int)) (some (b : Int)) = ⟨((z.cps.toList.drop a).take (b - a)).toArray⟩ := by
  unfold cutS
  rw [HT.sIx_nat, HT.sIx_nat, show min a z.length = a by omega, show min b z.length = b by omega]
theorem digR_all {cs : List Nat} {b : Nat} : AllDigits (digR cs b) := by
  intro c hc
  unfold digR at hc
  obtain ⟨j, hj⟩ := List.getElem?_of_mem hc
  rw [List.getElem?_take] at hj
  by_cases h : j < runE digS.cps.toList cs b - b
  · rw [if_pos h, List.getElem?_drop] at hj
    exact (digS_in c).mp (runE_all (show b ≤ b + j by omega) (by omega) hj)
  · rw [if_neg h] at hj
    cases hj
theorem digR_head {cs : List Nat} {b c : Nat} (h : cs[b]? = some c) (hc : 48 ≤ c ∧ c ≤ 57) : (digR cs b).head? = some c ∧ b < runE digS.cps.toList cs b := by
  obtain ⟨hi, e⟩ := List.getElem?_eq_some_iff.mp h
  have h1 := runE_in h ((digS_in c).mpr hc)
  have h2 := (runE_le (p := digS.cps.toList) (show b + 1 ≤ cs.length by omega)).1
  refine ⟨?_, by omega⟩
  unfold digR
  rw [List.head?_take, if_neg (by omega), List.head?_drop]
  exact h
theorem asg_val {te : TE} {g : TG} {R : TS} {D : Ends} {σ : L2.St} {H : Hp} (v : V) (h : ∀ R' : VK, R' v H → te σ H R') (q : g v σ H fun σ2 H2 => R D σ2 H2) : tSeq (tAsg te g) R D σ H := h _ q
theorem str1_inj {u c : Nat} (h : V.str ⟨#[u]⟩ = V.str ⟨#[c]⟩) : u = c := by
  have z : (⟨#[u]⟩ : Str).cps = (⟨#[c]⟩ : Str).cps := by rw [V.str.inj h]
  simpa using z
theorem str_list {ds : List Nat} {c : Nat} : (V.str ⟨ds.toArray⟩ = V.str ⟨#[c]⟩) ↔ ds = [c] := by
  constructor
  · intro h
    have z : (⟨ds.toArray⟩ : Str).cps.toList = (⟨#[c]⟩ : Str).cps.toList := by rw [V.str.inj h]
    simpa using z
  · intro h
    rw [h]
def spNum (C : Addr) : Sp := fun vs H Q _ => ∃ (k : V) (z : Str) (a b u c : Nat) (g : Int), vs = [k, .str z, .int (a : Int), .int (b : Int), .int g] ∧ z.length ≤ sizeLine ∧ z.cps.toList[a]? = some u ∧ z.cps.toList[b]? = some c ∧ (48 ≤ c ∧ c ≤ 57) ∧ 0 ≤ g ∧ g ≤ 10 ^ 40 ∧
  ∀ H' x dx, Same H H' → H x = none → H' x = some (.ins C dx (if u = 45 then pcR (numR g (digR z.cps.toList b) && decide (0 < numV g (digR z.cps.toList b))) k (.int (-(numV g (digR z.cps.toList b)))) a (runE digS.cps.toList z.cps.toList b)
    else pcR (numR g (digR z.cps.toList b)) k (.int (numV g (digR z.cps.toList b))) a (runE digS.cps.toList z.cps.toList b))) → Q (.ref x) H'
abbrev NNum : List Str := ["kind", "text", "at", "begin", "greatest", "end", "digits", "number", "is_right"]
theorem scNum : FnScope NNum ["kind", "text", "at", "begin", "greatest"] (defScope sNum) := ⟨rfl, rfl, rfl, by decide +kernel, rfl, by decide +kernel, by decide +kernel⟩
section
variable {P : Program} {w : World} {K : PySem.W.Frag} {mg : Str → Option Value} {base : Heap}
theorem ok_num {C f fR fP : Addr} {fd fdR fdP : FuncData} {uD u31 : Value} (F : Fun K "_number_piece" "_number_piece" sNum f fd)
    (GR : FnOk P w K mg base CX0 1 fR fdR ["text", "at", "letters"] spRun) (mR : mg "_run_end" = some (.ref fR)) (kR : PySem.W.keepIn K (.ref fR) = true) (bR : Binds K fdR ["text", "at", "letters"] [])
    (GP : FnOk P w K mg base CX0 3 fP fdP ["kind", "told", "at", "end", "is_right"] (spPc C)) (mP : mg "_piece" = some (.ref fP)) (kP : PySem.W.keepIn K (.ref fP) = true) (bP : Binds K fdP ["kind", "told", "at", "end", "is_right"] [])
    (mD : mg "DIGITS" = some uD) (rD : RelV (.str digS) uD) (m31 : mg "MOST_DIGITS" = some u31) (r31 : RelV (.int 31) u31) (mLen : mg "len" = none) (mInt : mg "int" = none) :
    FnOk P w K mg base CX0 4 f fd ["kind", "text", "at", "begin", "greatest"] (spNum C) := by
  refine F.ok scNum (fun vs H Q E h => ?_) (fun cdv A outer s H vs Q E hr h => ?_)
  · obtain ⟨k, z, a, b, u, c, g, rfl, _⟩ := h
    rfl
  · obtain ⟨k, z, a, b, u, c, g, rfl, hz, hu, hc, hc9, g0, g1, q⟩ := h
    have hr1 : Room 1 _ := hr.mono (show 1 ≤ 3 by decide)
    have hl : z.cps.toList.length = z.length := by rw [Array.length_toList]; rfl
    have la := (List.getElem?_eq_some_iff.mp hu).1
    have lb := (List.getElem?_eq_some_iff.mp hc).1
    refine ⟨_, pss_cons (ps_set (i := 5) scNum.nd rfl (Or.inl rfl) (pe_call GR hr1 (by rfl) mR kR bR .nil pass0 (pa_cons (pv 1) (pa_cons (pv 3) (pa_cons (pe_glob (v := .str digS) (by rfl) mD rD) pa_nil)))))
      (pss_cons (ps_set (i := 6) scNum.nd rfl (Or.inl rfl) (pe_slice sl_str (pv 1) (po_some (pv 3)) (po_some (pv 5))))
      (pss_cons (ps_set (i := 7) scNum.nd rfl (Or.inl rfl) (pe_ifExp (pt_cmpR op_le (pe_callB call_len_str (by rfl) mLen PySem.boot_len (pa_cons (pv 6) pa_nil)) (pe_glob (v := .int 31) (by rfl) m31 r31) (by rfl)) (pe_callTy call_int_str (by rfl) mInt (by decide +kernel) (pa_cons (pv 6) pa_nil)) (pe_op op_add (pv 4) pe_int)))
      (pss_cons (ps_set (i := 8) scNum.nd rfl (Or.inl rfl) (pe_and (pe_cmpR op_le (pv 7) (pv 4) (by rfl)) (pe_one (pe_or (pe_cmpR op_eq (pv 6) pe_str (nomark _)) (pe_one (pe_cmpR op_ne (pe_ix ix_str (pv 6) pe_int (fun _ _ => rfl)) pe_str (nomark _)))))))
      (pss_cons (ps_if (pt_cmpR op_eq (pe_ix ix_str (pv 1) (pv 2) (fun _ _ => rfl)) pe_str (nomark _))
        (pss_one (ps_ret (pe_call GP hr (by rfl) mP kP bP .nil pass0 (pa_cons (pv 0) (pa_cons (pe_un un_neg (pv 7)) (pa_cons (pv 2) (pa_cons (pv 5) (pa_cons (pe_and (pv 8) (pe_one (pe_cmpR op_gt (pv 7) pe_int (nomark _)))) pa_nil)))))))) pss_nil)
      (pss_one (ps_ret (pe_call GP hr (by rfl) mP kP bP .nil pass0 (pa_cons (pv 0) (pa_cons (pv 7) (pa_cons (pv 2) (pa_cons (pv 5) (pa_cons (pv 8) pa_nil)))))))))))), ?_⟩
    obtain ⟨hhd, hbe⟩ := digR_head hc hc9
    have hle := runE_le (p := digS.cps.toList) (show b ≤ z.cps.toList.length by omega)
    refine ⟨_, rfl, _, rfl, z, digS, b, rfl, hz, by omega, ?_⟩
    refine ⟨_, rfl, _, rfl, _, rfl, _, rfl, _, rfl, z, rfl, hz, ?_⟩
    rw [cut_lo_hi z (by omega) (by omega)]
    have hall : AllDigits (digR z.cps.toList b) := digR_all
    have hdl : (digR z.cps.toList b).length ≤ z.length := by
      unfold digR
      rw [List.length_take, List.length_drop]
      omega
    change gName 6 (V.str ⟨(digR z.cps.toList b).toArray⟩) _ _ _
    generalize digR z.cps.toList b = ds at q hhd hall hdl ⊢
    generalize runE digS.cps.toList z.cps.toList b = e at q ⊢
    have hne : ds ≠ [] := fun z => by rw [z] at hhd; cases hhd
    have lT : (⟨ds.toArray⟩ : Str).length = ds.length := by show ds.toArray.size = _; simp
    have eT : (⟨ds.toArray⟩ : Str).cps.toList = ds := by simp
    dsimp only [gName]
    refine asg_val (.int (numV g ds)) (fun R' k => ?_) ?_
    · refine ⟨_, rfl, _, rfl, by rw [lT]; omega, _, _, rfl, rfl, _, rfl, ite2 (fun c => ?_) (fun c => ?_)⟩
      · have c : (((⟨ds.toArray⟩ : Str).length : Nat) : Int) ≤ 31 := of_decide_eq_true c
        rw [lT] at c
        have hn := intText_digits (x := ⟨ds.toArray⟩) (by rw [eT]; exact hall) (by rw [eT]; exact hne) (by rw [lT]; omega)
        rw [eT] at hn
        refine ⟨_, rfl, _, _, rfl, hn, by rw [lT]; omega, ?_⟩
        unfold numV at k
        rw [if_pos (by omega)] at k
        exact k
      · have c : ¬ (((⟨ds.toArray⟩ : Str).length : Nat) : Int) ≤ 31 := fun z => c (decide_eq_true z)
        rw [lT] at c
        refine ⟨_, rfl, _, _, rfl, rfl, ?_⟩
        unfold numV at k
        rw [if_neg (by omega)] at k
        exact k
    dsimp only [gName]
    refine asg_val (.bl (numR g ds)) (fun R' k => ?_) ?_
    · refine ⟨_, rfl, _, rfl, _, _, rfl, rfl, _, rfl, ?_⟩
      unfold numR at k
      refine ite2 (fun c => ?_) (fun c => ?_)
      · have c : numV g ds ≤ g := of_decide_eq_true c
        rw [decide_eq_true c, Bool.true_and] at k
        refine ⟨_, rfl, rfl, _, rfl, ite2 (fun c2 => ?_) (fun c2 => ?_)⟩
        · have e1 : ds = [48] := str_list.mp (of_decide_eq_true c2)
          rw [decide_eq_true e1, Bool.true_or] at k
          exact k
        · have e1 : ¬ ds = [48] := fun z => c2 (decide_eq_true (str_list.mpr z))
          rw [decide_eq_false e1, Bool.false_or] at k
          obtain ⟨d0, ds', rfl⟩ : ∃ d0 ds', ds = d0 :: ds' := by
            cases ds with
            | nil => exact absurd rfl hne
            | cons a b => exact ⟨a, b, rfl⟩
          refine ⟨_, rfl, _, 0, d0, rfl, rfl, by rw [lT]; omega, by rw [eT]; exact atI_nat (j := 0) rfl, rfl, ?_⟩
          have e2 : (!decide (V.str ⟨#[d0]⟩ = V.str ("0" : Str))) = decide ((d0 :: ds').head? ≠ some 48) := by
            by_cases hd : d0 = 48
            · subst hd
              rw [decide_eq_true (show V.str ⟨#[48]⟩ = V.str ("0" : Str) from rfl)]
              simp
            · rw [decide_eq_false (show ¬ V.str ⟨#[d0]⟩ = V.str ("0" : Str) from fun z => hd (str1_inj (c := 48) z))]
              simp [hd]
          show R' (.bl (!decide (V.str ⟨#[d0]⟩ = V.str ("0" : Str)))) H
          rw [e2]
          exact k
      · have c : ¬ numV g ds ≤ g := fun z => c (decide_eq_true z)
        rw [decide_eq_false c, Bool.false_and] at k
        exact k
    dsimp only [gName]
    refine ⟨_, rfl, _, rfl, z, _, u, rfl, rfl, hz, atI_nat hu, rfl, _, rfl, ite2 (fun c => ?_) (fun c => ?_)⟩
    · have eu : u = 45 := str1_inj (c := 45) (of_decide_eq_true c)
      rw [if_pos eu] at q
      refine ⟨_, rfl, _, rfl, _, rfl, _, rfl, _, rfl, _, rfl, _, rfl, ite2 (fun c2 => ⟨_, rfl, _, _, rfl, rfl, k, _, a, e, _, rfl, ?_⟩) (fun c2 => ⟨k, _, a, e, _, rfl, ?_⟩)⟩
      · rw [c2, Bool.true_and] at q
        exact q
      · rw [Bool.not_eq_true] at c2
        rw [c2, Bool.false_and] at q
        exact q
    · have eu : ¬ u = 45 := fun z => c (decide_eq_true (by rw [z]; rfl))
      rw [if_neg eu] at q
      exact ⟨_, rfl, _, rfl, _, rfl, _, rfl, _, rfl, k, _, a, e, _, rfl, q⟩
end
end Toy


namespace Toy
open PySem PySem.Spec L2 PyProof.Rows PySem.W
abbrev sStr : Stmt := top 27
/-- the signs of a string from i on, and where it ends -/
def strG (cs : List Nat) (i : Nat) (acc : List Nat) : Nat × List Nat :=
  if h : i < cs.length then
    if cs[i] = 34 then (i, acc)
    else if cs[i] = 92 then (if cs[i + 1]? = some 34 then strG cs (i + 2) (acc ++ [34]) else if cs[i + 1]? = some 92 then strG cs (i + 2) (acc ++ [92]) else (i + 1, acc))
    else strG cs (i + 1) (acc ++ [cs[i]])
  else (i, acc)
termination_by cs.length - i
theorem strG_end {cs : List Nat} {i : Nat} {acc : List Nat} (h : cs.length ≤ i) : strG cs i acc = (i, acc) := by
  rw [strG, dif_neg (by omega)]
theorem strG_quote {cs : List Nat} {i : Nat} {acc : List Nat} (h : cs[i]? = some 34) : strG cs i acc = (i, acc) := by
  obtain ⟨hi, e⟩ := List.getElem?_eq_some_iff.mp h
  rw [strG, dif_pos hi, if_pos e]
theorem strG_plain {cs : List Nat} {i c : Nat} {acc : List Nat} (h : cs[i]? = some c) (h1 : c ≠ 34) (h2 : c ≠ 92) : strG cs i acc = strG cs (i + 1) (acc ++ [c]) := by
  obtain ⟨hi, e⟩ := List.getElem?_eq_some_iff.mp h
  subst e
  conv => lhs; rw [strG, dif_pos hi, if_neg h1, if_neg h2]
theorem strG_esc {cs : List Nat} {i c : Nat} {acc : List Nat} (h : cs[i]? = some 92) (h1 : cs[i + 1]? = some c) (hc : c = 34 ∨ c = 92) : strG cs i acc = strG cs (i + 2) (acc ++ [c]) := by
  obtain ⟨hi, e⟩ := List.getElem?_eq_some_iff.mp h
  rcases hc with rfl | rfl
  · conv => lhs; rw [strG, dif_pos hi, if_neg (by omega), if_pos e, if_pos h1]
  · conv => lhs; rw [strG, dif_pos hi, if_neg (by omega), if_pos e, if_neg (by rw [h1]; decide), if_pos h1]
theorem strG_bad {cs : List Nat} {i : Nat} {acc : List Nat} (h : cs[i]? = some 92) (h1 : cs[i + 1]? ≠ some 34) (h2 : cs[i + 1]? ≠ some 92) : strG cs i acc = (i + 1, acc) := by
  obtain ⟨hi, e⟩ := List.getElem?_eq_some_iff.mp h
  rw [strG, dif_pos hi, if_neg (by omega), if_pos e, if_neg h1, if_neg h2]
def sg1 (o : Option Nat) : Str := match o with
  | some c => ⟨#[c]⟩
  | none => ⟨#[]⟩
theorem cut_1 (z : Str) (i : Nat) : cutS z (some (i : Int)) (some ((i : Int) + 1)) = sg1 z.cps.toList[i]? := by
  have hl : z.cps.toList.length = z.length := by rw [Array.length_toList]; rfl
  rw [show (i : Int) + 1 = ((i + 1 : Nat) : Int) by omega]
  unfold cutS
  rw [HT.sIx_nat, HT.sIx_nat]
  cases h : z.cps.toList[i]? with
  | none =>
    have h1 := List.getElem?_eq_none_iff.mp h
    rw [show min i z.length = z.length by omega, show min (i + 1) z.length - z.length = 0 by omega]
    simp [sg1]
  | some c =>
    obtain ⟨h1, e⟩ := List.getElem?_eq_some_iff.mp h
    rw [show min i z.length = i by omega, show min (i + 1) z.length - i = 1 by omega, List.drop_eq_getElem_cons h1, e]
    rfl
def sg (c : Nat) : Str := ⟨#[c]⟩
theorem joinL_one : ∀ acc : List Nat, TL.joinL [] (acc.map fun c => [c]) = acc
  | [] => rfl
  | [c] => rfl
  | c :: d :: acc => by
    have ih := joinL_one (d :: acc)
    show [c] ++ ([] ++ TL.joinL [] ((d :: acc).map fun c => [c])) = c :: d :: acc
    rw [ih]
    rfl
def told (acc : List Nat) : Str := Txt.join Str.empty (acc.map sg)
theorem told_eq (acc : List Nat) : told acc = ⟨acc.toArray⟩ := by
  have z := SX.join_S [] (acc.map fun c => [c])
  rw [List.map_map, joinL_one] at z
  exact z
def leafT (t : Str) : Bool := decide (t.length ≤ 200) && t.cps.toList.all fun c => decide (32 ≤ c ∧ c ≤ 126) && decide (c ≠ 37)
def spLfS : Sp := fun vs H Q _ => ∃ t : Str, vs = [.str t] ∧ t.length ≤ sizeLine ∧ ∀ H', Same H H' → Q (.bl (leafT t)) H'
def strR (cs : List Nat) (a : Nat) : Bool := decide (cs[(strG cs (a + 1) []).1]? = some 34) && leafT (told (strG cs (a + 1) []).2)
def spStr (C : Addr) : Sp := fun vs H Q _ => ∃ (z : Str) (a : Nat), vs = [.str z, .int (a : Int)] ∧ z.length ≤ sizeLine ∧ a < z.length ∧
  ∀ H' x dx, Same H H' → H x = none → H' x = some (.ins C dx (pcR (strR z.cps.toList a) (.str "leaf") (.str (told (strG z.cps.toList (a + 1) []).2)) a ((strG z.cps.toList (a + 1) []).1 + 1))) → Q (.ref x) H'
abbrev NStr : List Str := ["text", "at", "letters", "end", "told"]
theorem scStr : FnScope NStr ["text", "at"] (defScope sStr) := ⟨rfl, rfl, rfl, by decide +kernel, rfl, by decide +kernel, by decide +kernel⟩
theorem sg1_eq {o : Option Nat} {c : Nat} : (V.str (sg1 o) = V.str ⟨#[c]⟩) ↔ o = some c := by
  cases o with
  | none =>
    constructor
    · intro h
      have z : (sg1 none).cps = (⟨#[c]⟩ : Str).cps := by rw [V.str.inj h]
      simp [sg1] at z
    · intro h
      cases h
  | some u => exact ⟨fun h => by rw [str1_inj h], fun h => by rw [Option.some.inj h]; rfl⟩
theorem inV_strs (x : Str) : ∀ ks : List Str, inV (.str x) (ks.map V.str) = decide (x ∈ ks)
  | [] => by simp [inV]
  | k :: ks => by
    have ih := inV_strs x ks
    unfold inV at ih ⊢
    rw [List.map_cons, List.any_cons, ih]
    show ((k == x) || decide (x ∈ ks)) = _
    rw [Bool.eq_iff_iff, Bool.or_eq_true, beq_iff_eq, decide_eq_true_iff, decide_eq_true_iff, List.mem_cons]
    exact ⟨fun h => h.imp Eq.symm id, fun h => h.imp Eq.symm id⟩
theorem sg1_in (o : Option Nat) : inV (.str (sg1 o)) [V.str "\"", V.str "\\"] = decide (o = some 34 ∨ o = some 92) := by
  have z := inV_strs (sg1 o) ["\"", "\\"]
  rw [show ([V.str "\"", V.str "\\"] : List V) = (["\"", "\\"] : List Str).map V.str from rfl, z, Bool.eq_iff_iff, decide_eq_true_iff, decide_eq_true_iff]
  simp only [List.mem_cons, List.not_mem_nil, or_false]
  exact or_congr ⟨fun h => sg1_eq.mp (congrArg V.str h), fun h => V.str.inj (sg1_eq.mpr h)⟩ ⟨fun h => sg1_eq.mp (congrArg V.str h), fun h => V.str.inj (sg1_eq.mpr h)⟩
abbrev rJoin (K : PySem.W.Frag) : V → List V → Hp → VK → Prop := fun x xs H Q => ∃ a p, ∃ ys : List Str, x = .str a ∧ xs = [.ref p] ∧ (SqL K H p (ys.map V.str) ∨ SqT K H p (ys.map V.str)) ∧ (ys.map (·.length)).sum + ys.length * a.length ≤ 16777216 ∧ Q (.str (Txt.join a ys)) H
theorem sum_ones : ∀ acc : List Nat, ((acc.map sg).map (·.length)).sum = acc.length
  | [] => rfl
  | c :: acc => by
    have := sum_ones acc
    simp only [List.map_cons, List.sum_cons, List.length_cons] at this ⊢
    rw [this]
    show 1 + acc.length = _
    omega
theorem str_tail {K : PySem.W.Frag} {C L : Addr} {D : Ends} {z : Str} {a j : Nat} {acc : List Nat} {o : Option V} {H H' : Hp} (hz : z.length ≤ sizeLine) (s1 : Same H H') (hL : H' L = some (.lst (acc.map fun c => V.str (sg c)))) (hacc : acc.length ≤ z.length) (htl : (told acc).length ≤ sizeLine)
    (q : ∀ H2 x dx, Same H H2 → H x = none → H2 x = some (.ins C dx (pcR (decide (z.cps.toList[j]? = some 34) && leafT (told acc)) (.str "leaf") (.str (told acc)) a (j + 1))) → D.rt (.ref x) H2) :
    tSeq (tAsg (tM1 (rJoin K) (tC (V.str ("" : Str))) (tVar 2)) (gName 4)) (tRet (tCall (spPc C) [] E0 (tCons (tC (V.str ("leaf" : Str))) (tCons (tVar 4) (tCons (tVar 1) (tCons (tOp (rI0 fun i j => V.int (i + j)) (tVar 3) (tC (V.int 1)))
      (tCons (tAndV (tOp rEq (tSl rSlS (tVar 0) (tPart (tVar 3)) (tPart (tOp (rI0 fun i j => V.int (i + j)) (tVar 3) (tC (V.int 1))))) (tC (V.str ("\"" : Str)))) (tCall spLfS [] E0 (tCons (tVar 4) tNil))) tNil))))))) D [some (.str z), some (.int (a : Int)), some (.ref L), some (.int (j : Int)), o] H' := by
  have hys : ∃ ys : List Str, ys = acc.map sg ∧ ys.map V.str = acc.map fun c => V.str (sg c) := ⟨_, rfl, by rw [List.map_map]; rfl⟩
  obtain ⟨ys, ey, em⟩ := hys
  refine ⟨⟨_, rfl⟩, _, rfl, _, L, ys, rfl, rfl, .inl (SqL.of (by rw [em]; exact hL)), ?_, ?_⟩
  · rw [ey, sum_ones, List.length_map]
    have e0 : ("" : Str).length = 0 := rfl
    rw [e0]
    have : sizeLine = 16777216 := by decide
    omega
  rw [ey]
  have et : Txt.join ("" : Str) (acc.map sg) = told acc := rfl
  rw [et]
  refine ⟨_, rfl, _, rfl, _, rfl, _, _, rfl, rfl, _, rfl, _, rfl, _, rfl, _, rfl, _, _, rfl, rfl, _, rfl, z, rfl, hz, ?_⟩
  rw [cut_1]
  have ej : V.int ((j : Int) + 1) = V.int ((j + 1 : Nat) : Int) := by push_cast; rfl
  refine ⟨rfl, _, rfl, ite2 (fun c => ?_) (fun c => ?_)⟩
  · have e1 : z.cps.toList[j]? = some 34 := sg1_eq.mp (of_decide_eq_true c)
    rw [decide_eq_true e1, Bool.true_and] at q
    refine ⟨_, rfl, told acc, rfl, htl, fun H2 s2 => ⟨.str "leaf", .str (told acc), a, j + 1, leafT (told acc), by rw [← ej]; rfl, fun H3 x dx s3 nx hx => ?_⟩⟩
    refine q H3 x dx ((s1.trans s2).trans s3) ?_ hx
    cases e : H x with
    | none => rfl
    | some u => rw [s2 _ _ (s1 _ _ e)] at nx; cases nx
  · have e1 : ¬ z.cps.toList[j]? = some 34 := fun h => c (decide_eq_true (sg1_eq.mpr h))
    rw [decide_eq_false e1, Bool.false_and] at q
    refine ⟨.str "leaf", .str (told acc), a, j + 1, false, by rw [← ej]; rfl, fun H3 x dx s3 nx hx => ?_⟩
    refine q H3 x dx (s1.trans s3) ?_ hx
    cases e : H x with
    | none => rfl
    | some u => rw [s1 _ _ e] at nx; cases nx
section
variable {P : Program} {w : World} {K : PySem.W.Frag} {mg : Str → Option Value} {base : Heap}
theorem ok_str {C f fL fP : Addr} {fd fdL fdP : FuncData} (F : Fun K "_string_piece" "_string_piece" sStr f fd)
    (GL : FnOk P w K mg base CX0 2 fL fdL ["value"] spLfS) (mL : mg "is_leaf" = some (.ref fL)) (kL : PySem.W.keepIn K (.ref fL) = true) (bL : Binds K fdL ["value"] [])
    (GP : FnOk P w K mg base CX0 3 fP fdP ["kind", "told", "at", "end", "is_right"] (spPc C)) (mP : mg "_piece" = some (.ref fP)) (kP : PySem.W.keepIn K (.ref fP) = true) (bP : Binds K fdP ["kind", "told", "at", "end", "is_right"] [])
    (mLen : mg "len" = none) : FnOk P w K mg base CX0 4 f fd ["text", "at"] (spStr C) := by
  refine F.ok scStr (fun vs H Q E h => ?_) (fun cdv A outer s H vs Q E hr h => ?_)
  · obtain ⟨z, a, rfl, _⟩ := h
    rfl
  · obtain ⟨z, a, rfl, hz, la, q⟩ := h
    have hr2 : Room 2 _ := hr.mono (show 2 ≤ 3 by decide)
    have hl : z.cps.toList.length = z.length := by rw [Array.length_toList]; rfl
    refine ⟨_, pss_cons (ps_set (i := 2) scStr.nd rfl (Or.inl rfl) (pe_lst pa_nil))
      (pss_cons (ps_set (i := 3) scStr.nd rfl (Or.inl rfl) (pe_op op_add (pv 1) pe_int))
      (pss_cons (ps_while PassesOwn.never (PW.pt (pw_and (pt_cmpR op_lt (pv 3) (pe_callB call_len_str (by rfl) mLen PySem.boot_len (pa_cons (pv 0) pa_nil)) (nomark _)) (pw_and1 (pt_cmpR op_ne (pe_ix ix_str (pv 0) (pv 3) (fun _ _ => rfl)) pe_str (nomark _)))))
        (pss_cons (ps_if (pt_cmpR op_eq (pe_ix ix_str (pv 0) (pv 3) (fun _ _ => rfl)) pe_str (nomark _))
          (pss_cons (ps_aug (i := 3) scStr.nd rfl (Or.inl rfl) pe_int ip_add)
          (pss_one (ps_if (pt_cmpR op_notIn_seq (pe_slice sl_str (pv 0) (po_some (pv 3)) (po_some (pe_op op_add (pv 3) pe_int))) (pe_tup (pa_cons pe_str (pa_cons pe_str pa_nil))) (by rfl)) (pss_one ps_break) pss_nil))) pss_nil)
        (pss_cons (ps_expr (pe_bm PySem.F.plainAttrs_list PySem.F.slot_list_append PySem.F.type_list_append mt_append (pv 2) (pa_cons (pe_ix ix_str (pv 0) (pv 3) (fun _ _ => rfl)) pa_nil)))
        (pss_one (ps_aug (i := 3) scStr.nd rfl (Or.inl rfl) pe_int ip_add)))))
      (pss_cons (ps_set (i := 4) scStr.nd rfl (Or.inl rfl) (pe_join pe_str (pv 2)))
      (pss_one (ps_ret (pe_call GP hr (by rfl) mP kP bP .nil pass0 (pa_cons pe_str (pa_cons (pv 4) (pa_cons (pv 1) (pa_cons (pe_op op_add (pv 3) pe_int) (pa_cons (pe_and (pe_cmpR op_eq (pe_slice sl_str (pv 0) (po_some (pv 3)) (po_some (pe_op op_add (pv 3) pe_int))) pe_str (nomark _))
        (pe_one (pe_call GL hr2 (by rfl) mL kL bL .nil pass0 (pa_cons (pv 4) pa_nil)))) pa_nil))))))))))), ?_⟩
    refine ⟨few (by show 0 ≤ 1000; decide), fun L nL => ⟨_, rfl, _, _, rfl, rfl, ?_⟩⟩
    generalize hfin : strG z.cps.toList (a + 1) [] = G at q
    have hfin' : strR z.cps.toList a = (decide (z.cps.toList[G.1]? = some 34) && leafT (told G.2)) := by unfold strR; rw [hfin]
    refine ⟨fun m σ H' => ∃ (j : Nat) (acc : List Nat) (o : Option V), σ = [some (.str z), some (.int (a : Int)), some (.ref L), some (.int (j : Int)), o] ∧ Same H H' ∧ H' L = some (.lst (acc.map fun c => V.str (sg c))) ∧ j ≤ z.length ∧ acc.length ≤ j ∧ strG z.cps.toList j acc = G ∧ m = z.length - j, ⟨_, a + 1, [], none, ?_, same_new same_id nL, upd_same, by omega, Nat.zero_le _, hfin, rfl⟩, ?_⟩
    · show [some (V.str z), some (V.int (a : Int)), some (V.ref L), some (V.int ((a : Int) + 1)), none] = _
      push_cast
      rfl
    rintro m σ H' ⟨j, acc, o, rfl, s1, hL, hj, hacc, hG, rfl⟩
    have fin : ∀ (j' : Nat) (H2 : Hp), Same H H2 → H2 L = some (.lst (acc.map fun c => V.str (sg c))) → G = (j', acc) → ∀ (H3 : Hp) (x dx : Addr), Same H H3 → H x = none → H3 x = some (.ins C dx (pcR (decide (z.cps.toList[j']? = some 34) && leafT (told acc)) (.str "leaf") (.str (told acc)) a (j' + 1))) → Q (.ref x) H3 := by
      intro j' H2 s2 hL2 e H3 x dx s3 nx hx
      refine q H3 x dx s3 nx ?_
      rw [hx, hfin', e]
    have hac : acc.length ≤ z.length := by omega
    have htl : (told acc).length ≤ sizeLine := by
      rw [told_eq]
      show acc.toArray.size ≤ sizeLine
      rw [List.size_toArray]
      omega
    refine ⟨_, rfl, _, rfl, _, rfl, hz, _, _, rfl, rfl, _, rfl, ite2 (fun c => ?_) (fun c => ?_)⟩
    · have c : (j : Int) < (z.length : Int) := of_decide_eq_true c
      have lj : j < z.cps.toList.length := by omega
      have ej2 : z.cps.toList[j]? = some z.cps.toList[j] := List.getElem?_eq_getElem lj
      generalize z.cps.toList[j] = u at ej2
      refine ⟨_, rfl, _, rfl, z, _, u, rfl, rfl, hz, atI_nat ej2, rfl, _, rfl, ite2 (fun c2 => ?_) (fun c2 => ?_)⟩
      · have nq : u ≠ 34 := fun z => by
          rw [z] at c2
          have e : (!decide (V.str ⟨#[34]⟩ = V.str ("\"" : Str))) = false := by rw [decide_eq_true (show V.str ⟨#[34]⟩ = V.str ("\"" : Str) from rfl)]; rfl
          rw [show (!decide (V.str ⟨#[34]⟩ = V.str ("\"" : Str))) = true from c2] at e
          cases e
        refine ⟨fun σ' H2 => ∃ (j' : Nat) (acc' : List Nat) (o' : Option V), σ' = [some (.str z), some (.int (a : Int)), some (.ref L), some (.int (j' : Int)), o'] ∧ Same H H2 ∧ H2 L = some (.lst (acc'.map fun c => V.str (sg c))) ∧ j < j' ∧ j' ≤ z.length ∧ acc'.length ≤ j' ∧ strG z.cps.toList j' acc' = G, fun σ' H2 w => ?_, ?_⟩
        · obtain ⟨j', acc', o', rfl, s2, hL2, l1, l2, l3, e⟩ := w
          exact ⟨z.length - j', by omega, j', acc', o', rfl, s2, hL2, l2, l3, e, rfl⟩
        refine ⟨_, rfl, _, rfl, z, _, u, rfl, rfl, hz, atI_nat ej2, rfl, _, rfl, ite2 (fun c3 => ?_) (fun c3 => ?_)⟩
        · have eu : u = 92 := str1_inj (c := 92) (of_decide_eq_true c3)
          subst eu
          refine ⟨_, rfl, _, _, rfl, rfl, ?_⟩
          have ej : V.int ((j : Int) + 1) = V.int ((j + 1 : Nat) : Int) := by push_cast; rfl
          dsimp only
          rw [ej]
          refine ⟨_, rfl, _, rfl, _, rfl, _, rfl, _, _, rfl, rfl, _, rfl, z, rfl, hz, few (by show 2 ≤ 1000; decide), fun T nT => ?_⟩
          rw [cut_1]
          refine ⟨T, _, rfl, .inr (SqT.of upd_same), rfl, by decide +kernel, _, rfl, ?_⟩
          have s2 : Same H' (upd H' T (.tup [.str "\"", .str "\\"])) := same_new same_id nT
          generalize upd H' T (.tup [.str "\"", .str "\\"]) = H4 at s2 ⊢
          show (if (!inV (.str (sg1 z.cps.toList[j + 1]?)) [V.str "\"", V.str "\\"]) = true then _ else _)
          rw [sg1_in]
          by_cases hm : z.cps.toList[j + 1]? = some 34 ∨ z.cps.toList[j + 1]? = some 92
          · rw [decide_eq_true hm]
            obtain ⟨c, ec, hc⟩ : ∃ c, z.cps.toList[j + 1]? = some c ∧ (c = 34 ∨ c = 92) := by
              rcases hm with h | h
              · exact ⟨_, h, .inl rfl⟩
              · exact ⟨_, h, .inr rfl⟩
            have lc := (List.getElem?_eq_some_iff.mp ec).1
            refine iteF ⟨_, rfl, .inl ⟨rfl, _, SqL.of (s2 _ _ hL)⟩, _, rfl, _, rfl, z, _, c, rfl, rfl, hz, atI_nat ec, L, _, _, rfl, rfl, s2 _ _ hL, by rw [List.length_map]; omega, ?_⟩
            refine ⟨_, rfl, _, _, rfl, rfl, j + 2, acc ++ [c], o, ?_, same_put (s1.trans s2) nL, by rw [upd_same, List.map_append]; rfl, by omega, by omega, by rw [List.length_append, List.length_singleton]; omega, by rw [← strG_esc ej2 ec hc]; exact hG⟩
            show [some (V.str z), some (V.int (a : Int)), some (V.ref L), some (V.int (((j + 1 : Nat) : Int) + 1)), o] = _
            rw [show (((j + 1 : Nat) : Int) + 1) = ((j + 2 : Nat) : Int) by omega]
          · rw [decide_eq_false hm]
            have e := hG
            rw [strG_bad ej2 (fun z => hm (.inl z)) (fun z => hm (.inr z))] at e
            refine iteT ?_
            exact str_tail hz (s1.trans s2) (s2 _ _ hL) hac htl fun H3 x dx s3 nx hx => fin (j + 1) H4 (s1.trans s2) (s2 _ _ hL) e.symm H3 x dx s3 nx hx
        · have nb : u ≠ 92 := fun z => c3 (decide_eq_true (by rw [z]; rfl))
          refine ⟨_, rfl, .inl ⟨rfl, _, SqL.of hL⟩, _, rfl, _, rfl, z, _, u, rfl, rfl, hz, atI_nat ej2, L, _, _, rfl, rfl, hL, by rw [List.length_map]; omega, ?_⟩
          refine ⟨_, rfl, _, _, rfl, rfl, j + 1, acc ++ [u], o, ?_, same_put s1 nL, by rw [upd_same, List.map_append]; rfl, by omega, by omega, by rw [List.length_append, List.length_singleton]; omega, by rw [← strG_plain ej2 nq nb]; exact hG⟩
          show [some (V.str z), some (V.int (a : Int)), some (V.ref L), some (V.int ((j : Int) + 1)), o] = _
          push_cast
          rfl
      · have eu : u = 34 := by
          rw [Bool.not_eq_true, Bool.not_eq_false'] at c2
          exact str1_inj (c := 34) (of_decide_eq_true c2)
        subst eu
        have e := hG
        rw [strG_quote ej2] at e
        exact str_tail hz s1 hL hac htl fun H3 x dx s3 nx hx => fin j H' s1 hL e.symm H3 x dx s3 nx hx
    · have c : ¬ (j : Int) < (z.length : Int) := fun h => c (decide_eq_true h)
      have e := hG
      rw [strG_end (by omega)] at e
      exact iteF (str_tail hz s1 hL hac htl fun H3 x dx s3 nx hx => fin j H' s1 hL e.symm H3 x dx s3 nx hx)
end
end Toy


namespace Toy
open PySem PySem.Spec L2 PyProof.Rows PySem.W
/-! ### is_leaf of a text -/
abbrev sLf : Stmt := top 10
abbrev sTx : Stmt := top 11
theorem nx_run {D : Ends} {σ : L2.St} {H : Hp} (h : D.nx σ H) : tNext D σ H := h
theorem asg_run {te : TE} {g : TG} {rest : TS} {D : Ends} {σ : L2.St} {H : Hp} (h : te σ H fun x H1 => g x σ H1 fun σ2 H2 => rest D σ2 H2) : tSeq (tAsg te g) rest D σ H := h
theorem ret_run {te : TE} {D : Ends} {σ : L2.St} {H : Hp} (h : te σ H D.rt) : tRet te D σ H := h
section
variable {J : It} {n : Nat} {G : Hp → Prop} {Y : Nat → Hp → V → Hp → Prop} {g : TG} {tt : TT} {te : TE} {vs : List Nat} {σ : L2.St} {H1 : Hp} {D : Addr} {Qd : Hp → Prop}
theorem lc_map (w : Walk J n G Y) (f : Nat → V) (hn : n < sizeLine) (nD : H1 D = none) (hG : ∀ H, Same H1 H → G H) (hY : ∀ i H x H', Y i H x H' → H' = H)
    (hs : ∀ i x H (P1 : V → Hp → Prop), i < n → Same H1 H → Y i H x H → (∀ H2, Same H H2 → P1 (f i) H2) → g x (wipe σ vs) H fun σ2 H2 => wipe σ2 vs = wipe σ vs ∧ te σ2 H2 P1)
    (hd : ∀ H, Same H1 H → H D = some (.lst ((List.range n).map f)) → Qd H) :
    ∃ W : Nat → Nat → Hp → Prop, (∃ m, W 0 m (upd H1 D (.lst []))) ∧ ∀ i m H, W i m H →
      (J.stop i H ∧ Qd H) ∨ (J.go i H ∧ ∃ Nx : Hp → Prop, (∀ H', Nx H' → ∃ m', m' < m ∧ W (i + 1) m' H') ∧ ∀ x H', J.yld i H x H' → g x (wipe σ vs) H' fun σ2 H2 => wipe σ2 vs = wipe σ vs ∧ tYes σ2 H2 fun b H3 =>
        if b = true then te σ2 H3 fun y H4 => ∃ acc, H4 D = some (.lst acc) ∧ acc.length < sizeLine ∧ Nx (upd H4 D (.lst (acc ++ [y]))) else Nx H3) := by
  refine lc_it w (fun i H => Same H1 H ∧ H D = some (.lst ((List.range i).map f))) ⟨same_new same_id nD, upd_same⟩ (fun i H _ p => hG H p.1) ?_ ?_
  · rintro i x H H' hi ⟨s1, hD⟩ y
    have e := hY _ _ _ _ y
    subst e
    refine hs i x H' _ hi s1 y fun H2 s2 => ⟨_, s2 _ _ hD, by rw [List.length_map, List.length_range]; omega, same_put (s1.trans s2) nD, ?_⟩
    rw [upd_same, List.range_succ, List.map_append]
    rfl
  · rintro H ⟨s1, hD⟩
    exact hd H s1 hD
end
theorem yAt_same {xs : List V} : ∀ i H x H', YAt xs i H x H' → H' = H := fun _ _ _ _ y => y.1
theorem all_range {α : Type} (xs : List α) (p : α → Bool) (f : Nat → Bool) (h : ∀ i (hi : i < xs.length), f i = p xs[i]) : (List.range xs.length).all f = xs.all p := by
  rw [Bool.eq_iff_iff, List.all_eq_true, List.all_eq_true]
  constructor
  · intro z x hx
    obtain ⟨i, hi, rfl⟩ := List.getElem_of_mem hx
    rw [← h i hi]
    exact z i (List.mem_range.mpr hi)
  · intro z i hi
    rw [List.mem_range] at hi
    rw [h i hi]
    exact z _ (List.getElem_mem hi)
/-- the i-th sign -/
def sgA (x : Str) (i : Nat) : Nat := x.cps.toList.getD i 0
theorem sgA_of {x : Str} {i c : Nat} (h : x.cps[i]? = some c) : sgA x i = c := by
  unfold sgA
  rw [List.getD_eq_getElem?_getD, Array.getElem?_toList, h]
  rfl
theorem all_sgA (x : Str) (p : Nat → Bool) : ((List.range x.cps.size).all fun i => p (sgA x i)) = x.cps.toList.all p := by
  have e : x.cps.size = x.cps.toList.length := by simp
  rw [e]
  refine all_range _ p _ fun i hi => ?_
  unfold sgA
  rw [List.getD_eq_getElem?_getD, List.getElem?_eq_getElem hi]
  rfl
theorem all_map_id {l : List Nat} {f : Nat → Bool} : (l.map f).all id = l.all f := by
  rw [List.all_map]
  rfl
def okSg (c : Nat) : Bool := decide (32 ≤ c ∧ c ≤ 126) && decide (c ≠ 37)
theorem leafT_eq (t : Str) : leafT t = (decide (t.length ≤ 200) && t.cps.toList.all okSg) := rfl
def spTx : Sp := fun vs H Q _ => ∃ t : Str, vs = [.str t] ∧ t.length ≤ sizeLine ∧ ∀ H', Same H H' → Q (.bl (leafT t)) H'
abbrev NTx : List Str := ["text", "codes", "letter", "code"]
theorem scLf : FnScope ["value"] ["value"] (defScope sLf) := ⟨rfl, rfl, rfl, by decide +kernel, rfl, by decide +kernel, by decide +kernel⟩
theorem scTx : FnScope NTx ["text"] (defScope sTx) := ⟨rfl, rfl, rfl, by decide +kernel, rfl, by decide +kernel, by decide +kernel⟩
section
variable {P : Program} {w : World} {K : PySem.W.Frag} {mg : Str → Option Value} {base : Heap}
theorem ok_txt {f : Addr} {fd : FuncData} {u2 u3 : Value} (F : Fun K "_is_text" "_is_text" sTx f fd) (m2 : mg "MOST_LETTERS_data" = some u2) (r2 : RelV (.int 200) u2) (m3 : mg "PERCENT_SIGN" = some u3) (r3 : RelV (.int 37) u3) (mLen : mg "len" = none) (mO : mg "ord" = none) (mA : mg "all" = none) : FnOk P w K mg base CX0 1 f fd ["text"] spTx := by
  refine F.ok scTx (fun vs H Q E h => ?_) (fun cdv A outer s H vs Q E hr h => ?_)
  · obtain ⟨x, rfl, _⟩ := h
    rfl
  · obtain ⟨x, rfl, hx, q⟩ := h
    refine ⟨_, pss_cons (ps_if (pt_cmpR op_gt (pe_callB call_len_str (by rfl) mLen PySem.boot_len (pa_cons (pv 0) pa_nil)) (pe_glob (v := .int 200) (by rfl) m2 r2) (nomark _)) (pss_one (ps_ret pe_bl)) pss_nil)
      (pss_cons (ps_setLc (i := 1) (own := [("letter", 2)]) (g := gName 2) (by rfl) scTx.nd rfl rfl (sw_true rfl rfl rfl (by decide +kernel)) (pi_str (pv 0))
            (blkOk_by (own := [("letter", 2)]) (N := NTx) (sc := defScope sTx) (by decide +kernel)) (fun _ _ _ _ _ => pg_name (i := 2) scTx.nd rfl (Or.inl rfl)) (fun _ _ _ _ _ => pts_nil)
            (fun _ _ _ _ _ => pe_callB call_ord (by rfl) mO (by decide +kernel) (pa_cons (pv 2) pa_nil)))
      (pss_one (ps_ret (pe_callB (cr_all rfl) (by rfl) mA (by decide +kernel) (pa_cons (pe_lc (own := [("code", 3)]) (g := gName 3) (by rfl) scTx.nd (pi_list (pv 1))
            (blkOk_by (own := [("code", 3)]) (N := NTx) (sc := defScope sTx) (by decide +kernel)) (fun _ _ _ _ _ => pg_name (i := 3) scTx.nd rfl (Or.inl rfl)) (fun _ _ _ _ _ => pts_nil)
            (fun _ _ _ _ _ => pe_and (pe_chain op_le op_le pe_int (pv 3) pe_int) (pe_one (pe_cmpR op_ne (pv 3) (pe_glob (v := .int 37) (by rfl) m3 r3) (nomark _))))) pa_nil))))), ?_⟩
    have e2 : decide ((200 : Int) < (x.length : Int)) = !decide (x.length ≤ 200) := by
      rw [Bool.eq_iff_iff]
      simp
      omega
    rw [leafT_eq] at q
    refine ⟨_, rfl, x, rfl, hx, _, _, rfl, rfl, _, rfl, ?_⟩
    refine ite2 (fun c => ?_) (fun c => ?_)
    · have c := e2.symm.trans c
      have c : decide (x.length ≤ 200) = false := by simpa using c
      rw [c, Bool.false_and] at q
      exact q H same_id
    · have c : decide (x.length ≤ 200) = true := by
        have : ¬ (!decide (x.length ≤ 200)) = true := fun z => c (e2.trans z)
        simpa using this
      rw [c, Bool.true_and] at q
      have h2' : x.cps.size ≤ 200 := of_decide_eq_true c
      have h3 : x.cps.size < sizeLine := Nat.lt_of_le_of_lt h2' (by decide)
      refine ⟨_, rfl, x, rfl, fun D nD => ?_⟩
      refine lc_map walk_str (fun i => V.int (sgA x i : Nat)) h3 nD (fun _ _ => trivial) (fun _ _ _ _ y => y.1) ?_ ?_
      · rintro i y H2 P1 hi s2 ⟨_, c3, hc, rfl⟩ h1
        have e := sgA_of hc
        rw [e] at h1
        exact ⟨rfl, _, rfl, _, rfl, rfl, h1 _ same_id⟩
      · intro H1 s1 hD
        refine ⟨_, rfl, D, rfl, ⟨_, SqL.of hD⟩, fun L nL => ?_⟩
        refine lc_map (walk_list (K := K) (a := D) (xs := (List.range x.cps.size).map fun i => V.int (sgA x i : Nat))) (fun i => V.bl (okSg (sgA x i))) (by rw [List.length_map, List.length_range]; exact h3) nL (fun H' s' => SqL.of (s' _ _ hD)) yAt_same ?_ ?_
        · rintro i y H2 P1 hi s2 ⟨_, hy⟩ h1
          rw [List.length_map, List.length_range] at hi
          rw [List.getElem?_map, List.getElem?_range hi] at hy
          cases hy
          have ea : decide ((32 : Int) ≤ (sgA x i : Nat)) = decide (32 ≤ sgA x i) := decide_eq_decide.mpr (by omega)
          have eb : decide (((sgA x i : Nat) : Int) ≤ 126) = decide (sgA x i ≤ 126) := decide_eq_decide.mpr (by omega)
          have ec : (!decide (V.int ((sgA x i : Nat) : Int) = V.int 37)) = decide (sgA x i ≠ 37) := by
            rw [Bool.eq_iff_iff, Bool.not_eq_true', decide_eq_false_iff_not, decide_eq_true_iff]
            exact not_congr ⟨fun z => by have := V.int.inj z; omega, fun z => by rw [z]; rfl⟩
          have eo : okSg (sgA x i) = (decide (32 ≤ sgA x i) && (decide (sgA x i ≤ 126) && decide (sgA x i ≠ 37))) := by
            unfold okSg
            rw [Bool.eq_iff_iff]
            simp only [Bool.and_eq_true, decide_eq_true_iff]
            exact and_assoc
          rw [eo] at h1
          refine ⟨rfl, _, rfl, _, _, rfl, rfl, _, rfl, ?_⟩
          refine ite2 (fun c4 => ?_) (fun c4 => ?_)
          · rw [ea.symm.trans c4, Bool.true_and] at h1
            refine ⟨_, _, rfl, rfl, _, rfl, ?_⟩
            refine ite2 (fun c5 => ?_) (fun c5 => ?_)
            · rw [eb.symm.trans c5, Bool.true_and] at h1
              refine ⟨_, rfl, rfl, ?_⟩
              show P1 (.bl (!decide (V.int ((sgA x i : Nat) : Int) = V.int 37))) _
              rw [ec]
              exact h1 _ same_id
            · have c5 : decide (sgA x i ≤ 126) = false := by rw [← eb]; simpa using c5
              rw [c5, Bool.false_and] at h1
              exact h1 _ same_id
          · have c4 : decide (32 ≤ sgA x i) = false := by rw [← ea]; simpa using c4
            rw [c4, Bool.false_and] at h1
            exact ⟨_, rfl, iteF (h1 _ same_id)⟩
        · intro H2 s2 hL
          rw [List.length_map, List.length_range] at hL
          refine ⟨L, (List.range x.cps.size).map fun i => okSg (sgA x i), rfl, SqL.of (by rw [hL, List.map_map]; rfl), ?_⟩
          rw [all_map_id, all_sgA x okSg]
          exact q _ (s1.trans s2)
theorem ok_lf {f fT : Addr} {fd fdT : FuncData} {u1 : Value} (F : Fun K "is_leaf" "is_leaf" sLf f fd) (GT : FnOk P w K mg base CX0 1 fT fdT ["text"] spTx) (mT : mg "_is_text" = some (.ref fT)) (kT : PySem.W.keepIn K (.ref fT) = true) (bT : Binds K fdT ["text"] [])
    (m1 : mg "GREATEST" = some u1) (r1 : RelV (.int (10 ^ 30)) u1) (mI : mg "isinstance" = none) (mB : mg "bool" = none) (mN : mg "int" = none) (mS : mg "str" = none) : FnOk P w K mg base CX0 2 f fd ["value"] spLfS := by
  refine F.ok scLf (fun vs H Q E h => ?_) (fun cdv A outer s H vs Q E hr h => ?_)
  · obtain ⟨t, rfl, _⟩ := h
    rfl
  · obtain ⟨t, rfl, ht, q⟩ := h
    refine ⟨_, pss_cons (ps_if (PW.pt (pw_or (pt_cmpR op_isN (pv 0) pe_non (nomark _)) (pw_or1 (pt_val (pe_callB call_isi (by rfl) mI PyProof.Rows.boot_isinstance (pa_cons (pv 0) (pa_cons (pe_bltn (v := .ty "bool") (by rfl) mB (by decide +kernel) rfl) pa_nil))))))) (pss_one (ps_ret pe_bl)) pss_nil)
      (pss_cons (ps_if (pt_val (pe_callB call_isi (by rfl) mI PyProof.Rows.boot_isinstance (pa_cons (pv 0) (pa_cons (pe_bltn (v := .ty "int") (by rfl) mN (by decide +kernel) rfl) pa_nil)))) (pss_one (ps_ret (pe_chain op_le op_le (pe_un un_neg (pe_glob (v := .int (10 ^ 30)) (by rfl) m1 r1)) (pv 0) (pe_glob (v := .int (10 ^ 30)) (by rfl) m1 r1)))) pss_nil)
      (pss_one (ps_ret (pe_and (pe_callB call_isi (by rfl) mI PyProof.Rows.boot_isinstance (pa_cons (pv 0) (pa_cons (pe_bltn (v := .ty "str") (by rfl) mS (by decide +kernel) rfl) pa_nil))) (pe_one (pe_call GT hr (by rfl) mT kT bT .nil pass0 (pa_cons (pv 0) pa_nil))))))), ?_⟩
    have ty : TyX K H (V.str t) (.type "str") := .base (.str t)
    refine ⟨_, rfl, rfl, _, rfl, iteF ⟨_, rfl, _, _, _, _, false, rfl, .ty _, ty, kit_ty (by decide +kernel), _, rfl, iteF ⟨_, rfl, _, _, _, _, false, rfl, .ty _, ty, kit_ty (by decide +kernel), _, rfl, iteF ⟨_, rfl, _, _, _, _, true, rfl, .ty _, ty, kit_ty (by decide +kernel), _, rfl, iteT ⟨_, rfl, t, rfl, ht, q⟩⟩⟩⟩⟩
end
end Toy


namespace Toy
open PySem PySem.Spec L2 PyProof.Rows PySem.W
/-! ### the piece at a place -/
abbrev sAt : Stmt := top 23
abbrev letS : Str := "abcdefghijklmnopqrstuvwxyz"
abbrev mrkS : Str := "()[]{}|,:;+-*=<."
def low (c : Nat) : Bool := decide (97 ≤ c ∧ c ≤ 122)
def dig (c : Nat) : Bool := decide (48 ≤ c ∧ c ≤ 57)
def mrk (c : Nat) : Bool := decide (c ∈ mrkS.cps.toList)
theorem letS_in (c : Nat) : c ∈ letS.cps.toList ↔ (97 ≤ c ∧ c ≤ 122) := by
  have e : letS.cps.toList = (List.range 26).map (97 + ·) := by decide +kernel
  rw [e, List.mem_map]
  constructor
  · rintro ⟨k, hk, rfl⟩
    rw [List.mem_range] at hk
    omega
  · intro h
    exact ⟨c - 97, by rw [List.mem_range]; omega, by omega⟩
theorem low_mem (c : Nat) : decide (c ∈ letS.cps.toList) = low c := by
  unfold low
  rw [decide_eq_decide]
  exact letS_in c
theorem dig_mem (c : Nat) : decide (c ∈ digS.cps.toList) = dig c := by
  unfold dig
  rw [decide_eq_decide]
  exact digS_in c
/-- the signs from a up to b -/
def cutC (cs : List Nat) (a b : Nat) : Str := ⟨((cs.drop a).take (b - a)).toArray⟩
def fLow (f : Option Nat) : Bool := match f with
  | some c => low c
  | none => false
def fDig (f : Option Nat) : Bool := match f with
  | some c => dig c
  | none => false
/-- a piece: whether it is right, its kind, what it tells, its end -/
def wordA (cs : List Nat) (a : Nat) : Bool × Str × V × Nat :=
  let e := runE letS.cps.toList cs a
  (decide (e - a ≤ 8), "word", .str (cutC cs a e), e)
def nameA (cs : List Nat) (a u : Nat) : Bool × Str × V × Nat :=
  let e := runE letS.cps.toList cs (a + 1)
  (decide (e - a - 1 ≤ 8), if u = 46 then "field" else "name", .str (cutC cs (a + 1) e), e)
def itemA (cs : List Nat) (a : Nat) : Bool × Str × V × Nat :=
  (numR 99 (digR cs (a + 1)), "item", .int (numV 99 (digR cs (a + 1))), runE digS.cps.toList cs (a + 1))
def negA (cs : List Nat) (a : Nat) : Bool × Str × V × Nat :=
  (numR (10 ^ 30) (digR cs (a + 1)) && decide (0 < numV (10 ^ 30) (digR cs (a + 1))), "leaf", .int (-(numV (10 ^ 30) (digR cs (a + 1)))), runE digS.cps.toList cs (a + 1))
def posA (cs : List Nat) (a : Nat) : Bool × Str × V × Nat :=
  (numR (10 ^ 30) (digR cs a), "leaf", .int (numV (10 ^ 30) (digR cs a)), runE digS.cps.toList cs a)
def textA (cs : List Nat) (a : Nat) : Bool × Str × V × Nat :=
  (strR cs a, "leaf", .str (told (strG cs (a + 1) []).2), (strG cs (a + 1) []).1 + 1)
def markA (a u : Nat) : Bool × Str × V × Nat := (mrk u, "mark", .str (sg u), a + 1)
def pcA (cs : List Nat) (a u : Nat) (f : Option Nat) : Bool × Str × V × Nat :=
  if low u = true then wordA cs a
  else if (u = 46 ∨ u = 36) ∧ fLow f = true then nameA cs a u
  else if u = 46 ∧ fDig f = true then itemA cs a
  else if dig u = true then posA cs a
  else if u = 45 ∧ fDig f = true then negA cs a
  else if u = 34 then textA cs a
  else markA a u
def pcFs (p : Bool × Str × V × Nat) (a : Nat) : List (Str × V) := pcR p.1 (.str p.2.1) p.2.2.1 a p.2.2.2
def spAt (C : Addr) : Sp := fun vs H Q _ => ∃ (z : Str) (a u : Nat), vs = [.str z, .int (a : Int)] ∧ z.length ≤ sizeLine ∧ z.cps.toList[a]? = some u ∧
  ∀ H' x dx, Same H H' → H x = none → H' x = some (.ins C dx (pcFs (pcA z.cps.toList a u z.cps.toList[a + 1]?) a)) → Q (.ref x) H'
abbrev NAt : List Str := ["text", "at", "letter", "further", "end"]
theorem scAt : FnScope NAt ["text", "at"] (defScope sAt) := ⟨rfl, rfl, rfl, by decide +kernel, rfl, by decide +kernel, by decide +kernel⟩
theorem cut_2 (z : Str) (a : Nat) : cutS z (some ((a : Int) + 1)) (some ((a : Int) + 2)) = sg1 z.cps.toList[a + 1]? := by
  have h := cut_1 z (a + 1)
  have e1 : ((a + 1 : Nat) : Int) = (a : Int) + 1 := by omega
  rw [e1, show (a : Int) + 1 + 1 = (a : Int) + 2 by omega] at h
  exact h
theorem sg1_tru (o : Option Nat) : ((sg1 o).length != 0) = o.isSome := by cases o <;> rfl
theorem sg_eq {u c : Nat} : decide (V.str ⟨#[u]⟩ = V.str ⟨#[c]⟩) = decide (u = c) := decide_eq_decide.mpr ⟨str1_inj, fun h => by rw [h]⟩
theorem tand_val {t u : TT} {b c : Bool} {σ : L2.St} {H : Hp} {Q : Bool → Hp → Prop} (h1 : ∀ Q : Bool → Hp → Prop, Q b H → t σ H Q) (h2 : b = true → ∀ Q : Bool → Hp → Prop, Q c H → u σ H Q) (q : Q (b && c) H) : tAnd t u σ H Q := by
  refine h1 _ ?_
  cases b with
  | true => exact iteT (h2 rfl _ q)
  | false => exact iteF q
theorem tor_val {t u : TT} {b c : Bool} {σ : L2.St} {H : Hp} {Q : Bool → Hp → Prop} (h1 : ∀ Q : Bool → Hp → Prop, Q b H → t σ H Q) (h2 : b = false → ∀ Q : Bool → Hp → Prop, Q c H → u σ H Q) (q : Q (b || c) H) : tOr t u σ H Q := by
  refine h1 _ ?_
  cases b with
  | true => exact iteT q
  | false => exact iteF (h2 rfl _ q)
theorem ifs_val {c : TT} {a b rest : TS} {v : Bool} {D : Ends} {σ : L2.St} {H : Hp} (h : ∀ Q : Bool → Hp → Prop, Q v H → c σ H Q) (qt : v = true → tSeq a rest D σ H) (qf : v = false → tSeq b rest D σ H) : tSeq (tIfS c a b) rest D σ H := by
  refine h _ ?_
  cases v with
  | true => exact iteT (qt rfl)
  | false => exact iteF (qf rfl)
theorem nxt_run {rest : TS} {D : Ends} {σ : L2.St} {H : Hp} (h : rest D σ H) : tSeq tNext rest D σ H := h
section
variable {P : Program} {w : World} {K : PySem.W.Frag} {mg : Str → Option Value} {base : Heap}
theorem ok_at {C f fR fN fS fP : Addr} {fd fdR fdN fdS fdP : FuncData} {uL uD u8 u99 uG uM : Value} (F : Fun K "_piece_at" "_piece_at" sAt f fd)
    (GR : FnOk P w K mg base CX0 1 fR fdR ["text", "at", "letters"] spRun) (mR : mg "_run_end" = some (.ref fR)) (kR : PySem.W.keepIn K (.ref fR) = true) (bR : Binds K fdR ["text", "at", "letters"] [])
    (GN : FnOk P w K mg base CX0 4 fN fdN ["kind", "text", "at", "begin", "greatest"] (spNum C)) (mN : mg "_number_piece" = some (.ref fN)) (kN : PySem.W.keepIn K (.ref fN) = true) (bN : Binds K fdN ["kind", "text", "at", "begin", "greatest"] [])
    (GS : FnOk P w K mg base CX0 4 fS fdS ["text", "at"] (spStr C)) (mS : mg "_string_piece" = some (.ref fS)) (kS : PySem.W.keepIn K (.ref fS) = true) (bS : Binds K fdS ["text", "at"] [])
    (GP : FnOk P w K mg base CX0 3 fP fdP ["kind", "told", "at", "end", "is_right"] (spPc C)) (mP : mg "_piece" = some (.ref fP)) (kP : PySem.W.keepIn K (.ref fP) = true) (bP : Binds K fdP ["kind", "told", "at", "end", "is_right"] [])
    (mL : mg "LETTERS" = some uL) (rL : RelV (.str letS) uL) (mD : mg "DIGITS" = some uD) (rD : RelV (.str digS) uD) (m8 : mg "MOST_LETTERS_words" = some u8) (r8 : RelV (.int 8) u8) (m99 : mg "MOST_INDEX" = some u99) (r99 : RelV (.int 99) u99)
    (mG : mg "GREATEST" = some uG) (rG : RelV (.int (10 ^ 30)) uG) (mM : mg "MARKS" = some uM) (rM : RelV (.str mrkS) uM) : FnOk P w K mg base CX0 5 f fd ["text", "at"] (spAt C) := by
  refine F.ok scAt (fun vs H Q E h => ?_) (fun cdv A outer s H vs Q E hr h => ?_)
  · obtain ⟨z, a, u, rfl, _⟩ := h
    rfl
  · obtain ⟨z, a, u, rfl, hz, hu, q⟩ := h
    have hr1 := hr.mono (show 1 ≤ 4 by decide)
    have hr3 := hr.mono (show 3 ≤ 4 by decide)
    have hl : z.cps.toList.length = z.length := by rw [Array.length_toList]; rfl
    have la := (List.getElem?_eq_some_iff.mp hu).1
    refine ⟨_, pss_cons (ps_set (i := 2) scAt.nd rfl (Or.inl rfl) (pe_ix ix_str (pv 0) (pv 1) (fun _ _ => rfl)))
      (pss_cons (ps_set (i := 3) scAt.nd rfl (Or.inl rfl) (pe_slice sl_str (pv 0) (po_some (pe_op op_add (pv 1) pe_int)) (po_some (pe_op op_add (pv 1) pe_int))))
      (pss_cons (ps_if (pt_cmpR op_inS (pv 2) (pe_glob (v := .str letS) (by rfl) mL rL) (by rfl))
        (pss_cons (ps_set (i := 4) scAt.nd rfl (Or.inl rfl) (pe_call GR hr1 (by rfl) mR kR bR .nil pass0 (pa_cons (pv 0) (pa_cons (pv 1) (pa_cons (pe_glob (v := .str letS) (by rfl) mL rL) pa_nil)))))
        (pss_one (ps_ret (pe_call GP hr3 (by rfl) mP kP bP .nil pass0 (pa_cons pe_str (pa_cons (pe_slice sl_str (pv 0) (po_some (pv 1)) (po_some (pv 4))) (pa_cons (pv 1) (pa_cons (pv 4) (pa_cons (pe_cmpR op_le (pe_op op_sub (pv 4) (pv 1)) (pe_glob (v := .int 8) (by rfl) m8 r8) (by rfl)) pa_nil))))))))) pss_nil)
      (pss_cons (ps_if (PW.pt (pw_and (pt_cmpR op_inS (pv 2) pe_str (by rfl)) (pw_and (pt_truth (pv 3) (by intro _; rfl)) (pw_and1 (pt_cmpR op_inS (pv 3) (pe_glob (v := .str letS) (by rfl) mL rL) (by rfl))))))
        (pss_cons (ps_set (i := 4) scAt.nd rfl (Or.inl rfl) (pe_call GR hr1 (by rfl) mR kR bR .nil pass0 (pa_cons (pv 0) (pa_cons (pe_op op_add (pv 1) pe_int) (pa_cons (pe_glob (v := .str letS) (by rfl) mL rL) pa_nil)))))
        (pss_one (ps_ret (pe_call GP hr3 (by rfl) mP kP bP .nil pass0 (pa_cons (pe_ifExp (pt_cmpR op_eq (pv 2) pe_str (nomark _)) pe_str pe_str) (pa_cons (pe_slice sl_str (pv 0) (po_some (pe_op op_add (pv 1) pe_int)) (po_some (pv 4))) (pa_cons (pv 1) (pa_cons (pv 4) (pa_cons (pe_cmpR op_le (pe_op op_sub (pe_op op_sub (pv 4) (pv 1)) pe_int) (pe_glob (v := .int 8) (by rfl) m8 r8) (by rfl)) pa_nil))))))))) pss_nil)
      (pss_cons (ps_if (PW.pt (pw_and (pt_cmpR op_eq (pv 2) pe_str (nomark _)) (pw_and (pt_truth (pv 3) (by intro _; rfl)) (pw_and1 (pt_cmpR op_inS (pv 3) (pe_glob (v := .str digS) (by rfl) mD rD) (by rfl))))))
        (pss_one (ps_ret (pe_call GN hr (by rfl) mN kN bN .nil pass0 (pa_cons pe_str (pa_cons (pv 0) (pa_cons (pv 1) (pa_cons (pe_op op_add (pv 1) pe_int) (pa_cons (pe_glob (v := .int 99) (by rfl) m99 r99) pa_nil)))))))) pss_nil)
      (pss_cons (ps_if (PW.pt (pw_or (pt_cmpR op_inS (pv 2) (pe_glob (v := .str digS) (by rfl) mD rD) (by rfl)) (pw_or1 (PW.pt (pw_and (pt_cmpR op_eq (pv 2) pe_str (nomark _)) (pw_and (pt_truth (pv 3) (by intro _; rfl)) (pw_and1 (pt_cmpR op_inS (pv 3) (pe_glob (v := .str digS) (by rfl) mD rD) (by rfl)))))))))
        (pss_one (ps_ret (pe_call GN hr (by rfl) mN kN bN .nil pass0 (pa_cons pe_str (pa_cons (pv 0) (pa_cons (pv 1) (pa_cons (pe_ifExp (pt_cmpR op_eq (pv 2) pe_str (nomark _)) (pe_op op_add (pv 1) pe_int) (pv 1)) (pa_cons (pe_glob (v := .int (10 ^ 30)) (by rfl) mG rG) pa_nil)))))))) pss_nil)
      (pss_cons (ps_if (pt_cmpR op_eq (pv 2) pe_str (nomark _)) (pss_one (ps_ret (pe_call GS hr (by rfl) mS kS bS .nil pass0 (pa_cons (pv 0) (pa_cons (pv 1) pa_nil))))) pss_nil)
      (pss_one (ps_ret (pe_call GP hr3 (by rfl) mP kP bP .nil pass0 (pa_cons pe_str (pa_cons (pv 2) (pa_cons (pv 1) (pa_cons (pe_op op_add (pv 1) pe_int) (pa_cons (pe_cmpR op_inS (pv 2) (pe_glob (v := .str mrkS) (by rfl) mM rM) (by rfl)) pa_nil)))))))))))))), ?_⟩
    refine asg_run ⟨_, rfl, _, rfl, z, _, u, rfl, rfl, hz, atI_nat hu, asg_run ⟨_, rfl, _, rfl, _, _, rfl, rfl, _, rfl, _, rfl, _, _, rfl, rfl, _, rfl, z, rfl, hz, ?_⟩⟩
    rw [cut_2]
    have e14 : V.int ((a : Int) + 1) = V.int ((a + 1 : Nat) : Int) := by push_cast; rfl
    have tru : ∀ o : Option Nat, TruV K (V.str (sg1 o)) H o.isSome := fun o => by
      cases o with
      | none => exact ⟨Nat.zero_le _, rfl⟩
      | some c => exact ⟨by show 1 ≤ sizeLine; decide, rfl⟩
    generalize hf : z.cps.toList[a + 1]? = o at q ⊢
    have cut : ∀ b e : Nat, b ≤ e → e ≤ z.length → cutS z (some (b : Int)) (some (e : Int)) = cutC z.cps.toList b e := fun b e h1 h2 => cut_lo_hi z h1 h2
    unfold pcA at q
    refine ifs_val (v := low u) (fun Q k => ⟨_, rfl, u, letS, rfl, rfl, _, rfl, by rw [low_mem]; exact k⟩) (fun hlow => ?_) (fun hlow => nxt_run ?_)
    · rw [if_pos hlow] at q
      have hle := runE_le (p := letS.cps.toList) (show a ≤ z.cps.toList.length by omega)
      refine asg_run ⟨_, rfl, _, rfl, z, letS, a, rfl, hz, by omega, ret_run ⟨_, rfl, _, rfl, _, rfl, _, rfl, _, rfl, z, rfl, hz, ?_⟩⟩
      rw [cut _ _ hle.1 (by omega)]
      refine ⟨_, rfl, _, rfl, _, rfl, _, rfl, _, _, rfl, rfl, _, _, rfl, rfl, _, _, a, runE letS.cps.toList z.cps.toList a, _, rfl, fun H2 x dx s2 nx hx => q H2 x dx s2 nx ?_⟩
      rw [hx]
      unfold pcFs wordA
      rw [show decide (((runE letS.cps.toList z.cps.toList a : Nat) : Int) - (a : Int) ≤ 8) = decide (runE letS.cps.toList z.cps.toList a - a ≤ 8) from decide_eq_decide.mpr (by omega)]
    rw [if_neg (by rw [hlow]; exact Bool.false_ne_true)] at q
    have dotd : decide (u ∈ (".$" : Str).cps.toList) = decide (u = 46 ∨ u = 36) := by
      rw [show (".$" : Str).cps.toList = [46, 36] by decide +kernel, decide_eq_decide]
      simp
    have some_lt : ∀ {c : Nat}, o = some c → a + 1 < z.length := fun e => by
      have := (List.getElem?_eq_some_iff.mp (hf.trans e)).1
      omega
    refine ifs_val (v := decide (u = 46 ∨ u = 36) && fLow o) (fun Q k => ?_) (fun hb => ?_) (fun hb => nxt_run ?_)
    · refine tand_val (b := decide (u = 46 ∨ u = 36)) (c := fLow o) (fun Q k => ⟨_, rfl, u, _, rfl, rfl, _, rfl, by rw [dotd]; exact k⟩) (fun _ Q k => tand_val (b := o.isSome) (c := fLow o) (fun Q k => ⟨_, rfl, _, tru o, k⟩) (fun ho Q k => ?_) ?_) k
      · cases o with
        | none => cases ho
        | some c => exact ⟨_, rfl, c, letS, rfl, rfl, _, rfl, by rw [low_mem]; exact k⟩
      · cases o with
        | none => exact k
        | some c => exact k
    · rw [Bool.and_eq_true, decide_eq_true_iff] at hb
      rw [if_pos hb] at q
      have h1 : a + 1 ≤ z.length := by
        cases o with
        | none => cases hb.2
        | some c => exact Nat.le_of_lt (some_lt rfl)
      have hle := runE_le (p := letS.cps.toList) (show a + 1 ≤ z.cps.toList.length by omega)
      refine asg_run ⟨_, rfl, _, rfl, _, _, rfl, rfl, z, letS, a + 1, by rw [← e14]; rfl, hz, h1, ret_run ?_⟩
      generalize hE : runE letS.cps.toList z.cps.toList (a + 1) = e at hle ⊢
      have ee : decide (((e : Nat) : Int) - (a : Int) - 1 ≤ 8) = decide (e - a - 1 ≤ 8) := decide_eq_decide.mpr (by omega)
      have hcut : cutS z (some ((a : Int) + 1)) (some ((e : Nat) : Int)) = cutC z.cps.toList (a + 1) e := cut (a + 1) e hle.1 (by omega)
      refine ⟨_, rfl, rfl, _, rfl, ite2 (fun c => ?_) (fun c => ?_)⟩
      · have eu : u = 46 := str1_inj (c := 46) (of_decide_eq_true c)
        refine ⟨_, rfl, _, rfl, _, _, rfl, rfl, _, rfl, _, rfl, _, rfl, z, rfl, hz, _, rfl, _, rfl, _, rfl, _, rfl, _, _, rfl, rfl, _, _, rfl, rfl, _, _, rfl, rfl, _, _, a, e, _, rfl, fun H2 x dx s2 nx hx => q H2 x dx s2 nx ?_⟩
        rw [hx, hcut, ee]
        unfold pcFs nameA
        rw [hE, if_pos eu]
      · have eu : ¬ u = 46 := fun h => c (decide_eq_true (by rw [h]; rfl))
        refine ⟨_, rfl, _, rfl, _, _, rfl, rfl, _, rfl, _, rfl, _, rfl, z, rfl, hz, _, rfl, _, rfl, _, rfl, _, rfl, _, _, rfl, rfl, _, _, rfl, rfl, _, _, rfl, rfl, _, _, a, e, _, rfl, fun H2 x dx s2 nx hx => q H2 x dx s2 nx ?_⟩
        rw [hx, hcut, ee]
        unfold pcFs nameA
        rw [hE, if_neg eu]
    rw [if_neg (fun z => by rw [Bool.and_eq_false_iff, decide_eq_false_iff_not] at hb; rcases hb with h | h; exact h z.1; rw [z.2] at h; cases h)] at q
    have hD3 : ∀ Q : Bool → Hp → Prop, Q (fDig o) H → tAnd (fun σ H_1 Q => tVar 3 σ H_1 fun x H' => ∃ k, TruV K x H' k ∧ Q k H') (tTest (tOp rInS (tVar 3) (tC (V.str digS)))) [some (V.str z), some (V.int (a : Int)), some (V.str ⟨#[u]⟩), some (V.str (sg1 o)), none] H Q := fun Q k => by
      refine tand_val (b := o.isSome) (c := fDig o) (fun Q k => ⟨_, rfl, _, tru o, k⟩) (fun ho Q k => ?_) ?_
      · cases o with
        | none => cases ho
        | some c => exact ⟨_, rfl, c, digS, rfl, rfl, _, rfl, by rw [dig_mem]; exact k⟩
      · cases o with
        | none => exact k
        | some c => exact k
    have fd_at : fDig o = true → ∃ c, z.cps.toList[a + 1]? = some c ∧ (48 ≤ c ∧ c ≤ 57) := fun h => by
      cases o with
      | none => cases h
      | some c => exact ⟨c, hf, of_decide_eq_true h⟩
    have one : ∀ (c : Nat) (Q : Bool → Hp → Prop), Q (decide (u = c)) H → tTest (tOp rEq (tVar 2) (tC (V.str ⟨#[c]⟩))) [some (V.str z), some (V.int (a : Int)), some (V.str ⟨#[u]⟩), some (V.str (sg1 o)), none] H Q := fun c Q k => ⟨_, rfl, rfl, _, rfl, by rw [sg_eq]; exact k⟩
    refine ifs_val (v := decide (u = 46) && fDig o) (fun Q k => tand_val (one 46) (fun _ => hD3) k) (fun hb2 => ?_) (fun hb2 => nxt_run ?_)
    · rw [Bool.and_eq_true, decide_eq_true_iff] at hb2
      rw [if_pos hb2] at q
      obtain ⟨c, hc, hc9⟩ := fd_at hb2.2
      refine ret_run ⟨_, rfl, _, rfl, _, rfl, _, _, rfl, rfl, _, z, a, a + 1, u, c, 99, by rw [← e14]; rfl, hz, hu, hc, hc9, by decide, by decide, fun H2 x dx s2 nx hx => q H2 x dx s2 nx ?_⟩
      rw [hx, if_neg (by rw [hb2.1]; decide)]
      rfl
    rw [if_neg (fun z => by rw [Bool.and_eq_false_iff, decide_eq_false_iff_not] at hb2; rcases hb2 with h | h; exact h z.1; rw [z.2] at h; cases h)] at q
    refine ifs_val (v := dig u || (decide (u = 45) && fDig o)) (fun Q k => tor_val (fun Q k => ⟨_, rfl, u, digS, rfl, rfl, _, rfl, by rw [dig_mem]; exact k⟩) (fun _ Q k => tand_val (one 45) (fun _ => hD3) k) k) (fun hb3 => ?_) (fun hb3 => nxt_run ?_)
    · cases hd : dig u with
      | true =>
        rw [if_pos hd] at q
        have h9 : 48 ≤ u ∧ u ≤ 57 := of_decide_eq_true hd
        refine ret_run ⟨_, rfl, _, rfl, _, rfl, rfl, _, rfl, ite2 (fun c => ?_) (fun c => ?_)⟩
        · have eu : u = 45 := str1_inj (c := 45) (of_decide_eq_true c)
          omega
        · refine ⟨_, rfl, _, z, a, a, u, u, 10 ^ 30, rfl, hz, hu, hu, h9, by decide, by decide, fun H2 x dx s2 nx hx => q H2 x dx s2 nx ?_⟩
          rw [hx, if_neg (by omega)]
          rfl
      | false =>
        rw [hd, Bool.false_or, Bool.and_eq_true, decide_eq_true_iff] at hb3
        rw [if_neg (by rw [hd]; exact Bool.false_ne_true), if_pos hb3] at q
        obtain ⟨c, hc, hc9⟩ := fd_at hb3.2
        refine ret_run ⟨_, rfl, _, rfl, _, rfl, rfl, _, rfl, ite2 (fun c' => ?_) (fun c' => ?_)⟩
        · refine ⟨_, rfl, _, _, rfl, rfl, _, z, a, a + 1, u, c, 10 ^ 30, by rw [← e14]; rfl, hz, hu, hc, hc9, by decide, by decide, fun H2 x dx s2 nx hx => q H2 x dx s2 nx ?_⟩
          rw [hx, if_pos hb3.1]
          rfl
        · exact absurd (decide_eq_true (by rw [hb3.1]; rfl)) c'
    rw [Bool.or_eq_false_iff, Bool.and_eq_false_iff, decide_eq_false_iff_not] at hb3
    rw [if_neg (by rw [hb3.1]; exact Bool.false_ne_true), if_neg (fun z => by rcases hb3.2 with h | h; exact h z.1; rw [z.2] at h; cases h)] at q
    refine ifs_val (one 34) (fun hb4 => ?_) (fun hb4 => nxt_run ?_)
    · rw [if_pos (of_decide_eq_true hb4)] at q
      exact ret_run ⟨_, rfl, _, rfl, z, a, rfl, hz, by omega, q⟩
    rw [if_neg (of_decide_eq_false hb4)] at q
    refine ret_run ⟨_, rfl, _, rfl, _, rfl, _, _, rfl, rfl, _, rfl, u, mrkS, rfl, rfl, _, _, a, a + 1, mrk u, by rw [← e14]; rfl, fun H2 x dx s2 nx hx => q H2 x dx s2 nx ?_⟩
    rw [hx]
    rfl
end
end Toy


namespace Toy
open PySem PySem.Spec L2 PyProof.Rows PySem.W
/-! ### all pieces -/
abbrev sPs : Stmt := top 21
abbrev PD : Type := Str × V × Nat × Nat
def pdOf (p : Bool × Str × V × Nat) (a : Nat) : PD := if p.1 = true then (p.2.1, p.2.2.1, a, p.2.2.2) else (("wrong" : Str), V.non, a, a + 1)
def pdF (d : PD) : List (Str × V) := pcF (.str d.1) d.2.1 (.int (d.2.2.1 : Int)) (.int (d.2.2.2 : Int))
theorem pcFs_eq (p : Bool × Str × V × Nat) (a : Nat) : pcFs p a = pdF (pdOf p a) := by
  unfold pcFs pcR pdF pdOf
  split <;> rfl
theorem runE_gt {p cs : List Nat} {i c : Nat} (h : cs[i]? = some c) (hc : c ∈ p) : i < runE p cs i := by
  obtain ⟨hi, e⟩ := List.getElem?_eq_some_iff.mp h
  have h1 := (runE_le (p := p) (show i + 1 ≤ cs.length by omega)).1
  rw [runE_in h hc]
  omega
theorem strG_le : ∀ (n : Nat) {cs : List Nat} {i : Nat} {acc : List Nat}, cs.length - i ≤ n → i ≤ cs.length → i ≤ (strG cs i acc).1
  | n, cs, i, acc, h, hi => by
    by_cases hl : i < cs.length
    · have hc : cs[i]? = some cs[i] := List.getElem?_eq_getElem hl
      generalize cs[i] = c at hc
      by_cases h1 : c = 34
      · rw [h1] at hc
        rw [strG_quote hc]
        exact Nat.le_refl _
      by_cases h2 : c = 92
      · rw [h2] at hc
        by_cases h3 : cs[i + 1]? = some 34 ∨ cs[i + 1]? = some 92
        · obtain ⟨d, hd, hd2⟩ : ∃ d, cs[i + 1]? = some d ∧ (d = 34 ∨ d = 92) := by
            rcases h3 with h | h
            · exact ⟨_, h, .inl rfl⟩
            · exact ⟨_, h, .inr rfl⟩
          have hi1 := (List.getElem?_eq_some_iff.mp hd).1
          rw [strG_esc hc hd hd2]
          cases n with
          | zero => omega
          | succ n =>
            have := strG_le n (cs := cs) (i := i + 2) (acc := acc ++ [d]) (by omega) (by omega)
            omega
        · rw [strG_bad hc (fun z => h3 (.inl z)) (fun z => h3 (.inr z))]
          exact Nat.le_succ _
      · rw [strG_plain hc h1 h2]
        cases n with
        | zero => omega
        | succ n =>
          have := strG_le n (cs := cs) (i := i + 1) (acc := acc ++ [c]) (by omega) (by omega)
          omega
    · rw [strG_end (by omega)]
      exact Nat.le_refl _
/-- a right piece ends within the text, behind its begin -/
theorem pcA_end {cs : List Nat} {a u : Nat} (hu : cs[a]? = some u) : a < (pdOf (pcA cs a u cs[a + 1]?) a).2.2.2 ∧ (pdOf (pcA cs a u cs[a + 1]?) a).2.2.2 ≤ cs.length := by
  obtain ⟨ha, _⟩ := List.getElem?_eq_some_iff.mp hu
  have key : (pcA cs a u cs[a + 1]?).1 = true → a < (pcA cs a u cs[a + 1]?).2.2.2 ∧ (pcA cs a u cs[a + 1]?).2.2.2 ≤ cs.length := by
    unfold pcA
    split
    · rename_i h
      intro _
      have hm := (letS_in u).mpr (of_decide_eq_true h)
      exact ⟨runE_gt hu hm, (runE_le (by omega)).2⟩
    split
    · rename_i h
      intro _
      have h1 : a + 1 < cs.length := by
        cases hf : cs[a + 1]? with
        | none => rw [hf] at h; cases h.2
        | some c => exact (List.getElem?_eq_some_iff.mp hf).1
      have := runE_le (p := letS.cps.toList) (show a + 1 ≤ cs.length by omega)
      exact ⟨by show a < runE _ _ _; omega, this.2⟩
    split
    · rename_i h
      intro _
      have h1 : a + 1 < cs.length := by
        cases hf : cs[a + 1]? with
        | none => rw [hf] at h; cases h.2
        | some c => exact (List.getElem?_eq_some_iff.mp hf).1
      have := runE_le (p := digS.cps.toList) (show a + 1 ≤ cs.length by omega)
      exact ⟨by show a < runE _ _ _; omega, this.2⟩
    split
    · rename_i h
      intro _
      have hm := (digS_in u).mpr (of_decide_eq_true h)
      exact ⟨runE_gt hu hm, (runE_le (by omega)).2⟩
    split
    · rename_i h
      intro _
      have h1 : a + 1 < cs.length := by
        cases hf : cs[a + 1]? with
        | none => rw [hf] at h; cases h.2
        | some c => exact (List.getElem?_eq_some_iff.mp hf).1
      have := runE_le (p := digS.cps.toList) (show a + 1 ≤ cs.length by omega)
      exact ⟨by show a < runE _ _ _; omega, this.2⟩
    split
    · intro h
      have h : strR cs a = true := h
      unfold strR at h
      rw [Bool.and_eq_true, decide_eq_true_iff] at h
      have h1 := (List.getElem?_eq_some_iff.mp h.1).1
      have h2 := strG_le cs.length (cs := cs) (i := a + 1) (acc := []) (by omega) (by omega)
      exact ⟨by show a < (strG cs (a + 1) []).1 + 1; omega, by show (strG cs (a + 1) []).1 + 1 ≤ cs.length; omega⟩
    · intro _
      exact ⟨Nat.lt_succ_self _, by show a + 1 ≤ cs.length; omega⟩
  unfold pdOf
  split
  · rename_i h
    exact key h
  · exact ⟨Nat.lt_succ_self _, by show a + 1 ≤ cs.length; omega⟩
theorem gapE_le : ∀ (n : Nat) {cs : List Nat} {i : Nat}, cs.length - i ≤ n → i ≤ cs.length → i ≤ gapE cs i ∧ gapE cs i ≤ cs.length
  | n, cs, i, h, hi => by
    by_cases hl : i < cs.length
    · have hc : cs[i]? = some cs[i] := List.getElem?_eq_getElem hl
      generalize cs[i] = c at hc
      by_cases h1 : c = 32 ∨ c = 10
      · rw [gapE_space hc h1]
        cases n with
        | zero => omega
        | succ n =>
          have := gapE_le n (cs := cs) (i := i + 1) (by omega) (by omega)
          omega
      by_cases h2 : c = 35
      · rw [h2] at hc
        have h3 := nlE_gt hc (by decide)
        have h4 := (nlE_le (c := 10) hi).2
        rw [gapE_mark hc]
        cases n with
        | zero => omega
        | succ n =>
          have := gapE_le n (cs := cs) (i := nlE 10 cs i) (by omega) (by omega)
          omega
      · rw [gapE_out hc h1 h2]
        omega
    · rw [gapE_end (by omega)]
      omega
def wrongS : Str := "wrong"
/-- the pieces from i on, up to the first wrong one -/
def lexP : Nat → List Nat → Nat → List PD
  | 0, _, _ => []
  | n + 1, cs, i => match cs[i]? with
    | none => []
    | some u => let d := pdOf (pcA cs i u cs[i + 1]?) i
      if d.1 = wrongS then [d] else d :: lexP n cs (gapE cs d.2.2.2)
theorem lexP_end : ∀ {n : Nat} {cs : List Nat} {i : Nat}, cs.length ≤ i → lexP n cs i = []
  | 0, _, _, _ => rfl
  | n + 1, cs, i, h => by
    rw [lexP, List.getElem?_eq_none_iff.mpr h]
def PcAt (H : Hp) (C : Addr) (v : V) (d : PD) : Prop := ∃ x dx, v = .ref x ∧ H x = some (.ins C dx (pdF d))
theorem PcAt.up {H H' : Hp} {C : Addr} {v : V} {d : PD} (h : PcAt H C v d) (s : Same H H') : PcAt H' C v d := by
  obtain ⟨x, dx, e, hx⟩ := h
  exact ⟨x, dx, e, s _ _ hx⟩
theorem pcs_up {H H' : Hp} {C : Addr} {vs : List V} {ds : List PD} (h : Paired (PcAt H C) vs ds) (s : Same H H') : Paired (PcAt H' C) vs ds := L2.Paired.mapP h fun _ _ z => z.up s
def allP (cs : List Nat) : List PD := lexP (cs.length + 1) cs (gapE cs 0) ++ [(("end" : Str), V.non, cs.length, cs.length)]
def spPs (C : Addr) : Sp := fun vs H Q _ => ∃ z : Str, vs = [.str z] ∧ z.length ≤ 1000000 ∧ ∀ H' L xs, Same H H' → H L = none → H' L = some (.lst xs) → xs.length ≤ 1000001 → Paired (PcAt H' C) xs (allP z.cps.toList) → Q (.ref L) H'
abbrev NPs : List Str := ["text", "found", "at", "piece"]
theorem scPs : FnScope NPs ["text"] (defScope sPs) := ⟨rfl, rfl, rfl, by decide +kernel, rfl, by decide +kernel, by decide +kernel⟩
theorem paired_app {α β : Type} {F : α → β → Prop} : ∀ {xs : List α} {ys : List β} {us : List α} {vs : List β}, Paired F xs ys → Paired F us vs → Paired F (xs ++ us) (ys ++ vs)
  | _, _, _, _, .nil, h => h
  | _, _, _, _, .cons a b, h => .cons a (paired_app b h)
theorem paired_len {α β : Type} {F : α → β → Prop} : ∀ {xs : List α} {ys : List β}, Paired F xs ys → xs.length = ys.length
  | _, _, .nil => rfl
  | _, _, .cons _ b => congrArg Nat.succ (paired_len b)
theorem paired_last {α β : Type} {F : α → β → Prop} : ∀ {xs : List α} {ys : List β}, Paired F xs ys → xs ≠ [] → ∃ x y, xs.getLast? = some x ∧ ys.getLast? = some y ∧ F x y
  | _, _, .nil, h => absurd rfl h
  | [x], [y], .cons a .nil, _ => ⟨x, y, rfl, rfl, a⟩
  | x :: x2 :: xs, y :: y2 :: ys, .cons _ b, _ => by
    obtain ⟨u, v, h1, h2, h3⟩ := paired_last b (by simp)
    exact ⟨u, v, by rw [List.getLast?_cons_cons]; exact h1, by rw [List.getLast?_cons_cons]; exact h2, h3⟩
theorem atI_last {xs : List V} {v : V} (h : xs.getLast? = some v) : atI xs (-1) = some v := by
  rw [List.getLast?_eq_getElem?] at h
  have hi := (List.getElem?_eq_some_iff.mp h).1
  unfold atI
  have e : ixN xs.length (-1) = some (xs.length - 1) := by
    unfold ixN
    rw [if_neg (by decide), if_pos (by omega)]
    congr 1
    omega
  rw [e]
  exact h
theorem made_same {H : Hp} {x dx : Addr} {H' : Hp} {u : HO} (nx : H x = none) (ndx : H dx = none) (h1 : ∀ b, b ≠ x → H' b = (upd (upd H dx (.own x)) x u) b) : Same H H' := by
  intro b o hb
  have b1 : b ≠ x := fun z => by rw [z, nx] at hb; cases hb
  have b2 : b ≠ dx := fun z => by rw [z, ndx] at hb; cases hb
  rw [h1 b b1, upd_ne b1, upd_ne b2]
  exact hb
theorem lexP_len : ∀ (n : Nat) {cs : List Nat} {i : Nat}, i ≤ cs.length → (lexP n cs i).length ≤ cs.length - i
  | 0, cs, i, _ => by simp [lexP]
  | n + 1, cs, i, h => by
    rw [lexP]
    cases hu : cs[i]? with
    | none => simp
    | some u =>
      have he := pcA_end hu
      have hi := (List.getElem?_eq_some_iff.mp hu).1
      dsimp only
      split
      · simp
        omega
      · have g := gapE_le cs.length (cs := cs) (i := (pdOf (pcA cs i u cs[i + 1]?) i).2.2.2) (by omega) he.2
        have := lexP_len n (cs := cs) g.2
        rw [List.length_cons]
        omega
theorem lines {n : Nat} (h : n ≤ 1000001) : n < sizeLine := Nat.lt_of_le_of_lt h (by decide)
section
variable {P : Program} {w : World} {K : PySem.W.Frag} {mg : Str → Option Value} {base : Heap}
theorem ok_ps {C f fI fG fA : Addr} {fd fdI fdG fdA : FuncData} (F : Fun K "pieces_of" "pieces_of" sPs f fd) (T : PCls K C fI) (GI : FnOk P w K mg base CX0 1 fI fdI ["self", "kind", "told", "at", "end"] (spPcI C)) (mC : mg "Piece" = some (.ref C)) (bI : Binds K fdI ["self", "kind", "told", "at", "end"] [])
    (GG : FnOk P w K mg base CX0 1 fG fdG ["text", "at"] spGap) (mG : mg "_gap_end" = some (.ref fG)) (kG : PySem.W.keepIn K (.ref fG) = true) (bG : Binds K fdG ["text", "at"] [])
    (GA : FnOk P w K mg base CX0 5 fA fdA ["text", "at"] (spAt C)) (mA : mg "_piece_at" = some (.ref fA)) (kA : PySem.W.keepIn K (.ref fA) = true) (bA : Binds K fdA ["text", "at"] [])
    (mLen : mg "len" = none) : FnOk P w K mg base CX0 6 f fd ["text"] (spPs C) := by
  refine F.ok scPs (fun vs H Q E h => ?_) (fun cdv A outer s H vs Q E hr h => ?_)
  · obtain ⟨z, rfl, _⟩ := h
    rfl
  · obtain ⟨z, rfl, hz, q⟩ := h
    have hr1 := hr.mono (show 1 ≤ 5 by decide)
    have hr2 := hr.mono (show 2 ≤ 5 by decide)
    have hl : z.cps.toList.length = z.length := by rw [Array.length_toList]; rfl
    have hzs : z.length ≤ sizeLine := Nat.le_trans hz (by decide)
    refine ⟨_, pss_cons (ps_set (i := 1) scPs.nd rfl (Or.inl rfl) (pe_lst pa_nil))
      (pss_cons (ps_set (i := 2) scPs.nd rfl (Or.inl rfl) (pe_call GG hr1 (by rfl) mG kG bG .nil pass0 (pa_cons (pv 0) (pa_cons pe_int pa_nil))))
      (pss_cons (ps_while PassesOwn.never (PW.pt (pw_and (pt_cmpR op_lt (pv 2) (pe_callB call_len_str (by rfl) mLen PySem.boot_len (pa_cons (pv 0) pa_nil)) (nomark _)) (pw_and1 (PW.pt (pw_or (pt_not (pt_truth (pv 1) (by intro _; rfl))) (pw_or1 (pt_cmpR op_ne (pe_fld (pe_ix ix_list (pv 1) (pe_un un_neg pe_int) (fun _ _ => rfl)) rfl) pe_str (nomark _))))))))
        (pss_cons (ps_set (i := 3) scPs.nd rfl (Or.inl rfl) (pe_call GA hr (by rfl) mA kA bA .nil pass0 (pa_cons (pv 0) (pa_cons (pv 2) pa_nil))))
        (pss_cons (ps_expr (pe_bm PySem.F.plainAttrs_list PySem.F.slot_list_append PySem.F.type_list_append mt_append (pv 1) (pa_cons (pv 3) pa_nil)))
        (pss_one (ps_set (i := 2) scPs.nd rfl (Or.inl rfl) (pe_call GG hr1 (by rfl) mG kG bG .nil pass0 (pa_cons (pv 0) (pa_cons (pe_fld (pv 3) rfl) pa_nil))))))))
      (pss_one (ps_ret (pe_lst (StX.pa_star (pv 1) (pa_cons (pe_make T.mk' GI hr2 (by rfl) mC bI .nil pass0 (pa_cons pe_str (pa_cons pe_non (pa_cons (pe_callB call_len_str (by rfl) mLen PySem.boot_len (pa_cons (pv 0) pa_nil)) (pa_cons (pe_callB call_len_str (by rfl) mLen PySem.boot_len (pa_cons (pv 0) pa_nil)) pa_nil))))) pa_nil))))))), ?_⟩
    refine asg_run ⟨few (by show 0 ≤ 1000; decide), fun L nL => asg_run ⟨_, rfl, z, 0, rfl, hzs, Nat.zero_le _, ?_⟩⟩
    have g0 := gapE_le z.length (cs := z.cps.toList) (i := 0) (by omega) (Nat.zero_le _)
    have hG0 : lexP (z.cps.toList.length + 1) z.cps.toList (gapE z.cps.toList 0) = lexP (z.cps.toList.length + 1) z.cps.toList (gapE z.cps.toList 0) := rfl
    have lG := lexP_len (z.cps.toList.length + 1) g0.2
    unfold allP at q
    generalize hfin : lexP (z.cps.toList.length + 1) z.cps.toList (gapE z.cps.toList 0) = G at q lG
    refine ⟨fun m σ H' => ∃ (j : Nat) (o : Option V) (xs : List V) (ps : List PD), σ = [some (.str z), some (.ref L), some (.int (j : Int)), o] ∧ Same H H' ∧ H' L = some (.lst xs) ∧ Paired (PcAt H' C) xs ps ∧ j ≤ z.length ∧
      ((∃ n, z.length < n + j ∧ ps ++ lexP n z.cps.toList j = G ∧ (∀ d, ps.getLast? = some d → d.1 ≠ wrongS)) ∨ (ps = G ∧ ∃ d, ps.getLast? = some d ∧ d.1 = wrongS)) ∧ m = z.length - j,
      ⟨_, gapE z.cps.toList 0, none, [], [], rfl, same_new same_id nL, upd_same, .nil, by omega, .inl ⟨z.cps.toList.length + 1, by omega, hfin, fun d hd => by cases hd⟩, rfl⟩, ?_⟩
    rintro m σ H' ⟨j, o, xs, ps, rfl, s1, hL, hps, hj, hG, rfl⟩
    have lps : ps.length ≤ G.length := by
      rcases hG with ⟨n, _, h, _⟩ | ⟨h, _⟩
      · rw [← h, List.length_append]; omega
      · rw [h]
        exact Nat.le_refl _
    have lxs : xs.length ≤ z.length := by rw [paired_len hps]; omega
    have hxe : xs.isEmpty = ps.isEmpty := by
      cases hps <;> rfl
    refine tand_val (b := decide (j < z.length)) (c := match ps.getLast? with | none => true | some d => decide (d.1 ≠ wrongS)) (fun Q k => ⟨_, rfl, _, rfl, _, rfl, hzs, _, _, rfl, rfl, _, rfl, ?_⟩) (fun _ Q k => ?_) ?_
    · rw [show decide ((j : Int) < (z.length : Int)) = decide (j < z.length) from decide_eq_decide.mpr (by omega)]
      exact k
    · refine tor_val (b := xs.isEmpty) (c := match ps.getLast? with | none => true | some d => decide (d.1 ≠ wrongS)) (fun Q k => ⟨_, rfl, !xs.isEmpty, .inl ⟨xs, SqL.of hL, rfl⟩, by show Q (!(!xs.isEmpty)) H'; rw [Bool.not_not]; exact k⟩) (fun hb Q k => ?_) ?_
      · obtain ⟨v, d, h1, h2, x, dx, rfl, hx⟩ := paired_last hps (fun z => by rw [z] at hb; cases hb)
        rw [h2] at k
        refine ⟨_, rfl, _, rfl, L, xs, _, .ref x, rfl, rfl, SqL.of hL, atI_last h1, x, C, dx, _, .str d.1, rfl, hx, T.cl, T.nk, rfl, rfl, _, rfl, ?_⟩
        have e : (!decide (V.str d.1 = V.str ("wrong" : Str))) = decide (d.1 ≠ wrongS) := by
          rw [Bool.eq_iff_iff, Bool.not_eq_true', decide_eq_false_iff_not, decide_eq_true_iff]
          exact not_congr ⟨fun z => V.str.inj z, fun z => by rw [z]; rfl⟩
        rw [e]
        exact k
      · rw [hxe]
        cases ps with
        | nil => exact k
        | cons a b => exact k
    · refine ite2 (fun c => ?_) (fun c => ?_)
      · rw [Bool.and_eq_true, decide_eq_true_iff] at c
        obtain ⟨cj, cw⟩ := c
        have nw : ∀ d, ps.getLast? = some d → d.1 ≠ wrongS := fun d hd => by
          rw [hd] at cw
          exact of_decide_eq_true cw
        obtain ⟨n, hn, hG⟩ : ∃ n, z.length < n + j ∧ ps ++ lexP n z.cps.toList j = G := by
          rcases hG with ⟨n, h1, h2, _⟩ | ⟨_, d, h1, h2⟩
          · exact ⟨n, h1, h2⟩
          · exact absurd h2 (nw d h1)
        obtain ⟨n, rfl⟩ : ∃ m, n = m + 1 := ⟨n - 1, by omega⟩
        have lj : j < z.cps.toList.length := by omega
        have hu : z.cps.toList[j]? = some z.cps.toList[j] := List.getElem?_eq_getElem lj
        generalize z.cps.toList[j] = u at hu
        have he := pcA_end hu
        rw [lexP, hu] at hG
        dsimp only at hG
        generalize hd : pdOf (pcA z.cps.toList j u z.cps.toList[j + 1]?) j = d at he hG
        have g1 := gapE_le z.length (cs := z.cps.toList) (i := d.2.2.2) (by omega) he.2
        refine ⟨fun σ' H2 => ∃ (j' : Nat) (o' : Option V) (xs' : List V) (ps' : List PD), σ' = [some (.str z), some (.ref L), some (.int (j' : Int)), o'] ∧ Same H H2 ∧ H2 L = some (.lst xs') ∧ Paired (PcAt H2 C) xs' ps' ∧ j < j' ∧ j' ≤ z.length ∧
          ((∃ n, z.length < n + j' ∧ ps' ++ lexP n z.cps.toList j' = G ∧ (∀ d, ps'.getLast? = some d → d.1 ≠ wrongS)) ∨ (ps' = G ∧ ∃ d, ps'.getLast? = some d ∧ d.1 = wrongS)), fun σ' H2 w => ?_, ?_⟩
        · obtain ⟨j', o', xs', ps', rfl, s2, hL2, hp2, l1, l2, hG2⟩ := w
          exact ⟨z.length - j', by omega, j', o', xs', ps', rfl, s2, hL2, hp2, l2, hG2, rfl⟩
        refine asg_run ⟨_, rfl, _, rfl, z, j, u, rfl, hzs, hu, fun H2 x dx s2 nx hx => ?_⟩
        rw [pcFs_eq, hd] at hx
        have hL2 := s2 _ _ hL
        have nxL : L ≠ x := ne_of_none hL nx
        refine ⟨_, rfl, .inl ⟨rfl, _, SqL.of hL2⟩, _, rfl, L, _, _, rfl, rfl, hL2, lines (by omega), ?_⟩
        have hx3 : (upd H2 L (.lst (xs ++ [.ref x]))) x = some (.ins C dx (pdF d)) := by
          rw [upd_ne nxL.symm]
          exact hx
        have hp3 : Paired (PcAt (upd H2 L (.lst (xs ++ [.ref x]))) C) (xs ++ [.ref x]) (ps ++ [d]) := by
          refine paired_app (L2.Paired.mapP hps fun v d' h => ?_) (.cons ⟨x, dx, rfl, hx3⟩ .nil)
          obtain ⟨x', dx', rfl, hx'⟩ := h
          refine ⟨x', dx', rfl, ?_⟩
          rw [upd_ne (ne_of hx' hL (by intro z; cases z))]
          exact s2 _ _ hx'
        have s3 : Same H (upd H2 L (.lst (xs ++ [.ref x]))) := same_put (s1.trans s2) nL
        have hL3 : (upd H2 L (.lst (xs ++ [.ref x]))) L = some (.lst (xs ++ [.ref x])) := upd_same
        generalize upd H2 L (.lst (xs ++ [.ref x])) = H3 at hx3 hp3 s3 hL3 ⊢
        refine ⟨_, rfl, _, rfl, x, C, dx, _, .int (d.2.2.2 : Int), rfl, hx3, T.cl, T.ne, rfl, z, d.2.2.2, rfl, hzs, by omega, ?_⟩
        refine ⟨_, _, _, _, rfl, s3, hL3, hp3, by omega, by omega, ?_⟩
        by_cases hw : d.1 = wrongS
        · rw [if_pos hw] at hG
          exact .inr ⟨hG, d, by simp, hw⟩
        · rw [if_neg hw] at hG
          refine .inl ⟨n, by omega, by rw [List.append_assoc]; exact hG, fun d' hd' => ?_⟩
          rw [List.getLast?_concat] at hd'
          cases hd'
          exact hw
      · have hGe : ps = G := by
          rcases hG with ⟨n, h1, h2, h3⟩ | ⟨h1, _⟩
          · by_cases hlt : j < z.length
            · exfalso
              apply c
              rw [decide_eq_true hlt, Bool.true_and]
              cases hgl : ps.getLast? with
              | none => rfl
              | some d => exact decide_eq_true (h3 d hgl)
            · rw [lexP_end (by omega), List.append_nil] at h2
              exact h2
          · exact h1
        dsimp only
        refine ret_run ⟨_, rfl, L, xs, rfl, .inr (SqL.of hL), _, rfl, z, rfl, hzs, _, rfl, z, rfl, hzs, fun x dx nx ndx ne => ⟨x, dx, _, _, _, _, rfl, upd_same, fun H2 h1 h2 => ?_⟩⟩
        refine ⟨rfl, ?_, fun p np => ?_⟩
        · rw [List.length_append]
          have : sizeLine = 16777216 := by decide
          show xs.length + 1 ≤ sizeLine
          omega
        have s2 : Same H' H2 := made_same nx ndx h1
        refine q _ p _ (same_put (s1.trans s2) ?_) ?_ upd_same ?_ ?_
        · cases e : H p with
          | none => rfl
          | some u => rw [s2 _ _ (s1 _ _ e)] at np; cases np
        · cases e : H p with
          | none => rfl
          | some u => rw [s2 _ _ (s1 _ _ e)] at np; cases np
        · rw [List.length_append]
          show xs.length + 1 ≤ 1000001
          omega
        · rw [← hGe]
          have last : PcAt (upd H2 p (.lst (xs ++ [.ref x]))) C (.ref x) (("end" : Str), V.non, z.cps.toList.length, z.cps.toList.length) := by
            refine ⟨x, dx, rfl, ?_⟩
            rw [upd_ne (ne_of_none h2 np), h2, hl]
            rfl
          exact paired_app (pcs_up hps (s2.trans (same_new same_id np))) (.cons last .nil)
end
end Toy


namespace L2
open PySem PySem.Spec PyProof.Rows PySem.W PySem.Calls
/-! super().__init__(e) in an __init__ of a class over another one -/
/-- what is known of the text -/
structure SupK (K : Frag) (P : Program) (fa cda cc C D f2 : Addr) (fd : FuncData) : Prop where
  fn : ∃ oc od osl, K.lookup fa = some ⟨oc, od, .func fd, osl⟩
  code : ∃ oc od vs osl file tf, K.lookup cda = some ⟨oc, od, .fields vs, osl⟩ ∧ vs[2]? = some (.str file tf) ∧ ((P.main.file : Str) == file) = true
  cell : ∃ oc od osl, K.lookup cc = some ⟨oc, od, .cell (some (.ref D)), osl⟩
  cls : ∃ cd, clsIn K D = some cd
  mro : mroIn K C (.ref D) = some true
  opq : nsIn K cStatics "thirdparty.any" = some none
  sup : ks_superIn K C D "__init__" = some (some (.ref f2))
  typ : typeIn K (.ref f2) = some (.type "function")
  fnk : fnIn K f2 = true
  top : (P.main.scope.names.lookup ("super" : Str)).isSome = false
/-- what is known of the running frame -/
structure SupX (X : Cx) (fa cda cc : Addr) (fd : FuncData) (me : Str) : Prop where
  ar : ∃ ar, (fd.params.posonlyargs ++ fd.params.args).head? = some ar ∧ ar.arg = me
  fu : X.env.func = some fa
  co : X.env.code = .ref cda
  ks : X.env.scope.names.lookup ("super" : Str) = some .globalImplicit
  kc : X.env.scope.names.lookup ("__class__" : Str) = some .free
  ka : X.env.scope.names.lookup me = some .local
  kk : X.env.scope.kind = .function
  cl : X.env.cells.lookup ("__class__" : Str) = some cc
  N0 : X.N[0]? = some me
  mS : X.mg "super" = none
theorem wpAt_super {X : Cx} {fa cda cc C D f2 x dx : Addr} {fd fd2 : FuncData} {me : Str} {CX2 : CXT} {k : Nat} {ps : List Str} {sp : Sp} {E : XK} {body : List Stmt} {e : Expr} {te : TE} {p0 p1 apos pos : Pos} {pl : Sem Bool} {σ : L2.St} {H : Hp} {s : Shared} {fs : List (Str × V)} {Q : VK}
    (kx : SupK X.K X.prog fa cda cc C D f2 fd) (sx : SupX X fa cda cc fd me) (I : Inv X [] σ H s) (hσ : σ[0]? = some (some (.ref x))) (hx : H x = some (.ins C dx fs)) (he : PE X e te)
    (F2 : FnOk X.prog X.w X.K X.mg X.base CX2 k f2 fd2 ps sp) (hr : Room k X.A) (hb : Binds X.K fd2 ps []) (hp : Passes CX2 X E)
    (hst : starEach (e :: []) X.env = (false, eval e X.env) :: starEach [] X.env) (h : te σ H fun y H1 => sp [.ref x, y] H1 Q E)
    (hev : eval (.Call (.Attribute (.Call (.Name "super" p0) [] [] p1) "__init__" apos) [e] [] pos) X.env = (do
      let ov ← attributeBase (.Call (.Name "super" p0) [] [] p1) "__init__" X.env (eval (.Call (.Name "super" p0) [] [] p1) X.env)
      standAt apos.atName
      let (f, first) ← holding [ov] (getMethod ov "__init__" pl)
      callWith pos f first (backTo pos (starEach [e] X.env)) [])) :
    PySem.wpAt (model X.prog X.w) X.A (.func body X.env) (eval (.Call (.Attribute (.Call (.Name "super" p0) [] [] p1) "__init__" apos) [e] [] pos) X.env) (EP X [] σ Q) X.xe s := by
  refine ks_wpAt_MethodCall (pl := pl) ?_ hev
  obtain ⟨oc, od, osl, hf⟩ := kx.fn
  obtain ⟨ar, har, rfl⟩ := sx.ar
  obtain ⟨oc2, od2, vs, osl2, file, tf, hcode, hvs, hfile⟩ := kx.code
  obtain ⟨oc3, od3, osl3, hcell⟩ := kx.cell
  obtain ⟨cdD, hD⟩ := kx.cls
  have KI := I.kIn
  obtain ⟨hh, g, dr, t, os⟩ := s
  obtain ⟨mA, J0, _⟩ := ins_get I.hok hx
  obtain ⟨odx, J, _⟩ := J0.look
  obtain ⟨oD, hD1, hD2⟩ : ∃ oD, hh.get? D = some oD ∧ oD.data = .cls cdD := by
    unfold clsIn at hD
    split at hD
    · rename_i c d cd' sl ho
      cases hD
      exact ⟨_, KI _ _ ho, rfl⟩
    · cases hD
  refine ks_wpAt_super_base (env := X.env) sx.ks sx.kc (by decide) sx.fu (KI _ _ hf) rfl har sx.co (KI _ _ hcode) rfl hvs hfile kx.top ?_
  obtain ⟨mb, b1, b2⟩ := I.ok.mod.blt
  have gl : hh.Ns X.env.globals X.mg := by
    rw [I.ok.glob]
    exact I.ok.mod.glob.keeps I.bk
  have bl : hh.Ns X.env.builtins mb := by
    rw [I.ok.blt]
    exact b1.keeps I.bk
  refine ks_loadName_global sx.kk sx.ks (loadGlobal_builtin gl sx.mS bl ((b2 _ (by decide +kernel)).trans (show bootBuiltins "super" = some (.type "super") by first | rfl | decide +kernel)) ⟨rfl, ?_⟩)
  refine wpAny_loadName_free sx.kk sx.kc sx.cl ⟨_, KI _ _ hcell, rfl⟩ ?_
  obtain ⟨m, hns, hlook⟩ := I.loc
  obtain ⟨u, ru, lk⟩ := hlook 0 ar.arg (.ref x) sx.N0 hσ (.inl sx.ka)
  obtain rfl : u = Value.ref x := ru
  have hm : m ar.arg = some (.ref x) := by
    rcases lk with ⟨_, z⟩ | ⟨z, _⟩
    · exact z
    · have z : X.env.scope.names.lookup ar.arg = some .cell ∨ X.env.scope.names.lookup ar.arg = some .free := z
      rw [sx.ka] at z
      rcases z with z | z <;> cases z
  refine wpAny_loadName_local sx.kk sx.ka hns hm ?_
  refine ks_wpAny_isType_cls hD1 hD2 ⟨rfl, ?_⟩
  refine ks_wpAny_call_super hD1 hD2 J.at_ J.cls (fun c e => ?_) (looks_mroIn KI kx.mro) (fun h' eS kS => ?_)
  · have := J.no
    unfold notCls at this
    rw [e] at this
    exact Bool.noConfusion this
  have I1 : Inv X [] σ H ⟨h', g, dr, t, os⟩ := I.kept (t' := t) kS
  have K1 := I1.kIn
  obtain ⟨cdC, hC⟩ : ∃ cdC, clsIn X.K C = some cdC := by
    cases hc : clsIn X.K C with
    | none =>
      have z := kx.sup
      unfold ks_superIn at z
      rw [hc] at z
      cases z
    | some cd => exact ⟨cd, rfl⟩
  have hsup : alongIn X.K "__init__" ((cdC.mro.dropWhile (· != .ref D)).drop 1) = some (some (.ref f2)) := by
    have z := kx.sup
    unfold ks_superIn at z
    rw [hC] at z
    exact z
  obtain ⟨of, hof, hofc⟩ : ∃ of, h'.get? f2 = some of ∧ of.cls = .type "function" := by
    have ht : (X.K.lookup f2).map (·.cls) = some (.type "function") := kx.typ
    cases z : X.K.lookup f2 with
    | none => rw [z] at ht; cases ht
    | some of => rw [z] at ht; exact ⟨of, K1 _ _ z, Option.some.inj ht⟩
  refine ks_wpAny_getMethod_super eS (looks_opaque K1 kx.opq) (l₀ := cdC.mro) ?_ rfl K1 hsup hof hofc (ks_ne KI J hC) (by decide) ?_
  · exact fun A Q E s k q => wpAny_bind ((looks_clsIn K1 hC) A _ E s k (wpAny_pure q))
  have kM : ∀ b o, h'.get? b = some o → (h'.push (methodObj (.ref f2) (.ref x))).get? b = some o := fun b o e => Heap.get?_push_of_some _ e
  have I2 : Inv X [] σ H ⟨h'.push (methodObj (.ref f2) (.ref x)), g, dr, t + 1, os⟩ := I1.kept (t' := t + 1) kM
  have hq : (h'.push (methodObj (.ref f2) (.ref x))).get? h'.objs.size = some (methodObj (.ref f2) (.ref x)) := Heap.get?_push_at rfl rfl
  have nq : H h'.objs.size = none := I1.hok.fresh (Nat.le_refl _)
  have I3 : Inv X [(h'.objs.size, methodObj (.ref f2) (.ref x))] σ H ⟨h'.push (methodObj (.ref f2) (.ref x)), g, dr, t + 1, os⟩ := I2.pins_of fun p hp => by
    rw [List.mem_singleton.mp hp]
    exact ⟨hq, nq, Nat.ne_of_gt I1.lt, I1.nofs (Nat.le_refl _), fun v z => by cases z⟩
  refine callWith_M (h₀ := X.base) (L := X.env.locals) (news := [(h'.objs.size, methodObj (.ref f2) (.ref x))]) (q := h'.objs.size) (g := f2) (self := .ref x) (first := []) I.ok.mod.kin (fun p hp => ?_) List.mem_cons_self kx.fnk ?_ hst rfl
  · rw [List.mem_singleton.mp hp]
    refine ⟨hq, Nat.ne_of_gt I1.lt, ?_⟩
    cases z : X.base.get? h'.objs.size with
    | none => rfl
    | some o => exact absurd (Heap.lt_size (I1.bk _ _ z)) (Nat.lt_irrefl _)
  refine thn ((pa_cons he pa_nil hst).run pos _ _ σ H (fun ys H1 => sp (.ref x :: ys) H1 Q E) I3 h) fun us s3 hh3 => ?_
  obtain ⟨vs3, H3, I4, r, q4⟩ := hh3
  have hq3 : s3.heap.get? h'.objs.size = some (methodObj (.ref f2) (.ref x)) := (I4.pin (h'.objs.size, methodObj (.ref f2) (.ref x)) (List.mem_append_right _ List.mem_cons_self)).1
  have I5 : Inv X [] σ H3 s3 := I4.pins_of fun p hp => by cases hp
  refine ⟨⟨hq3, I5.kIn⟩, ?_⟩
  have hl : (Value.ref x :: us).length = ps.length := by
    rw [← F2.len _ _ _ _ q4, List.length_cons, List.length_cons, r.length]
  refine wpAny_call (ks_codeAny_call_bound hq3 (codeAny_mono (F2.run X.A X.stack s3 H3 ⟨.ref x :: us, []⟩ (.ref x :: us) (.ref x :: vs3) Q E hr I5.env0 (by
    have z := hb s3 (.ref x :: us) I5.kIn (by simpa using hl)
    simpa using z) (.cons rfl r) q4) fun rs s' hq' => ?_))
  cases rs with
  | error er => exact hp [] σ H3 s3 er s' I5 hq'
  | ok fl =>
    cases fl with
    | ret u => exact I5.after hq'
    | next => exact False.elim hq'
    | brk => exact False.elim hq'
    | cont => exact False.elim hq'
end L2


namespace L2
open PySem PySem.Spec PyProof.Rows PySem.W PySem.Calls NdefX
abbrev superCall (e : Expr) (p0 p1 apos pos : Pos) : Expr := .Call (.Attribute (.Call (.Name "super" p0) [] [] p1) "__init__" apos) [e] [] pos
abbrev nfOf (name qual : Str) (params : Arguments) (body : List Stmt) (scope : Scope) (cc cda : Addr) : NF := ⟨name, qual, params, body, scope, [("__class__", cc)], cda⟩
theorem fn_super {P : Program} {w : World} {K : Frag} {mg : Str → Option Value} {base : Heap} {k j : Nat} {f cda cc C D f2 : Addr} {name qual me : Str} {params : Arguments} {e : Expr} {p0 p1 apos pos p2 : Pos} {rest : List Stmt} {scope : Scope} {dV kV doc pm ct oc : Value} {an od : Option Addr}
    {osl : Array (Option Value)} {N ps ps2 : List Str} {sp sp2 : Sp} {fd2 : FuncData}
    (lk : K.lookup f = some ⟨oc, od, .func (fnX name qual params (.Expr (superCall e p0 p1 apos pos) p2 :: rest) scope [("__class__", cc)] dV kV doc pm an (.ref cda) ct), osl⟩) (hcd : codeIn K (.ref cda) qual = true) (S : NScope N ps ["__class__"] scope)
    (kx : SupK K P f cda cc C D f2 (fnX name qual params (.Expr (superCall e p0 p1 apos pos) p2 :: rest) scope [("__class__", cc)] dV kV doc pm an (.ref cda) ct))
    (har : ∃ ar, (params.posonlyargs ++ params.args).head? = some ar ∧ ar.arg = me) (hks : scope.names.lookup ("super" : Str) = some .globalImplicit) (hka : scope.names.lookup me = some .local) (hN : N[0]? = some me) (mS : mg "super" = none)
    (F2 : FnOk P w K mg base (CX P w) j f2 fd2 ps2 sp2) (hj : j ≤ k) (hb2 : Binds K fd2 ps2 [])
    (len : ∀ vs H Q E, sp vs H Q E → vs.length = ps.length)
    (hst : ∀ L, starEach (e :: []) (envF (nfOf name qual params (.Expr (superCall e p0 p1 apos pos) p2 :: rest) scope cc cda) f L) = (false, eval e (envF (nfOf name qual params (.Expr (superCall e p0 p1 apos pos) p2 :: rest) scope cc cda) f L)) :: starEach [] (envF (nfOf name qual params (.Expr (superCall e p0 p1 apos pos) p2 :: rest) scope cc cda) f L))
    (hev : ∀ L, ∃ pl, eval (superCall e p0 p1 apos pos) (envF (nfOf name qual params (.Expr (superCall e p0 p1 apos pos) p2 :: rest) scope cc cda) f L) = (do
      let ov ← attributeBase (.Call (.Name "super" p0) [] [] p1) "__init__" (envF (nfOf name qual params (.Expr (superCall e p0 p1 apos pos) p2 :: rest) scope cc cda) f L) (eval (.Call (.Name "super" p0) [] [] p1) (envF (nfOf name qual params (.Expr (superCall e p0 p1 apos pos) p2 :: rest) scope cc cda) f L))
      standAt apos.atName
      let (fv, first) ← holding [ov] (getMethod ov "__init__" pl)
      callWith pos fv first (backTo pos (starEach [e] (envF (nfOf name qual params (.Expr (superCall e p0 p1 apos pos) p2 :: rest) scope cc cda) f L))) []))
    (hin : ∀ L, interactive (envF (nfOf name qual params (.Expr (superCall e p0 p1 apos pos) p2 :: rest) scope cc cda) f L) = false)
    (hbody : ∀ (A : Around) (outer : List Env) (s : Shared) (H : Hp) (vs : List V) (Q : VK) (E : XK), Room k (A.deeper (envF (nfOf name qual params (.Expr (superCall e p0 p1 apos pos) p2 :: rest) scope cc cda) f s.heap.objs.size)) → sp vs H Q E →
      ∃ (x dx : Addr) (fs : List (Str × V)) (te : TE) (t2 : TS), (startF N vs [none])[0]? = some (some (.ref x)) ∧ H x = some (.ins C dx fs) ∧ PE (ncx (CX P w) P w K mg base N (nfOf name qual params (.Expr (superCall e p0 p1 apos pos) p2 :: rest) scope cc cda) f A outer s H E) e te ∧
        PSs (ncx (CX P w) P w K mg base N (nfOf name qual params (.Expr (superCall e p0 p1 apos pos) p2 :: rest) scope cc cda) f A outer s H E) rest t2 ∧
        te (startF N vs [none]) H fun y H1 => sp2 [.ref x, y] H1 (fun _ H2 => t2 { nx := fun _ H' => Q .non H', rt := Q } (startF N vs [none]) H2) E) :
    FnOk P w K mg base (CX P w) (k + 1) f (fnX name qual params (.Expr (superCall e p0 p1 apos pos) p2 :: rest) scope [("__class__", cc)] dV kV doc pm an (.ref cda) ct) ps sp := by
  refine ⟨len, fun A outer s H args us vs Q E hr e0 hb r hsp => ?_⟩
  have hl := len _ _ _ _ hsp
  have KX : K.In s.heap := e0.mod.kin.keeps fun b o e => (e0.bs b o e).1
  have lim : s.heap.NoLimit := e0.mod.nolimit.keeps fun b o e => (e0.bs b o e).1
  refine codeAny_call_function hr.depth (KX _ _ lk) rfl S.co S.gen rfl (codeRec_of KX hcd) (hb _ _ _ _ ?_)
  refine wpAny_newFunctionEnv S.nocell (fun ⟨n, _⟩ hy => S.par n (List.of_mem_zip hy).1) (fun h₁ hns hsb => ⟨lim.fresh _ hsb, ?_⟩) S.kind
  generalize hF : nfOf name qual params (.Expr (superCall e p0 p1 apos pos) p2 :: rest) scope cc cda = F at hbody hst hin hev
  have eb : F.body = .Expr (superCall e p0 p1 apos pos) p2 :: rest := by rw [← hF]
  have ee : ∀ L, PySem.W.envX qual scope L f (.ref cda) [("__class__", cc)] = envF F f L := fun L => by rw [← hF]
  show codeAny _ _ (.func (.Expr (superCall e p0 p1 apos pos) p2 :: rest) (PySem.W.envX qual scope s.heap.objs.size f (.ref cda) [("__class__", cc)])) _ _
  rw [ee]
  refine ks_codeAny_funcAt ?_
  have kp : ∀ b o, s.heap.get? b = some o → h₁.get? b = some o := fun b o e => hsb.extBut b o (Nat.ne_of_lt (Heap.lt_size e)) (Heap.get?_push_of_some _ e)
  have hr' : Room k (A.deeper (envF F f s.heap.objs.size)) := hr.deeper _
  obtain ⟨x, dx, fs, te, t2, hσ, hx, he, hrest, hte⟩ := hbody A outer s H vs Q E hr' hsp
  obtain ⟨oc3, od3, osl3, hcell⟩ := kx.cell
  have C0 : CellsAt F.cl ["__class__"] [none] s.heap H := by
    rw [← hF]
    refine ⟨rfl, fun y c hy => ?_, fun a b c h1 h2 => ?_, fun i y hy => ?_⟩
    · have hy' : c = cc := by
        by_cases q : y = "__class__"
        · subst q
          exact (Option.some.inj hy).symm
        · have z : List.lookup y [(("__class__" : Str), cc)] = none := by
            simp only [List.lookup, beq_eq_false_iff_ne.mpr q]
          rw [z] at hy
          cases hy
      subst hy'
      exact ⟨(e0.bs _ _ (e0.mod.kin _ _ hcell)).2, _, ⟨_, KX _ _ hcell, rfl⟩⟩
    · have one : ∀ y, List.lookup y [(("__class__" : Str), cc)] = some c → y = "__class__" := fun y hy => by
        by_cases q : y = "__class__"
        · exact q
        · have z : List.lookup y [(("__class__" : Str), cc)] = none := by
            simp only [List.lookup, beq_eq_false_iff_ne.mpr q]
          rw [z] at hy
          cases hy
      rw [one a h1, one b h2]
    · cases i with
      | zero =>
        cases hy
        exact ⟨cc, rfl, fun v z => by cases z⟩
      | succ i => cases hy
  have S' : NScope N ps ["__class__"] F.scope := by rw [← hF]; exact S
  have I : Inv (ncx (CX P w) P w K mg base N F f A outer s H E) [] (startF N vs [none]) H { s with heap := h₁, toks := s.toks + (ps.zip us).length } := inv_startN S' hr.hd e0 hl r C0 hns kp
  refine ks_wpAt_execs_cons (ks_wpAt_Expr_any (hi := hin _) ?_)
  obtain ⟨pl, hpl⟩ := hev s.heap.objs.size
  refine PySem.wpAt_mono (wpAt_super (pl := pl) (C := C) (D := D) (me := me) kx ⟨har, rfl, by rw [← hF]; rfl, by rw [← hF]; exact hks, by rw [← hF]; exact S.frk _ List.mem_cons_self, by rw [← hF]; exact hka, by rw [← hF]; exact S.kind, by rw [← hF]; rfl, hN, mS⟩ I hσ hx he F2 (hr'.mono hj) hb2 (passes_call (takes_of rfl rfl rfl rfl) fun cls d _ H h => h) (hst _) hte hpl) (fun v s' hv => ?_) fun _ _ h => h
  obtain ⟨v', H2, I2, _, q2⟩ := hv
  refine PySem.wpAt_of_wpAny (wpAny_mono (hrest.run [] s' _ H2 _ I2 q2) (fun fl s'' hs => ?_) fun e s' hs => hs)
  have fin : ∀ {σ' : L2.St} {H' : Hp} {v : V} {u : Value}, Inv (ncx (CX P w) P w K mg base N F f A outer s H E) [] σ' H' s'' → L2.RelV v u → Q v H' → CE outer P w H s Q u s'' :=
    fun {σ' H' v u} J rv q => ⟨v, H', J.os, J.bare, J.base, J.hok, rv, q⟩
  cases fl with
  | ret u =>
    obtain ⟨v, σ', H', J, rv, q⟩ := hs
    exact fin J rv q
  | next =>
    obtain ⟨σ', H', J, q⟩ := hs
    exact fin (v := V.non) (u := Value.none) J rfl q
  | brk =>
    obtain ⟨_, _, _, q⟩ := hs
    exact False.elim q
  | cont =>
    obtain ⟨_, _, _, q⟩ := hs
    exact False.elim q
end L2


namespace Toy
open PySem PySem.Spec L2 PyProof.Rows PySem.W
/-! ### the reader: its pieces, one at hand -/
abbrev sPiece : Stmt := inClass (top 29) 1
abbrev sIsAt : Stmt := inClass (top 29) 2
abbrev sRef : Stmt := inClass (top 29) 3
abbrev sTaken : Stmt := inClass (top 29) 4
abbrev sExp : Stmt := inClass (top 29) 5
abbrev sExpO : Stmt := inClass (top 29) 6
abbrev sExpL : Stmt := inClass (top 29) 8
/-- what is known of the class DatumReader -/
structure RCls (K : PySem.W.Frag) (C : Addr) : Prop where
  cl : Cls K C
  n1 : NoAttr K C "pieces"
  n2 : NoAttr K C "number"
  n3 : NoAttr K C "many_open"
  n4 : NoAttr K C "pairs"
  n5 : NoAttr K C "many_parts"
def rdF (L pr : Addr) (n m : Int) : List (Str × V) := [("pieces", .ref L), ("number", .int n), ("many_open", .int 0), ("pairs", .ref pr), ("many_parts", .int m)]
def Flat (d : PD) : Prop := d.2.1 = .non ∨ (∃ i, d.2.1 = .int i) ∨ ∃ z, d.2.1 = .str z
structure Rd (C CP r dr L pr : Addr) (xs : List V) (ps : List PD) (n m : Nat) (H : Hp) : Prop where
  h : H r = some (.ins C dr (rdF L pr (n : Int) (m : Int)))
  l : H L = some (.lst xs)
  p : Paired (PcAt H CP) xs ps
theorem Rd.up {C CP r dr L pr : Addr} {xs : List V} {ps : List PD} {n m : Nat} {H H' : Hp} (h : Rd C CP r dr L pr xs ps n m H) (s : Same H H') : Rd C CP r dr L pr xs ps n m H' := ⟨s _ _ h.h, s _ _ h.l, pcs_up h.p s⟩
theorem paired_at {α β : Type} {F : α → β → Prop} {xs : List α} {ys : List β} (h : Paired F xs ys) : ∀ {i : Nat} {y : β}, ys[i]? = some y → ∃ x, xs[i]? = some x ∧ F x y := by
  induction h with
  | nil => intro i y h; simp at h
  | cons a _ ih =>
    intro i y h
    cases i with
    | zero =>
      cases h
      exact ⟨_, rfl, a⟩
    | succ i =>
      obtain ⟨x, h1, h2⟩ := ih (by simpa using h)
      exact ⟨x, by simpa using h1, h2⟩
/-- another number, or another many_parts -/
theorem Rd.put {C CP r dr L pr : Addr} {xs : List V} {ps : List PD} {n m n' m' : Nat} {H : Hp} (h : Rd C CP r dr L pr xs ps n m H) (hc : C ≠ CP) : Rd C CP r dr L pr xs ps n' m' (upd H r (.ins C dr (rdF L pr (n' : Int) (m' : Int)))) := by
  refine ⟨upd_same, ?_, L2.Paired.mapP h.p fun v d z => ?_⟩
  · rw [upd_ne (ne_of h.l h.h (by intro z; cases z))]
    exact h.l
  · obtain ⟨x, dx, e, hx⟩ := z
    refine ⟨x, dx, e, ?_⟩
    rw [upd_ne (ne_of hx h.h (by intro z; cases z))]
    exact hx
def isAtB (d : PD) (t : Str) : Bool := (decide (d.1 = "word") || decide (d.1 = "mark")) && decide (d.2.1 = .str t)
def spPiece (C CP : Addr) : Sp := fun vs H Q _ => ∃ (r dr L pr : Addr) (xs : List V) (ps : List PD) (n m : Nat) (d : PD), vs = [.ref r] ∧ Rd C CP r dr L pr xs ps n m H ∧ ps[n]? = some d ∧ ∀ x dx, H x = some (.ins CP dx (pdF d)) → Q (.ref x) H
def spIsAt (C CP : Addr) : Sp := fun vs H Q _ => ∃ (r dr L pr : Addr) (xs : List V) (ps : List PD) (n m : Nat) (d : PD) (t : Str), vs = [.ref r, .str t] ∧ Rd C CP r dr L pr xs ps n m H ∧ ps[n]? = some d ∧ Flat d ∧ ∀ H', Same H H' → Q (.bl (isAtB d t)) H'
/-- an error at a place -/
def Bad (CT : Addr) (i : Int) (H : Hp) (E : XK) : Prop := ∀ H' dd, Same H H' → H' dd = some (.xd [("index", .int i)]) → E (.ref CT) (some dd) H'
theorem Bad.up {CT : Addr} {i : Int} {H H' : Hp} {E : XK} (h : Bad CT i H E) (s : Same H H') : Bad CT i H' E := fun H2 d s2 e => h H2 d (s.trans s2) e
def spRef (C CP CT : Addr) : Sp := fun vs H _ E => ∃ (r dr L pr : Addr) (xs : List V) (ps : List PD) (n m : Nat) (d : PD), vs = [.ref r] ∧ Rd C CP r dr L pr xs ps n m H ∧ ps[n]? = some d ∧ Bad CT (d.2.2.1 : Int) H E
def spTaken (C CP : Addr) : Sp := fun vs H Q _ => ∃ (r dr L pr : Addr) (xs : List V) (ps : List PD) (n m : Nat) (d : PD), vs = [.ref r] ∧ Rd C CP r dr L pr xs ps n m H ∧ ps[n]? = some d ∧ ∀ H' x dx, But r H H' → Rd C CP r dr L pr xs ps (n + 1) m H' → H' x = some (.ins CP dx (pdF d)) → Q (.ref x) H'
theorem scPi' : FnScope ["self"] ["self"] (defScope sPiece) := ⟨rfl, rfl, rfl, by decide +kernel, rfl, by decide +kernel, by decide +kernel⟩
theorem scIsAt : FnScope ["self", "told", "piece"] ["self", "told"] (defScope sIsAt) := ⟨rfl, rfl, rfl, by decide +kernel, rfl, by decide +kernel, by decide +kernel⟩
theorem scRef : FnScope ["self"] ["self"] (defScope sRef) := ⟨rfl, rfl, rfl, by decide +kernel, rfl, by decide +kernel, by decide +kernel⟩
theorem scTaken : FnScope ["self"] ["self"] (defScope sTaken) := ⟨rfl, rfl, rfl, by decide +kernel, rfl, by decide +kernel, by decide +kernel⟩
theorem dec_s (x y : Str) : decide (V.str x = V.str y) = decide (x = y) := decide_eq_decide.mpr ⟨fun z => V.str.inj z, fun z => by rw [z]⟩
section
variable {P : Program} {w : World} {K : PySem.W.Frag} {mg : Str → Option Value} {base : Heap}
theorem ok_piece {C CP f : Addr} {fd : FuncData} (F : Fun K "piece" "Reader.piece" sPiece f fd) (T : RCls K C) : FnOk P w K mg base CX0 1 f fd ["self"] (spPiece C CP) := by
  refine F.ok scPi' (fun vs H Q E h => ?_) (fun cdv A outer s H vs Q E hr h => ?_)
  · obtain ⟨r, dr, L, pr, xs, ps, n, m, d, rfl, _⟩ := h
    rfl
  · obtain ⟨r, dr, L, pr, xs, ps, n, m, d, rfl, hR, hd, q⟩ := h
    refine ⟨_, pss_one (ps_ret (pe_ix ix_list (pe_fld (pv 0) rfl) (pe_fld (pv 0) rfl) (fun _ _ => rfl))), ?_⟩
    obtain ⟨v, hv, x, dx, rfl, hx⟩ := paired_at hR.p hd
    exact ⟨_, rfl, r, C, dr, _, _, rfl, hR.h, T.cl, T.n1, rfl, _, rfl, r, C, dr, _, _, rfl, hR.h, T.cl, T.n2, rfl, L, xs, _, .ref x, rfl, rfl, SqL.of hR.l, atI_nat hv, q x dx hx⟩
theorem ok_isAt {C CP f fP fP' : Addr} {fd fdP : FuncData} (F : Fun K "is_at" "Reader.is_at" sIsAt f fd) (T : RCls K C) (TP : PCls K CP fP') (mP : Meth K C "piece" fP) (GP : FnOk P w K mg base CX0 1 fP fdP ["self"] (spPiece C CP)) (bP : Binds K fdP ["self"] []) : FnOk P w K mg base CX0 2 f fd ["self", "told"] (spIsAt C CP) := by
  refine F.ok scIsAt (fun vs H Q E h => ?_) (fun cdv A outer s H vs Q E hr h => ?_)
  · obtain ⟨r, dr, L, pr, xs, ps, n, m, d, t, rfl, _⟩ := h
    rfl
  · obtain ⟨r, dr, L, pr, xs, ps, n, m, d, t, rfl, hR, hd, hfl, q⟩ := h
    refine ⟨_, pss_cons (ps_set (i := 2) scIsAt.nd rfl (Or.inl rfl) (pe_meth0 (pv 0) T.cl mP GP hr bP .nil pass0))
      (pss_one (ps_ret (pe_and (pe_cmpR op_in_seq (pe_fld (pv 2) rfl) (pe_tup (pa_cons pe_str (pa_cons pe_str pa_nil))) (by rfl)) (pe_one (pe_cmpR op_eq (pe_fld (pv 2) rfl) (pv 1) (nomark _)))))), ?_⟩
    refine asg_run ⟨_, rfl, r, dr, _, rfl, hR.h, rfl, r, dr, L, pr, xs, ps, n, m, d, rfl, hR, hd, fun x dx hx => ret_run ⟨_, rfl, x, CP, dx, _, .str d.1, rfl, hx, TP.cl, TP.nk, rfl, few (by show 2 ≤ 1000; decide), fun Tt nT => ?_⟩⟩
    have s1 : Same H (upd H Tt (.tup [.str "word", .str "mark"])) := same_new same_id nT
    refine ⟨Tt, _, rfl, .inr (SqT.of upd_same), rfl, by decide +kernel, _, rfl, ?_⟩
    generalize upd H Tt (.tup [.str "word", .str "mark"]) = H2 at s1 ⊢
    have e : inV (.str d.1) [V.str "word", V.str "mark"] = (decide (d.1 = "word") || decide (d.1 = "mark")) := by
      have z := inV_strs d.1 ["word", "mark"]
      rw [show ([V.str "word", V.str "mark"] : List V) = (["word", "mark"] : List Str).map V.str from rfl, z, Bool.eq_iff_iff]
      simp
    show (if inV (.str d.1) [V.str "word", V.str "mark"] = true then _ else _)
    rw [e]
    unfold isAtB at q
    refine ite2 (fun c => ?_) (fun c => ?_)
    · rw [c, Bool.true_and] at q
      refine ⟨_, rfl, x, CP, dx, _, d.2.1, rfl, s1 _ _ hx, TP.cl, TP.nt, rfl, _, rfl, ?_, q H2 s1⟩
      rcases hfl with e | ⟨i, e⟩ | ⟨z, e⟩ <;> rw [e] <;> rfl
    · rw [Bool.not_eq_true] at c
      rw [c, Bool.false_and] at q
      exact q H2 s1
theorem ok_ref {C CP CT f fP fP' : Addr} {fd fdP : FuncData} (F : Fun K "refuse" "Reader.refuse" sRef f fd) (T : RCls K C) (TP : PCls K CP fP') (T1 : Cl1 K CT "index") (R1 : ClR K CT) (mT : mg "InvalidText" = some (.ref CT)) (mP : Meth K C "piece" fP) (GP : FnOk P w K mg base CX0 1 fP fdP ["self"] (spPiece C CP)) (bP : Binds K fdP ["self"] []) : FnOk P w K mg base (L2.CX P w) 2 f fd ["self"] (spRef C CP CT) := by
  refine F.okX (k := 1) scRef (fun vs H Q E h => ?_) (fun cdv A outer s H vs Q E hr h => ?_)
  · obtain ⟨r, dr, L, pr, xs, ps, n, m, d, rfl, _⟩ := h
    rfl
  · obtain ⟨r, dr, L, pr, xs, ps, n, m, d, rfl, hR, hd, q⟩ := h
    have tk : Takes (cxOf (L2.CX P w) P w K mg base ["self"] "Reader.refuse" (defScope sRef) f cdv A outer s H E) (fun cls d _ H' => E cls d H') := takes_of rfl rfl rfl rfl
    refine ⟨_, pss_one (ps_raise rfl tk (pmk_x1 T1 R1 hr mT (by rfl) (pa_cons (pe_fld (pe_meth0 (pv 0) T.cl mP GP hr bP .nil pass0) rfl) pa_nil))), ?_⟩
    exact ⟨_, rfl, r, dr, _, rfl, hR.h, rfl, r, dr, L, pr, xs, ps, n, m, d, rfl, hR, hd, fun x dx hx => ⟨x, CP, dx, _, .int (d.2.2.1 : Int), rfl, hx, TP.cl, TP.na, rfl, _, rfl, fun dd ndd => q _ dd (same_new same_id ndd) upd_same⟩⟩
theorem ok_taken {C CP f : Addr} {fd : FuncData} (F : Fun K "taken" "Reader.taken" sTaken f fd) (T : RCls K C) (hne : C ≠ CP) : FnOk P w K mg base CX0 1 f fd ["self"] (spTaken C CP) := by
  refine F.ok scTaken (fun vs H Q E h => ?_) (fun cdv A outer s H vs Q E hr h => ?_)
  · obtain ⟨r, dr, L, pr, xs, ps, n, m, d, rfl, _⟩ := h
    rfl
  · obtain ⟨r, dr, L, pr, xs, ps, n, m, d, rfl, hR, hd, q⟩ := h
    refine ⟨_, pss_cons (ps_fldaug (pv 0) pe_int in_add) (pss_one (ps_ret (pe_ix ix_list (pe_fld (pv 0) rfl) (pe_op op_sub (pe_fld (pv 0) rfl) pe_int) (fun _ _ => rfl)))), ?_⟩
    refine ⟨_, rfl, r, C, dr, _, .int (n : Int), rfl, hR.h, T.cl, T.n2, rfl, _, _, rfl, rfl, dr, _, hR.h, by show 5 < 1000; decide, ?_⟩
    have e : putF "number" (.int ((n : Int) + 1)) (rdF L pr (n : Int) (m : Int)) = rdF L pr ((n + 1 : Nat) : Int) (m : Int) := by
      push_cast
      rfl
    have hR2 : Rd C CP r dr L pr xs ps (n + 1) m (upd H r (.ins C dr (putF "number" (.int ((n : Int) + 1)) (rdF L pr (n : Int) (m : Int))))) := by
      rw [e]
      exact hR.put hne
    have hb : But r H (upd H r (.ins C dr (putF "number" (.int ((n : Int) + 1)) (rdF L pr (n : Int) (m : Int))))) := But.refl.upd
    dsimp only
    generalize upd H r (.ins C dr (putF "number" (.int ((n : Int) + 1)) (rdF L pr (n : Int) (m : Int)))) = H2 at hR2 hb ⊢
    obtain ⟨v, hv, x, dx, rfl, hx⟩ := paired_at hR2.p hd
    exact ret_run ⟨_, rfl, r, C, dr, _, _, rfl, hR2.h, T.cl, T.n1, rfl, _, rfl, r, C, dr, _, .int ((n + 1 : Nat) : Int), rfl, hR2.h, T.cl, T.n2, rfl, _, _, rfl, rfl, L, xs, _, .ref x, rfl, rfl, SqL.of hR2.l, by
      show atI xs (((n + 1 : Nat) : Int) - 1) = _
      rw [show ((n + 1 : Nat) : Int) - 1 = (n : Int) by omega]
      exact atI_nat hv, q H2 x dx hb hR2 hx⟩
end
end Toy


namespace Toy
open PySem PySem.Spec L2 PyProof.Rows PySem.W
def leafOf (z : Str) : Option V := if z = "null" then some .non else if z = "yes" then some (.bl true) else if z = "no" then some (.bl false) else none
def PdOk (d : PD) : Prop := Flat d ∧ (d.1 = "word" → ∃ z, d.2.1 = .str z)
def leafR (d : PD) : Option V := if d.1 = "leaf" then some d.2.1 else if d.1 = "word" then (match d.2.1 with
  | .str z => leafOf z
  | _ => none) else none
def spExp (C CP CT : Addr) : Sp := fun vs H Q E => ∃ (r dr L pr : Addr) (xs : List V) (ps : List PD) (n m : Nat) (d : PD) (t : Str), vs = [.ref r, .str t] ∧ Rd C CP r dr L pr xs ps n m H ∧ ps[n]? = some d ∧ PdOk d ∧
  (isAtB d t = true → ∀ H' x, But r H H' → Rd C CP r dr L pr xs ps (n + 1) m H' → Q (.ref x) H') ∧ (isAtB d t = false → Bad CT (d.2.2.1 : Int) H E)
def spExpO (C CP CT : Addr) : Sp := fun vs H Q E => ∃ (r dr L pr o : Addr) (kvs : List (Key × V)) (xs : List V) (ps : List PD) (n m : Nat) (d : PD), vs = [.ref r, .str "word", .ref o] ∧ Rd C CP r dr L pr xs ps n m H ∧ ps[n]? = some d ∧ PdOk d ∧ H o = some (.dK kvs) ∧
  (∀ z, d.1 = "word" → d.2.1 = .str z → valV kvs (Sum.inr z) = none → ∀ H', But r H H' → Rd C CP r dr L pr xs ps (n + 1) m H' → Q (.str z) H') ∧ ((d.1 ≠ "word" ∨ ∃ z, d.2.1 = .str z ∧ valV kvs (Sum.inr z) ≠ none) → Bad CT (d.2.2.1 : Int) H E)
def spExpL (C CP CT : Addr) : Sp := fun vs H Q E => ∃ (r dr L pr : Addr) (xs : List V) (ps : List PD) (n m : Nat) (d : PD), vs = [.ref r] ∧ Rd C CP r dr L pr xs ps n m H ∧ ps[n]? = some d ∧ PdOk d ∧
  (∀ v, leafR d = some v → ∀ H', But r H H' → Rd C CP r dr L pr xs ps (n + 1) m H' → Q v H') ∧ (leafR d = none → Bad CT (d.2.2.1 : Int) H E)
theorem scExp : FnScope ["self", "told"] ["self", "told"] (defScope sExp) := ⟨rfl, rfl, rfl, by decide +kernel, rfl, by decide +kernel, by decide +kernel⟩
theorem scExpO : FnScope ["self", "kind", "others"] ["self", "kind", "others"] (defScope sExpO) := ⟨rfl, rfl, rfl, by decide +kernel, rfl, by decide +kernel, by decide +kernel⟩
theorem scExpL : FnScope ["self", "piece"] ["self"] (defScope sExpL) := ⟨rfl, rfl, rfl, by decide +kernel, rfl, by decide +kernel, by decide +kernel⟩
section
variable {P : Program} {w : World} {K : PySem.W.Frag} {mg : Str → Option Value} {base : Heap}
theorem ok_exp {C CP CT f fA fR fT : Addr} {fd fdA fdR fdT : FuncData} (F : Fun K "expect" "Reader.expect" sExp f fd) (T : RCls K C)
    (mA : Meth K C "is_at" fA) (GA : FnOk P w K mg base CX0 2 fA fdA ["self", "told"] (spIsAt C CP)) (bA : Binds K fdA ["self", "told"] [])
    (mR : Meth K C "refuse" fR) (GR : FnOk P w K mg base (L2.CX P w) 2 fR fdR ["self"] (spRef C CP CT)) (bR : Binds K fdR ["self"] [])
    (mT : Meth K C "taken" fT) (GT : FnOk P w K mg base CX0 1 fT fdT ["self"] (spTaken C CP)) (bT : Binds K fdT ["self"] []) : FnOk P w K mg base (L2.CX P w) 3 f fd ["self", "told"] (spExp C CP CT) := by
  refine F.okX (k := 2) scExp (fun vs H Q E h => ?_) (fun cdv A outer s H vs Q E hr h => ?_)
  · obtain ⟨r, dr, L, pr, xs, ps, n, m, d, t, rfl, _⟩ := h
    rfl
  · obtain ⟨r, dr, L, pr, xs, ps, n, m, d, t, rfl, hR, hd, hok, q1, q0⟩ := h
    have hr1 := hr.mono (show 1 ≤ 2 by decide)
    refine ⟨_, pss_cons (ps_if (pt_not (pt_val (pe_meth (pv 0) T.cl mA GA hr bA .nil pass0 (pa_cons (pv 1) pa_nil)))) (pss_one (ps_expr (pe_meth0 (E := E) (pv 0) T.cl mR GR hr bR .nil (passes_call (takes_of rfl rfl rfl rfl) fun cls d _ H h => h)))) pss_nil)
      (pss_one (ps_ret (pe_meth0 (pv 0) T.cl mT GT hr1 bT .nil pass0))), ?_⟩
    refine ⟨_, rfl, r, dr, _, rfl, hR.h, rfl, _, rfl, r, dr, L, pr, xs, ps, n, m, d, t, rfl, hR, hd, hok.1, fun H1 s1 => ⟨_, rfl, ?_⟩⟩
    have hR1 := hR.up s1
    cases hb : isAtB d t with
    | false =>
      refine iteT ?_
      exact ⟨_, rfl, r, dr, _, rfl, hR1.h, rfl, r, dr, L, pr, xs, ps, n, m, d, rfl, hR1, hd, (q0 hb).up s1⟩
    | true =>
      refine iteF (nx_run ?_)
      dsimp only
      exact (ret_run ⟨_, rfl, r, dr, _, rfl, hR1.h, rfl, r, dr, L, pr, xs, ps, n, m, d, rfl, hR1, hd, fun H2 x dx b2 hR2 _ => q1 hb H2 x ((Same.but s1 r).trans b2) hR2⟩)
theorem ok_expO {C CP CT f fP fP' fR fT : Addr} {fd fdP fdR fdT : FuncData} (F : Fun K "expect_other" "Reader.expect_other" sExpO f fd) (T : RCls K C) (TP : PCls K CP fP')
    (mP : Meth K C "piece" fP) (GP : FnOk P w K mg base CX0 1 fP fdP ["self"] (spPiece C CP)) (bP : Binds K fdP ["self"] [])
    (mR : Meth K C "refuse" fR) (GR : FnOk P w K mg base (L2.CX P w) 2 fR fdR ["self"] (spRef C CP CT)) (bR : Binds K fdR ["self"] [])
    (mT : Meth K C "taken" fT) (GT : FnOk P w K mg base CX0 1 fT fdT ["self"] (spTaken C CP)) (bT : Binds K fdT ["self"] []) : FnOk P w K mg base (L2.CX P w) 3 f fd ["self", "kind", "others"] (spExpO C CP CT) := by
  refine F.okX (k := 2) scExpO (fun vs H Q E h => ?_) (fun cdv A outer s H vs Q E hr h => ?_)
  · obtain ⟨r, dr, L, pr, o, kvs, xs, ps, n, m, d, rfl, _⟩ := h
    rfl
  · obtain ⟨r, dr, L, pr, o, kvs, xs, ps, n, m, d, rfl, hR, hd, hok, ho, q1, q0⟩ := h
    have hu := hu_of hr
    have hr1 := hr.mono (show 1 ≤ 2 by decide)
    refine ⟨_, pss_cons (ps_if (PW.pt (pw_or (pt_cmpR op_ne (pe_fld (pe_meth0 (pv 0) T.cl mP GP hr1 bP .nil pass0) rfl) (pv 1) (nomark _)) (pw_or1 (pt_cmp (pc_din hu (pe_fld (pe_meth0 (pv 0) T.cl mP GP hr1 bP .nil pass0) rfl) (pv 2)) rfl))))
        (pss_one (ps_expr (pe_meth0 (E := E) (pv 0) T.cl mR GR hr bR .nil (passes_call (takes_of rfl rfl rfl rfl) fun cls d _ H h => h)))) pss_nil)
      (pss_one (ps_ret (pe_fld (pe_meth0 (pv 0) T.cl mT GT hr1 bT .nil pass0) rfl))), ?_⟩
    have bad : (d.1 ≠ "word" ∨ ∃ z, d.2.1 = .str z ∧ valV kvs (Sum.inr z) ≠ none) → ∀ D' : Ends, tDrop (tMeth C "refuse" (spRef C CP CT) [] E (tVar 0) tNil) D' [some (.ref r), some (.str "word"), some (.ref o)] H := fun hb D' =>
      ⟨_, rfl, r, dr, _, rfl, hR.h, rfl, r, dr, L, pr, xs, ps, n, m, d, rfl, hR, hd, q0 hb⟩
    refine ifs_val (v := decide (d.1 ≠ "word") || (match d.2.1 with | .str z => (valV kvs (Sum.inr z)).isSome | _ => false)) (fun Q k => tor_val (b := decide (d.1 ≠ "word")) (c := (match d.2.1 with | .str z => (valV kvs (Sum.inr z)).isSome | _ => false)) (fun Q k => ?_) (fun hw Q k => ?_) k) (fun hb => ?_) (fun hb => nxt_run ?_)
    · refine ⟨_, rfl, r, dr, _, rfl, hR.h, rfl, r, dr, L, pr, xs, ps, n, m, d, rfl, hR, hd, fun x dx hx => ⟨x, CP, dx, _, .str d.1, rfl, hx, TP.cl, TP.nk, rfl, _, rfl, rfl, _, rfl, ?_⟩⟩
      rw [dec_s]
      rw [show (!decide (d.1 = "word")) = decide (d.1 ≠ "word") by simp]
      exact k
    · have hw' : d.1 = "word" := by simpa using hw
      obtain ⟨z, hz⟩ := hok.2 hw'
      rw [hz] at k
      refine ⟨_, rfl, r, dr, _, rfl, hR.h, rfl, r, dr, L, pr, xs, ps, n, m, d, rfl, hR, hd, fun x dx hx => ⟨x, CP, dx, _, d.2.1, rfl, hx, TP.cl, TP.nt, rfl, _, rfl, o, _, rfl, by rw [hz]; exact DGet.k (k := Sum.inr z) ho, _, rfl, k⟩⟩
    · refine bad ?_ _
      rw [Bool.or_eq_true] at hb
      rcases hb with h | h
      · exact .inl (of_decide_eq_true h)
      · by_cases hw' : d.1 = "word"
        · obtain ⟨z, hz⟩ := hok.2 hw'
          rw [hz] at h
          exact .inr ⟨z, hz, fun e => by simp [e] at h⟩
        · exact .inl hw'
    · rw [Bool.or_eq_false_iff] at hb
      have hw' : d.1 = "word" := by simpa using hb.1
      obtain ⟨z, hz⟩ := hok.2 hw'
      have hv : valV kvs (Sum.inr z) = none := by
        have h := hb.2
        rw [hz] at h
        simpa using h
      exact ret_run ⟨_, rfl, r, dr, _, rfl, hR.h, rfl, r, dr, L, pr, xs, ps, n, m, d, rfl, hR, hd, fun H2 x dx b2 hR2 hx => ⟨x, CP, dx, _, d.2.1, rfl, hx, TP.cl, TP.nt, rfl, by rw [hz]; exact q1 z hw' hz hv H2 b2 hR2⟩⟩
theorem ok_expL {C CP CT f fP fP' fR fT aL : Addr} {fd fdP fdR fdT : FuncData} (F : Fun K "expect_leaf" "Reader.expect_leaf" sExpL f fd) (T : RCls K C) (TP : PCls K CP fP')
    (mP : Meth K C "piece" fP) (GP : FnOk P w K mg base CX0 1 fP fdP ["self"] (spPiece C CP)) (bP : Binds K fdP ["self"] [])
    (mR : Meth K C "refuse" fR) (GR : FnOk P w K mg base (L2.CX P w) 2 fR fdR ["self"] (spRef C CP CT)) (bR : Binds K fdR ["self"] [])
    (mT : Meth K C "taken" fT) (GT : FnOk P w K mg base CX0 1 fT fdT ["self"] (spTaken C CP)) (bT : Binds K fdT ["self"] [])
    (mL : mg "LEAVES" = some (.ref aL)) (LD : ∃ es n, KDict K w aL es n) (LS : ∀ z v, leafOf z = some v → KDct K w aL z v) (LN : ∀ z, leafOf z = none → PySem.W.nsIn K aL z = some none) : FnOk P w K mg base (L2.CX P w) 3 f fd ["self"] (spExpL C CP CT) := by
  obtain ⟨es, nn, LD⟩ := LD
  refine F.okX (k := 2) scExpL (fun vs H Q E h => ?_) (fun cdv A outer s H vs Q E hr h => ?_)
  · obtain ⟨r, dr, L, pr, xs, ps, n, m, d, rfl, _⟩ := h
    rfl
  · obtain ⟨r, dr, L, pr, xs, ps, n, m, d, rfl, hR, hd, hok, q1, q0⟩ := h
    have hu := hu_of hr
    have hr1 := hr.mono (show 1 ≤ 2 by decide)
    have LI : ∀ z, ∃ u, PySem.W.nsIn K aL z = some u ∧ u.isSome = (leafOf z).isSome := fun z => by
      cases h : leafOf z with
      | none => exact ⟨none, LN z h, rfl⟩
      | some v =>
        obtain ⟨_, _, u, _, _, e, _⟩ := LS z v h
        exact ⟨some u, e, rfl⟩
    refine ⟨_, pss_cons (ps_set (i := 1) scExpL.nd rfl (Or.inl rfl) (pe_meth0 (pv 0) T.cl mP GP hr1 bP .nil pass0))
      (pss_cons (ps_if (pt_cmpR op_eq (pe_fld (pv 1) rfl) pe_str (nomark _)) (pss_one (ps_ret (pe_fld (pe_meth0 (pv 0) T.cl mT GT hr1 bT .nil pass0) rfl))) pss_nil)
      (pss_cons (ps_if (PW.pt (pw_or (pt_cmpR op_ne (pe_fld (pv 1) rfl) pe_str (nomark _)) (pw_or1 (pt_cmpR (op_notIn_kd LD) (pe_fld (pv 1) rfl) (pe_glob (v := .ref aL) (by rfl) mL rfl) (by rfl)))))
        (pss_one (ps_expr (pe_meth0 (E := E) (pv 0) T.cl mR GR hr bR .nil (passes_call (takes_of rfl rfl rfl rfl) fun cls d _ H h => h)))) pss_nil)
      (pss_one (ps_ret (pe_ix ix_kdict (pe_glob (v := .ref aL) (by rfl) mL rfl) (pe_fld (pe_meth0 (pv 0) T.cl mT GT hr1 bT .nil pass0) rfl) (fun _ _ => rfl)))))), ?_⟩
    refine asg_run ⟨_, rfl, r, dr, _, rfl, hR.h, rfl, r, dr, L, pr, xs, ps, n, m, d, rfl, hR, hd, fun x dx hx => ?_⟩
    dsimp only
    refine ifs_val (v := decide (d.1 = "leaf")) (fun Q k => ⟨_, rfl, x, CP, dx, _, .str d.1, rfl, hx, TP.cl, TP.nk, rfl, rfl, _, rfl, by rw [dec_s]; exact k⟩) (fun hb => ?_) (fun hb => nxt_run ?_)
    · have e : leafR d = some d.2.1 := by
        unfold leafR
        rw [if_pos (of_decide_eq_true hb)]
      exact ret_run ⟨_, rfl, r, dr, _, rfl, hR.h, rfl, r, dr, L, pr, xs, ps, n, m, d, rfl, hR, hd, fun H2 x2 dx2 b2 hR2 hx2 => ⟨x2, CP, dx2, _, d.2.1, rfl, hx2, TP.cl, TP.nt, rfl, q1 _ e H2 b2 hR2⟩⟩
    have nl : ¬ d.1 = "leaf" := of_decide_eq_false hb
    refine ifs_val (v := decide (leafR d = none)) (fun Q k => tor_val (b := decide (d.1 ≠ "word")) (c := decide (leafR d = none)) (fun Q k => ?_) (fun hw Q k => ?_) ?_) (fun hb => ?_) (fun hb => nxt_run ?_)
    · refine ⟨_, rfl, x, CP, dx, _, .str d.1, rfl, hx, TP.cl, TP.nk, rfl, rfl, _, rfl, ?_⟩
      rw [dec_s]
      rw [show (!decide (d.1 = "word")) = decide (d.1 ≠ "word") by simp]
      exact k
    · have hw' : d.1 = "word" := by simpa using hw
      obtain ⟨z, hz⟩ := hok.2 hw'
      obtain ⟨u, hu1, hu2⟩ := LI z
      have e : leafR d = leafOf z := by
        unfold leafR
        rw [if_neg nl, if_pos hw', hz]
      rw [e] at k
      refine ⟨_, rfl, x, CP, dx, _, d.2.1, rfl, hx, TP.cl, TP.nt, rfl, z, u, hz, rfl, hu1, _, rfl, ?_⟩
      rw [hu2]
      rw [show (!(leafOf z).isSome) = decide (leafOf z = none) by cases leafOf z <;> rfl]
      exact k
    · by_cases hw' : d.1 = "word"
      · rw [decide_eq_false (fun z => z hw'), Bool.false_or]
        exact k
      · have e : leafR d = none := by
          unfold leafR
          rw [if_neg nl, if_neg hw']
        rw [e] at k ⊢
        rw [decide_eq_true hw']
        exact k
    · exact ⟨_, rfl, r, dr, _, rfl, hR.h, rfl, r, dr, L, pr, xs, ps, n, m, d, rfl, hR, hd, q0 (of_decide_eq_true hb)⟩
    · have hne := of_decide_eq_false hb
      have hw' : d.1 = "word" := by
        by_cases hw' : d.1 = "word"
        · exact hw'
        · refine absurd ?_ hne
          unfold leafR
          rw [if_neg nl, if_neg hw']
      obtain ⟨z, hz⟩ := hok.2 hw'
      have e : leafR d = leafOf z := by
        unfold leafR
        rw [if_neg nl, if_pos hw', hz]
      obtain ⟨v, hv⟩ : ∃ v, leafOf z = some v := by
        rw [e] at hne
        exact Option.ne_none_iff_exists'.mp hne
      exact ret_run ⟨_, rfl, r, dr, _, rfl, hR.h, rfl, r, dr, L, pr, xs, ps, n, m, d, rfl, hR, hd, fun H2 x2 dx2 b2 hR2 hx2 => ⟨x2, CP, dx2, _, d.2.1, rfl, hx2, TP.cl, TP.nt, rfl, aL, z, v, rfl, hz, LS z v hv, q1 v (e.trans hv) H2 b2 hR2⟩⟩
end
end Toy


namespace Toy
open PySem PySem.Spec L2 PyProof.Rows PySem.W
/-! ### data, and what a row of pieces tells -/
inductive D where
  | non
  | bl (b : Bool)
  | int (i : Int)
  | str (x : Str)
  | lst (ds : List D)
  | dct (ks : List Str) (ds : List D)
def kvOf (ks : List Str) (us : List V) : List (Key × V) := (ks.zip us).map fun p => (Sum.inr p.1, p.2)
/-- v is the datum, of at most n levels of lists and dicts -/
def Dv : Nat → Hp → V → D → Prop
  | _, _, v, .non => v = .non
  | _, _, v, .bl b => v = .bl b
  | _, _, v, .int i => v = .int i
  | _, _, v, .str x => v = .str x
  | 0, _, _, .lst _ => False
  | 0, _, _, .dct _ _ => False
  | n + 1, H, v, .lst ds => ∃ a xs, v = .ref a ∧ H a = some (.lst xs) ∧ Paired (fun x d => Dv n H x d) xs ds
  | n + 1, H, v, .dct ks ds => ∃ a us, v = .ref a ∧ H a = some (.dK (kvOf ks us)) ∧ us.length = ks.length ∧ ks.Nodup ∧ Paired (fun x d => Dv n H x d) us ds
theorem Dv.mono {H H' : Hp} : ∀ {n m : Nat} {v : V} {d : D}, (∀ b o, (∃ xs, o = .lst xs) ∨ (∃ kv, o = .dK kv) → H b = some o → H' b = some o) → n ≤ m → Dv n H v d → Dv m H' v d := by
  intro n
  induction n with
  | zero =>
    intro m v d s _ h
    cases d with
    | lst ds => simp [Dv] at h
    | dct ks ds => simp [Dv] at h
    | non => cases m <;> simpa [Dv] using h
    | bl b => cases m <;> simpa [Dv] using h
    | int i => cases m <;> simpa [Dv] using h
    | str x => cases m <;> simpa [Dv] using h
  | succ n ih =>
    intro m v d s hm h
    obtain ⟨m, rfl⟩ : ∃ k, m = k + 1 := ⟨m - 1, by omega⟩
    have hnm : n ≤ m := by omega
    cases d with
    | lst ds =>
      obtain ⟨a, xs, h1, h2, h4⟩ := (show ∃ a xs, v = .ref a ∧ H a = some (.lst xs) ∧ Paired (fun x d => Dv n H x d) xs ds from by simpa [Dv] using h)
      show Dv (m + 1) H' v (.lst ds)
      simp only [Dv]
      exact ⟨a, xs, h1, s _ _ (.inl ⟨_, rfl⟩) h2, L2.Paired.mapP h4 fun _ _ z => ih s hnm z⟩
    | dct ks ds =>
      obtain ⟨a, us, h1, h2, h4, h5, h7⟩ := (show ∃ a us, v = .ref a ∧ H a = some (.dK (kvOf ks us)) ∧ us.length = ks.length ∧ ks.Nodup ∧ Paired (fun x d => Dv n H x d) us ds from by simpa only [Dv] using h)
      show Dv (m + 1) H' v (.dct ks ds)
      simp only [Dv]
      exact ⟨a, us, h1, s _ _ (.inr ⟨_, rfl⟩) h2, h4, h5, L2.Paired.mapP h7 fun _ _ z => ih s hnm z⟩
    | non => simpa [Dv] using h
    | bl b => simpa [Dv] using h
    | int i => simpa [Dv] using h
    | str x => simpa [Dv] using h
def isLf (v : V) : Bool := match v with
  | .non => true
  | .bl _ => true
  | .int i => decide (i.natAbs ≤ 10 ^ 30)
  | .str x => leafT x
  | _ => false
def dOf : V → D
  | .bl b => .bl b
  | .int i => .int i
  | .str x => .str x
  | _ => .non
theorem dOf_dv {v : V} (h : isLf v = true) (n : Nat) (H : Hp) : Dv n H v (dOf v) := by
  unfold isLf at h
  split at h <;> first | (cases n <;> simp [Dv, dOf]; done) | cases h
/-! the pieces, as far as a datum is concerned -/
inductive Tk where
  | mark (c : Nat)
  | word (w : Str)
  | leaf (v : V)
  | bad
  | fin
inductive Res (α : Type) where
  | ok (a : α) (n m : Nat)
  | err (i : Nat)
def tkA (ts : List (Tk × Nat)) (n : Nat) : Tk := match ts[n]? with
  | some p => p.1
  | none => .bad
def bgA (ts : List (Tk × Nat)) (n : Nat) : Nat := match ts[n]? with
  | some p => p.2
  | none => 0
def isMk (c : Nat) : Tk → Bool
  | .mark d => decide (d = c)
  | _ => false
def leafK : Tk → Option V
  | .leaf v => some v
  | .word w => leafOf w
  | _ => none
def loopL (p : Nat → Nat → Res D) (ts : List (Tk × Nat)) : Nat → Nat → Nat → List D → Res (List D)
  | 0, n, _, _ => .err (bgA ts n)
  | j + 1, n, m, acc =>
    if isMk 93 (tkA ts n) = true then .ok acc n m
    else if acc.isEmpty = true ∨ isMk 59 (tkA ts n) = true then
      match p (if acc.isEmpty = true then n else n + 1) m with
      | .err i => .err i
      | .ok t n2 m2 => loopL p ts j n2 m2 (acc ++ [t])
    else .err (bgA ts n)
def loopD (p : Nat → Nat → Res D) (ts : List (Tk × Nat)) : Nat → Nat → Nat → List Str → List D → Res (List Str × List D)
  | 0, n, _, _, _ => .err (bgA ts n)
  | j + 1, n, m, ks, acc =>
    if isMk 125 (tkA ts n) = true then .ok (ks, acc) n m
    else if ks.isEmpty = true ∨ isMk 59 (tkA ts n) = true then
      let n1 := if ks.isEmpty = true then n else n + 1
      match tkA ts n1 with
      | .word w =>
        if w ∈ ks then .err (bgA ts n1)
        else if isMk 58 (tkA ts (n1 + 1)) = true then
          match p (n1 + 2) m with
          | .err i => .err i
          | .ok t n2 m2 => loopD p ts j n2 m2 (ks ++ [w]) (acc ++ [t])
        else .err (bgA ts (n1 + 1))
      | _ => .err (bgA ts n1)
    else .err (bgA ts n)
def partA (ts : List (Tk × Nat)) : Nat → Nat → Nat → Res D
  | 0, n, _ => .err (bgA ts n)
  | k + 1, n, m =>
    if m = 1000 then .err (bgA ts n)
    else if isMk 91 (tkA ts n) = true then
      match loopL (partA ts k) ts (ts.length + 1) (n + 1) (m + 1) [] with
      | .err i => .err i
      | .ok ds n2 m2 => .ok (.lst ds) (n2 + 1) m2
    else if isMk 123 (tkA ts n) = true then
      match loopD (partA ts k) ts (ts.length + 1) (n + 1) (m + 1) [] [] with
      | .err i => .err i
      | .ok (ks, ds) n2 m2 => .ok (.dct ks ds) (n2 + 1) m2
    else match leafK (tkA ts n) with
      | some v => .ok (dOf v) (n + 1) (m + 1)
      | none => .err (bgA ts n)
def datumA (ts : List (Tk × Nat)) : Res D := match partA ts 60 0 0 with
  | .err i => .err i
  | .ok t n m => match tkA ts n with
    | .fin => .ok t n m
    | _ => .err (bgA ts n)
/-- only the last piece is a bad one, or the end -/
def Wf (ts : List (Tk × Nat)) : Prop := ts ≠ [] ∧ ∀ n, (match tkA ts n with | .bad => False | .fin => False | _ => True) → n + 1 < ts.length
theorem wf_mk {ts : List (Tk × Nat)} (h : Wf ts) {c n : Nat} (e : isMk c (tkA ts n) = true) : n + 1 < ts.length := by
  refine h.2 n ?_
  cases he : tkA ts n with
  | mark d => trivial
  | word w => trivial
  | leaf v => trivial
  | bad => rw [he] at e; cases e
  | fin => rw [he] at e; cases e
theorem wf_leaf {ts : List (Tk × Nat)} (h : Wf ts) {n : Nat} {v : V} (e : leafK (tkA ts n) = some v) : n + 1 < ts.length := by
  refine h.2 n ?_
  cases he : tkA ts n with
  | mark d => trivial
  | word w => trivial
  | leaf v => trivial
  | bad => rw [he] at e; cases e
  | fin => rw [he] at e; cases e
theorem wf_word {ts : List (Tk × Nat)} (h : Wf ts) {n : Nat} {w : Str} (e : tkA ts n = .word w) : n + 1 < ts.length := by
  refine h.2 n ?_
  rw [e]
  trivial
/-- a part that is read: it goes on, within the row; the parts are no more than 1000 -/
def Goes (ts : List (Tk × Nat)) (p : Nat → Nat → Res D) : Prop := ∀ n m t n2 m2, n < ts.length → m ≤ 1000 → p n m = .ok t n2 m2 → n < n2 ∧ n2 < ts.length ∧ m < m2 ∧ m2 ≤ 1000
theorem goes_loopL {ts : List (Tk × Nat)} {p : Nat → Nat → Res D} (hw : Wf ts) (hp : Goes ts p) : ∀ (j n m : Nat) (acc ds : List D) (n2 m2 : Nat), n < ts.length → m ≤ 1000 → loopL p ts j n m acc = .ok ds n2 m2 → n ≤ n2 ∧ n2 < ts.length ∧ m ≤ m2 ∧ m2 ≤ 1000 ∧ isMk 93 (tkA ts n2) = true
  | 0, _, _, _, _, _, _, _, _, h => by cases h
  | j + 1, n, m, acc, ds, n2, m2, hn, hm, h => by
    rw [loopL] at h
    by_cases h1 : isMk 93 (tkA ts n) = true
    · rw [if_pos h1] at h
      cases h
      exact ⟨Nat.le_refl _, hn, Nat.le_refl _, hm, h1⟩
    rw [if_neg h1] at h
    by_cases h2 : acc.isEmpty = true ∨ isMk 59 (tkA ts n) = true
    · rw [if_pos h2] at h
      have hn1 : (if acc.isEmpty = true then n else n + 1) < ts.length := by
        by_cases h3 : acc.isEmpty = true
        · rw [if_pos h3]
          exact hn
        · rw [if_neg h3]
          exact wf_mk hw (h2.resolve_left h3)
      have hn0 : n ≤ (if acc.isEmpty = true then n else n + 1) := by split <;> omega
      generalize (if acc.isEmpty = true then n else n + 1) = n1 at h hn1 hn0
      cases hp1 : p n1 m with
      | err i => rw [hp1] at h; cases h
      | ok t n3 m3 =>
        rw [hp1] at h
        obtain ⟨a1, a2, a3, a4⟩ := hp n1 m t n3 m3 hn1 hm hp1
        have := goes_loopL hw hp j n3 m3 _ ds n2 m2 a2 a4 h
        exact ⟨by omega, this.2.1, by omega, this.2.2.2⟩
    · rw [if_neg h2] at h
      cases h
theorem goes_loopD {ts : List (Tk × Nat)} {p : Nat → Nat → Res D} (hw : Wf ts) (hp : Goes ts p) : ∀ (j n m : Nat) (ks : List Str) (acc : List D) (r : List Str × List D) (n2 m2 : Nat), n < ts.length → m ≤ 1000 → loopD p ts j n m ks acc = .ok r n2 m2 → n ≤ n2 ∧ n2 < ts.length ∧ m ≤ m2 ∧ m2 ≤ 1000 ∧ isMk 125 (tkA ts n2) = true
  | 0, _, _, _, _, _, _, _, _, _, h => by cases h
  | j + 1, n, m, ks, acc, r, n2, m2, hn, hm, h => by
    rw [loopD] at h
    by_cases h1 : isMk 125 (tkA ts n) = true
    · rw [if_pos h1] at h
      cases h
      exact ⟨Nat.le_refl _, hn, Nat.le_refl _, hm, h1⟩
    rw [if_neg h1] at h
    by_cases h2 : ks.isEmpty = true ∨ isMk 59 (tkA ts n) = true
    · rw [if_pos h2] at h
      have hn0 : n ≤ (if ks.isEmpty = true then n else n + 1) := by split <;> omega
      dsimp only at h
      generalize (if ks.isEmpty = true then n else n + 1) = n1 at h hn0
      split at h
      · rename_i w hwd
        by_cases h3 : w ∈ ks
        · rw [if_pos h3] at h
          cases h
        rw [if_neg h3] at h
        by_cases h4 : isMk 58 (tkA ts (n1 + 1)) = true
        · rw [if_pos h4] at h
          have hn2 := wf_mk hw h4
          cases hp1 : p (n1 + 2) m with
          | err i => rw [hp1] at h; cases h
          | ok t n3 m3 =>
            rw [hp1] at h
            obtain ⟨a1, a2, a3, a4⟩ := hp (n1 + 2) m t n3 m3 hn2 hm hp1
            have := goes_loopD hw hp j n3 m3 _ _ r n2 m2 a2 a4 h
            exact ⟨by omega, this.2.1, by omega, this.2.2.2⟩
        · rw [if_neg h4] at h
          cases h
      · cases h
    · rw [if_neg h2] at h
      cases h
theorem goes_part {ts : List (Tk × Nat)} (hw : Wf ts) : ∀ k, Goes ts (partA ts k)
  | 0 => fun n m t n2 m2 _ _ h => by cases h
  | k + 1 => fun n m t n2 m2 hn hm h => by
    rw [partA] at h
    by_cases h0 : m = 1000
    · rw [if_pos h0] at h
      cases h
    rw [if_neg h0] at h
    by_cases h1 : isMk 91 (tkA ts n) = true
    · rw [if_pos h1] at h
      cases hl : loopL (partA ts k) ts (ts.length + 1) (n + 1) (m + 1) [] with
      | err i => rw [hl] at h; cases h
      | ok ds n3 m3 =>
        rw [hl] at h
        cases h
        have g := goes_loopL hw (goes_part hw k) _ _ _ _ _ _ _ (wf_mk hw h1) (by omega) hl
        exact ⟨by omega, wf_mk hw g.2.2.2.2, by omega, g.2.2.2.1⟩
    rw [if_neg h1] at h
    by_cases h2 : isMk 123 (tkA ts n) = true
    · rw [if_pos h2] at h
      cases hl : loopD (partA ts k) ts (ts.length + 1) (n + 1) (m + 1) [] [] with
      | err i => rw [hl] at h; cases h
      | ok r n3 m3 =>
        rw [hl] at h
        cases h
        have g := goes_loopD hw (goes_part hw k) _ _ _ _ _ _ _ _ (wf_mk hw h2) (by omega) hl
        exact ⟨by omega, wf_mk hw g.2.2.2.2, by omega, g.2.2.2.1⟩
    rw [if_neg h2] at h
    cases hf : leafK (tkA ts n) with
    | none => rw [hf] at h; cases h
    | some v =>
      rw [hf] at h
      cases h
      exact ⟨by omega, wf_leaf hw hf, by omega, by omega⟩
end Toy


namespace Toy
open PySem PySem.Spec L2 PyProof.Rows PySem.W
/-! ### the program reads a part -/
abbrev sRead : Stmt := inClass (top 32) 1
abbrev sList : Stmt := inClass (top 32) 2
abbrev sDict : Stmt := inClass (top 32) 3
/-- a piece stands for one of the row -/
def Mt (d : PD) (t : Tk × Nat) : Prop := d.2.2.1 = t.2 ∧ PdOk d ∧ (match t.1 with
  | .mark c => d.1 = "mark" ∧ d.2.1 = .str (sg c)
  | .word w => d.1 = "word" ∧ d.2.1 = .str w ∧ ∀ c, low c = false → w ≠ sg c
  | .leaf v => d.1 = "leaf" ∧ d.2.1 = v ∧ isLf v = true
  | .bad => d.1 ≠ "mark" ∧ d.1 ≠ "word" ∧ d.1 ≠ "leaf" ∧ d.1 ≠ "end"
  | .fin => d.1 = "end")
theorem mt_at {d : PD} {t : Tk × Nat} (h : Mt d t) {c : Nat} (hc : low c = false) : isAtB d (sg c) = isMk c t.1 := by
  obtain ⟨tk, b⟩ := t
  obtain ⟨_, _, h3⟩ := h
  unfold isAtB
  cases tk with
  | mark e =>
    obtain ⟨e1, e2⟩ := h3
    rw [e1, e2]
    show ((decide (("mark" : Str) = "word") || decide (("mark" : Str) = "mark")) && decide (V.str (sg e) = V.str (sg c))) = decide (e = c)
    rw [show (decide (("mark" : Str) = "word") || decide (("mark" : Str) = "mark")) = true by decide +kernel, Bool.true_and]
    exact sg_eq
  | word w =>
    obtain ⟨e1, e2, e3⟩ := h3
    rw [e1, e2]
    show (_ && decide (V.str w = V.str (sg c))) = false
    rw [decide_eq_false (fun z => e3 c hc (V.str.inj z)), Bool.and_false]
  | leaf v =>
    obtain ⟨e1, e2, e3⟩ := h3
    rw [e1]
    rw [show (decide (("leaf" : Str) = "word") || decide (("leaf" : Str) = "mark")) = false by decide +kernel]
    rfl
  | bad =>
    obtain ⟨e1, e2, e3, _⟩ := h3
    rw [decide_eq_false e1, decide_eq_false e2]
    rfl
  | fin =>
    have e1 : d.1 = "end" := h3
    rw [e1, show (decide (("end" : Str) = "word") || decide (("end" : Str) = "mark")) = false by decide +kernel]
    rfl
theorem mt_leaf {d : PD} {t : Tk × Nat} (h : Mt d t) : leafR d = leafK t.1 := by
  obtain ⟨tk, b⟩ := t
  obtain ⟨_, _, h3⟩ := h
  unfold leafR
  cases tk with
  | mark e =>
    obtain ⟨e1, e2⟩ := h3
    rw [e1, if_neg (by decide +kernel), if_neg (by decide +kernel)]
    rfl
  | word w =>
    obtain ⟨e1, e2, e3⟩ := h3
    rw [e1, if_neg (by decide +kernel), if_pos rfl, e2]
    rfl
  | leaf v =>
    obtain ⟨e1, e2, e3⟩ := h3
    rw [e1, if_pos rfl, e2]
    rfl
  | bad =>
    obtain ⟨e1, e2, e3, _⟩ := h3
    rw [if_neg e3, if_neg e2]
    rfl
  | fin =>
    have e1 : d.1 = "end" := h3
    rw [e1, if_neg (by decide +kernel), if_neg (by decide +kernel)]
    rfl
theorem mt_word {d : PD} {t : Tk × Nat} (h : Mt d t) {z : Str} (h1 : d.1 = "word") (h2 : d.2.1 = .str z) : t.1 = .word z := by
  obtain ⟨tk, b⟩ := t
  obtain ⟨_, _, h3⟩ := h
  cases tk with
  | mark e =>
    rw [h1] at h3
    exact absurd h3.1 (by decide +kernel)
  | word w =>
    rw [h2] at h3
    rw [V.str.inj h3.2.1]
  | leaf v =>
    rw [h1] at h3
    exact absurd h3.1 (by decide +kernel)
  | bad => exact absurd h1 h3.2.1
  | fin =>
    have e1 : d.1 = "end" := h3
    rw [h1] at e1
    exact absurd e1 (by decide +kernel)
theorem leafOf_lf {z : Str} {v : V} (h : leafOf z = some v) : isLf v = true := by
  unfold leafOf at h
  split at h
  · cases h; rfl
  split at h
  · cases h; rfl
  split at h
  · cases h; rfl
  · cases h
/-- what is new since H -/
def newH (H H' : Hp) : Hp := fun b => match H b with
  | none => H' b
  | some _ => none
theorem newH_some {H H' : Hp} {b : Addr} {o : HO} : newH H H' b = some o ↔ H b = none ∧ H' b = some o := by
  unfold newH
  constructor
  · intro z
    cases e : H b with
    | none =>
      rw [e] at z
      exact ⟨rfl, z⟩
    | some u =>
      rw [e] at z
      cases z
  · rintro ⟨e, z⟩
    rw [e]
    exact z
theorem nh_base {H H1 H' : Hp} {k : Nat} {v : V} {d : D} (h : ∀ b, H1 b = none → H b = none) (z : Dv k (newH H1 H') v d) : Dv k (newH H H') v d :=
  z.mono (fun b o _ e => by
    obtain ⟨e1, e2⟩ := newH_some.mp e
    exact newH_some.mpr ⟨h b e1, e2⟩) (Nat.le_refl _)
theorem nh_step {H H1 H2 : Hp} {k : Nat} {v : V} {d : D} (h : ∀ b o, H b = none → H1 b = some o → H2 b = some o) (z : Dv k (newH H H1) v d) : Dv k (newH H H2) v d :=
  z.mono (fun b o _ e => by
    obtain ⟨e1, e2⟩ := newH_some.mp e
    exact newH_some.mpr ⟨e1, h b o e1 e2⟩) (Nat.le_refl _)
theorem but_dom {r : Addr} {H H1 : Hp} (b : But r H H1) (hr : ∃ o, H1 r = some o) : ∀ c, H1 c = none → H c = none := fun c n => by
  cases e : H c with
  | none => rfl
  | some o =>
    by_cases hp : c = r
    · obtain ⟨u, hu⟩ := hr
      rw [hp, hu] at n
      cases n
    · rw [b _ _ hp e] at n
      cases n
def RelP (ps : List PD) (ts : List (Tk × Nat)) : Prop := ∀ n, n < ts.length → ∃ d, ps[n]? = some d ∧ Mt d (tkA ts n, bgA ts n)
theorem lf_of {ps : List PD} {ts : List (Tk × Nat)} (h : RelP ps ts) {n : Nat} (hn : n < ts.length) {v : V} (e : leafK (tkA ts n) = some v) : isLf v = true := by
  obtain ⟨d, _, _, _, h3⟩ := h n hn
  cases he : tkA ts n with
  | mark c => rw [he] at e; cases e
  | word w =>
    rw [he] at e
    exact leafOf_lf e
  | leaf u =>
    rw [he] at e h3
    cases e
    exact h3.2.2
  | bad => rw [he] at e; cases e
  | fin => rw [he] at e; cases e
def BadB (CT r : Addr) (i : Nat) (H : Hp) (E : XK) : Prop := ∀ H' dd, But r H H' → H' dd = some (.xd [("index", .int (i : Int))]) → E (.ref CT) (some dd) H'
theorem BadB.up {CT r : Addr} {i : Nat} {H H' : Hp} {E : XK} (h : BadB CT r i H E) (s : But r H H') : BadB CT r i H' E := fun H2 d s2 e => h H2 d (s.trans s2) e
theorem BadB.bad {CT r : Addr} {i : Nat} {H H' : Hp} {E : XK} (h : BadB CT r i H E) (s : But r H H') : Bad CT (i : Int) H' E := fun H2 d s2 e => h H2 d (s.trans (Same.but s2 r)) e
def Out {α : Type} (res : Res α) (good : α → Nat → Nat → Prop) (bad : Nat → Prop) : Prop := match res with
  | .ok a n m => good a n m
  | .err i => bad i
def spRead (C CP CT : Addr) (j : Nat) : Sp := fun vs H Q E => ∃ (r dr L pr : Addr) (xs : List V) (ps : List PD) (ts : List (Tk × Nat)) (n m k : Nat), vs = [.ref r, .int (61 - (k : Int))] ∧ k ≤ j ∧ k ≤ 60 ∧ Rd C CP r dr L pr xs ps n m H ∧ RelP ps ts ∧ Wf ts ∧ n < ts.length ∧ m ≤ 1000 ∧
  Out (partA ts k n m) (fun t n2 m2 => ∀ H' v, But r H H' → Rd C CP r dr L pr xs ps n2 m2 H' → Dv k (newH H H') v t → Q v H') (fun i => BadB CT r i H E)
def spList (C CP CT : Addr) (j : Nat) : Sp := fun vs H Q E => ∃ (r dr L pr : Addr) (xs : List V) (ps : List PD) (ts : List (Tk × Nat)) (n m k : Nat), vs = [.ref r, .int (60 - (k : Int))] ∧ k < j ∧ k ≤ 59 ∧ Rd C CP r dr L pr xs ps n m H ∧ RelP ps ts ∧ Wf ts ∧ n < ts.length ∧ m ≤ 1000 ∧ isMk 91 (tkA ts n) = true ∧
  Out (loopL (partA ts k) ts (ts.length + 1) (n + 1) m []) (fun ds n2 m2 => ∀ H' v, But r H H' → Rd C CP r dr L pr xs ps (n2 + 1) m2 H' → Dv (k + 1) (newH H H') v (.lst ds) → Q v H') (fun i => BadB CT r i H E)
def spDict (C CP CT : Addr) (j : Nat) : Sp := fun vs H Q E => ∃ (r dr L pr : Addr) (xs : List V) (ps : List PD) (ts : List (Tk × Nat)) (n m k : Nat), vs = [.ref r, .int (60 - (k : Int))] ∧ k < j ∧ k ≤ 59 ∧ Rd C CP r dr L pr xs ps n m H ∧ RelP ps ts ∧ Wf ts ∧ n < ts.length ∧ m ≤ 1000 ∧ isMk 123 (tkA ts n) = true ∧
  Out (loopD (partA ts k) ts (ts.length + 1) (n + 1) m [] []) (fun rr n2 m2 => ∀ H' v, But r H H' → Rd C CP r dr L pr xs ps (n2 + 1) m2 H' → Dv (k + 1) (newH H H') v (.dct rr.1 rr.2) → Q v H') (fun i => BadB CT r i H E)
abbrev NLi : List Str := ["self", "level", "found"]
abbrev NDi : List Str := ["self", "level", "found", "key"]
theorem scRead : FnScope ["self", "level"] ["self", "level"] (defScope sRead) := ⟨rfl, rfl, rfl, by decide +kernel, rfl, by decide +kernel, by decide +kernel⟩
theorem scList : FnScope NLi ["self", "level"] (defScope sList) := ⟨rfl, rfl, rfl, by decide +kernel, rfl, by decide +kernel, by decide +kernel⟩
theorem scDict : FnScope NDi ["self", "level"] (defScope sDict) := ⟨rfl, rfl, rfl, by decide +kernel, rfl, by decide +kernel, by decide +kernel⟩
/-- the methods of the class, known -/
structure RMeth (P : Program) (w : World) (K : PySem.W.Frag) (mg : Str → Option Value) (base : Heap) (C CP CT : Addr) where
  fA : Addr
  fR : Addr
  fT : Addr
  fE : Addr
  fO : Addr
  fL : Addr
  dA : FuncData
  dR : FuncData
  dT : FuncData
  dE : FuncData
  dO : FuncData
  dL : FuncData
  mA : Meth K C "is_at" fA
  mR : Meth K C "refuse" fR
  mT : Meth K C "taken" fT
  mE : Meth K C "expect" fE
  mO : Meth K C "expect_other" fO
  mL : Meth K C "expect_leaf" fL
  GA : FnOk P w K mg base CX0 2 fA dA ["self", "told"] (spIsAt C CP)
  GR : FnOk P w K mg base (L2.CX P w) 2 fR dR ["self"] (spRef C CP CT)
  GT : FnOk P w K mg base CX0 1 fT dT ["self"] (spTaken C CP)
  GE : FnOk P w K mg base (L2.CX P w) 3 fE dE ["self", "told"] (spExp C CP CT)
  GO : FnOk P w K mg base (L2.CX P w) 3 fO dO ["self", "kind", "others"] (spExpO C CP CT)
  GL : FnOk P w K mg base (L2.CX P w) 3 fL dL ["self"] (spExpL C CP CT)
  bA : Binds K dA ["self", "told"] []
  bR : Binds K dR ["self"] []
  bT : Binds K dT ["self"] []
  bE : Binds K dE ["self", "told"] []
  bO : Binds K dO ["self", "kind", "others"] []
  bL : Binds K dL ["self"] []
theorem but_at {r G : Addr} {H H' : Hp} {o : HO} (b : But r H H') (n : G ≠ r) (e : H G = some o) : H' G = some o := b _ _ n e
section
variable {P : Program} {w : World} {K : PySem.W.Frag} {mg : Str → Option Value} {base : Heap} {C CP CT : Addr}
theorem ok_list {f fRd : Addr} {fd fdRd : FuncData} {j : Nat} (F : Fun K "_list" "DatumReader._list" sList f fd) (T : RCls K C) (M : RMeth P w K mg base C CP CT)
    (mRd : Meth K C "read_part" fRd) (GRd : FnOk P w K mg base (L2.CX P w) (4 + 2 * j) fRd fdRd ["self", "level"] (spRead C CP CT j)) (bRd : Binds K fdRd ["self", "level"] []) :
    FnOk P w K mg base (L2.CX P w) (5 + 2 * j) f fd ["self", "level"] (spList C CP CT (j + 1)) := by
  rw [show 5 + 2 * j = (4 + 2 * j) + 1 by omega]
  refine F.okX (k := 4 + 2 * j) scList (fun vs H Q E h => ?_) (fun cdv A outer s H vs Q E hr h => ?_)
  · obtain ⟨r, dr, L, pr, xs, ps, ts, n, m, k, rfl, _⟩ := h
    rfl
  · obtain ⟨r, dr, L, pr, xs, ps, ts, n, m, k, rfl, hk, hk9, hR, hrel, hwf, hn, hm, hmk, hout⟩ := h
    have hr1 := hr.mono (show 1 ≤ 4 + 2 * j by omega)
    have hr2 := hr.mono (show 2 ≤ 4 + 2 * j by omega)
    have hr3 := hr.mono (show 3 ≤ 4 + 2 * j by omega)
    refine ⟨_, pss_cons (ps_expr (pe_meth0 (pv 0) T.cl M.mT M.GT hr1 M.bT .nil pass0))
      (pss_cons (ps_set (i := 2) scList.nd rfl (Or.inl rfl) (pe_lst pa_nil))
      (pss_cons (ps_while (passes_of rfl) (pt_not (pt_val (pe_meth (pv 0) T.cl M.mA M.GA hr2 M.bA .nil pass0 (pa_cons pe_str pa_nil))))
        (pss_cons (ps_if (pt_truth (pv 2) (by intro _; rfl)) (pss_one (ps_expr (pe_meth (E := E) (pv 0) T.cl M.mE M.GE hr3 M.bE .nil (passes_call (takes_of rfl rfl rfl rfl) fun cls d _ H h => h) (pa_cons pe_str pa_nil)))) pss_nil)
        (pss_one (ps_expr (pe_bm PySem.F.plainAttrs_list PySem.F.slot_list_append PySem.F.type_list_append mt_append (pv 2) (pa_cons (pe_meth (E := E) (pv 0) T.cl mRd GRd hr bRd .nil (passes_call (takes_of rfl rfl rfl rfl) fun cls d _ H h => h) (pa_cons (pe_op op_add (pv 1) pe_int) pa_nil)) pa_nil))))))
      (pss_cons (ps_expr (pe_meth0 (pv 0) T.cl M.mT M.GT hr1 M.bT .nil pass0))
      (pss_one (ps_ret (pv 2)))))), ?_⟩
    obtain ⟨d0, hd0, ht0⟩ := hrel n hn
    have hg := goes_part hwf k
    refine ⟨_, rfl, r, dr, _, rfl, hR.h, rfl, r, dr, L, pr, xs, ps, n, m, d0, rfl, hR, hd0, fun H1 x1 dx1 b1 hR1 _ => ⟨few (by show 0 ≤ 1000; decide), fun G nG => ?_⟩⟩
    have nGr : G ≠ r := (ne_of_none hR1.h nG).symm
    have nLG : L ≠ G := ne_of_none hR1.l nG
    have nG0 : H G = none := but_dom b1 ⟨_, hR1.h⟩ G nG
    have hn1 := wf_mk hwf hmk
    have sG : Same H1 (upd H1 G (.lst [])) := same_new same_id nG
    have hGG : (upd H1 G (.lst [])) G = some (.lst []) := upd_same
    have bG : But r H (upd H1 G (.lst [])) := b1.trans (Same.but sG r)
    have hRG : Rd C CP r dr L pr xs ps (n + 1) m (upd H1 G (.lst [])) := hR1.up sG
    generalize upd H1 G (.lst []) = HG at sG hGG bG hRG ⊢
    generalize hres : loopL (partA ts k) ts (ts.length + 1) (n + 1) m [] = Gres at hout
    let Inv : Nat → L2.St → Hp → Prop := fun fu' σ' H' => ∃ (n' m' : Nat) (ds : List D) (us : List V), σ' = [some (.ref r), some (.int (60 - (k : Int))), some (.ref G)] ∧ (∀ b o, b ≠ r → b ≠ G → HG b = some o → H' b = some o) ∧ H' G = some (.lst us) ∧ us.length ≤ m' ∧ Paired (fun x d => Dv k (newH HG H') x d) us ds ∧ Rd C CP r dr L pr xs ps n' m' H' ∧ n' < ts.length ∧ m' ≤ 1000 ∧ ts.length < fu' + n' ∧ loopL (partA ts k) ts fu' n' m' ds = Gres
    refine ⟨fun q σ H' => Inv q σ H', ⟨ts.length + 1, n + 1, m, [], [], rfl, fun _ _ _ _ z => z, hGG, Nat.zero_le _, .nil, hRG, hn1, hm, by omega, hres⟩, ?_⟩
    rintro fu σ H2 ⟨n', m', ds, us, rfl, hk2, hG2, hus, hp2, hR2, hn', hm', hfu, hlp⟩
    obtain ⟨d, hd, ht⟩ := hrel n' hn'
    obtain ⟨fu, rfl⟩ : ∃ f, fu = f + 1 := ⟨fu - 1, by omega⟩
    refine ⟨_, rfl, r, dr, _, rfl, hR2.h, rfl, r, dr, L, pr, xs, ps, n', m', d, sg 93, rfl, hR2, hd, ht.2.1.1, fun H3 s3 => ⟨_, rfl, ?_⟩⟩
    rw [mt_at ht (by decide)]
    have hk3 : ∀ b o, b ≠ r → b ≠ G → HG b = some o → H3 b = some o := fun b o h1 h2 e => s3 _ _ (hk2 b o h1 h2 e)
    have hR3 := hR2.up s3
    have hG3 := s3 _ _ hG2
    have hp3 : Paired (fun x d => Dv k (newH HG H3) x d) us ds := L2.Paired.mapP hp2 fun _ _ z => nh_step (fun b o _ e => s3 _ _ e) z
    have toB : ∀ {H' : Hp}, (∀ b o, b ≠ r → b ≠ G → HG b = some o → H' b = some o) → But r H H' := fun h b o hb e => h b o hb (fun z => by rw [z, nG0] at e; cases e) (bG b o hb e)
    have newr : ∀ {b : Addr}, HG b = none → b ≠ r ∧ b ≠ G := fun e => ⟨fun z => (by rw [z, hRG.h] at e; cases e), fun z => (by rw [z, hGG] at e; cases e)⟩
    rw [loopL] at hlp
    cases hmk93 : isMk 93 (tkA ts n') with
    | true =>
      rw [if_pos hmk93] at hlp
      rw [← hlp] at hout
      refine iteF ?_
      dsimp only
      refine ⟨_, rfl, r, dr, _, rfl, hR3.h, rfl, r, dr, L, pr, xs, ps, n', m', d, rfl, hR3, hd, fun H4 x4 dx4 b4 hR4 _ => ⟨_, rfl, ?_⟩⟩
      have hk4 : ∀ b o, b ≠ r → b ≠ G → HG b = some o → H4 b = some o := fun b o h1 h2 e => b4 _ _ h1 (hk3 b o h1 h2 e)
      refine hout H4 (.ref G) (toB hk4) hR4 ?_
      simp only [Dv]
      refine ⟨G, us, rfl, newH_some.mpr ⟨nG0, b4 _ _ nGr hG3⟩, L2.Paired.mapP hp3 fun _ _ z => nh_base (fun b e => but_dom bG ⟨_, hRG.h⟩ b e) (nh_step (fun b o h1 e => b4 _ _ (newr h1).1 e) z)⟩
    | false =>
      rw [if_neg (by rw [hmk93]; exact Bool.false_ne_true)] at hlp
      refine iteT ⟨fun σ' H' => Inv fu σ' H', fun σ' H' w => ⟨fu, Nat.lt_succ_self _, w⟩, ?_⟩
      have hempty : us.isEmpty = ds.isEmpty := by cases hp3 <;> rfl
      have rest : ∀ (n1 : Nat) (H4 : Hp) (D' : Ends), (∀ b o, b ≠ r → b ≠ G → HG b = some o → H4 b = some o) → H4 G = some (.lst us) → Paired (fun x d => Dv k (newH HG H4) x d) us ds → Rd C CP r dr L pr xs ps n1 m' H4 → n' ≤ n1 → n1 < ts.length →
          (match partA ts k n1 m' with | .err i => .err i | .ok t n2 m2 => loopL (partA ts k) ts fu n2 m2 (ds ++ [t])) = Gres →
          (∀ σ' H', Inv fu σ' H' → D'.nx σ' H') →
          tDrop (tBM K "list" rAppend (tVar 2) (tCons (tMeth C "read_part" (spRead C CP CT j) [] E (tVar 0) (tCons (tOp (rI0 fun i j => V.int (i + j)) (tVar 1) (tC (V.int 1))) tNil)) tNil)) D' [some (.ref r), some (.int (60 - (k : Int))), some (.ref G)] H4 := by
        intro n1 H4 D' hk4 hG4 hp4 hR4 hn1a hn1b hm4 hD
        have elev : (fun (i j : Int) => V.int (i + j)) (60 - (k : Int)) 1 = V.int (61 - (k : Int)) := by
          show V.int (60 - (k : Int) + 1) = _
          rw [show 60 - (k : Int) + 1 = 61 - (k : Int) by omega]
        refine ⟨_, rfl, .inl ⟨rfl, _, SqL.of hG4⟩, _, rfl, r, dr, _, rfl, hR4.h, rfl, _, rfl, _, _, rfl, rfl, r, dr, L, pr, xs, ps, ts, n1, m', k, by rw [elev]; rfl, by omega, by omega, hR4, hrel, hwf, hn1b, hm', ?_⟩
        cases hpr : partA ts k n1 m' with
        | err i =>
          rw [hpr] at hm4
          rw [← hm4] at hout
          exact BadB.up hout (toB hk4)
        | ok t n3 m3 =>
          rw [hpr] at hm4
          obtain ⟨g1, g2, g3, g4⟩ := hg n1 m' t n3 m3 hn1b hm' hpr
          intro H5 v b5 hR5 hv
          have hG5 := b5 _ _ nGr hG4
          have hk5 : ∀ b o, b ≠ r → b ≠ G → HG b = some o → H5 b = some o := fun b o h1 h2 e => b5 _ _ h1 (hk4 b o h1 h2 e)
          refine ⟨G, _, _, rfl, rfl, hG5, lines (by omega), ?_⟩
          refine hD _ _ ⟨n3, m3, ds ++ [t], us ++ [v], rfl, fun b o h1 h2 e => (upd_ne h2).trans (hk5 b o h1 h2 e), upd_same, ?_, ?_, ?_, g2, g4, by omega, hm4⟩
          · rw [List.length_append, List.length_singleton]
            omega
          · refine paired_app (L2.Paired.mapP hp4 fun _ _ z => nh_step (fun b o h1 e => (upd_ne (newr h1).2).trans (b5 _ _ (newr h1).1 e)) z) (.cons ?_ .nil)
            refine nh_step (H1 := H5) (fun b o h1 e => (upd_ne (newr h1).2).trans e) (nh_base (H1 := H4) (fun b e => ?_) hv)
            cases eb : HG b with
            | none => rfl
            | some o =>
              by_cases h1 : b = r
              · rw [h1, hR4.h] at e
                cases e
              by_cases h2 : b = G
              · rw [h2, hG4] at e
                cases e
              rw [hk4 b o h1 h2 eb] at e
              cases e
          · refine ⟨(upd_ne nGr.symm).trans hR5.h, (upd_ne nLG).trans hR5.l, L2.Paired.mapP hR5.p fun y dy hy => ?_⟩
            · obtain ⟨xy, dxy, ey, hxy⟩ := hy
              exact ⟨xy, dxy, ey, (upd_ne (ne_of hxy hG5 (by intro z; cases z))).trans hxy⟩
      refine ifs_val (v := !ds.isEmpty) (fun Q k => ⟨_, rfl, !us.isEmpty, .inl ⟨us, SqL.of hG3, rfl⟩, by rw [hempty]; exact k⟩) (fun hb => ?_) (fun hb => nxt_run ?_)
      · have hb : ds.isEmpty = false := by simpa using hb
        refine ⟨_, rfl, r, dr, _, rfl, hR3.h, rfl, r, dr, L, pr, xs, ps, n', m', d, sg 59, rfl, hR3, hd, ht.2.1, fun h59 H4 x4 b4 hR4 => ?_, fun h59 => ?_⟩
        · rw [mt_at ht (by decide)] at h59
          rw [if_pos (.inr h59), if_neg (by rw [hb]; exact Bool.false_ne_true)] at hlp
          have hn4 := wf_mk hwf h59
          refine rest (n' + 1) H4 _ (fun b o h1 h2 e => b4 _ _ h1 (hk3 b o h1 h2 e)) (b4 _ _ nGr hG3) (L2.Paired.mapP hp3 fun _ _ z => nh_step (fun b o h1 e => b4 _ _ (newr h1).1 e) z) hR4 (Nat.le_succ _) hn4 hlp (fun σ' H' w => w)
        · rw [mt_at ht (by decide)] at h59
          rw [if_neg (fun z => by rcases z with z | z; rw [hb] at z; cases z; rw [h59] at z; cases z)] at hlp
          rw [← hlp] at hout
          have e : (d.2.2.1 : Int) = (bgA ts n' : Int) := by rw [ht.1]
          rw [e]
          exact BadB.bad hout (toB hk3)
      · have hb : ds.isEmpty = true := by simpa using hb
        rw [if_pos (.inl hb), if_pos hb] at hlp
        exact rest n' H3 _ hk3 hG3 hp3 hR3 (Nat.le_refl _) hn' hlp (fun σ' H' w => w)
end
end Toy


namespace Toy
open PySem PySem.Spec L2 PyProof.Rows PySem.W
theorem kv_keys : ∀ {ks : List Str} {us : List V}, us.length = ks.length → (kvOf ks us).map (·.1) = ks.map Sum.inr
  | [], [], _ => rfl
  | [], _ :: _, h => by cases h
  | _ :: _, [], h => by cases h
  | k :: ks, u :: us, h => by
    have ih := kv_keys (ks := ks) (us := us) (by simpa using h)
    show Sum.inr k :: (kvOf ks us).map (·.1) = Sum.inr k :: ks.map Sum.inr
    rw [ih]
theorem kv_none {ks : List Str} {us : List V} (h : us.length = ks.length) (z : Str) : valV (kvOf ks us) (Sum.inr z) = none ↔ z ∉ ks := by
  induction ks generalizing us with
  | nil =>
    cases us with
    | nil => exact ⟨fun _ => List.not_mem_nil, fun _ => rfl⟩
    | cons u us => cases h
  | cons k ks ih =>
    cases us with
    | nil => cases h
    | cons u us =>
      have h' : us.length = ks.length := by simpa using h
      have e : kvOf (k :: ks) (u :: us) = (Sum.inr k, u) :: kvOf ks us := rfl
      rw [e]
      by_cases hz : k = z
      · subst hz
        rw [valV_pos rfl]
        exact ⟨fun z => (by cases z), fun z => absurd List.mem_cons_self z⟩
      · rw [valV_neg (fun q => hz (Sum.inr.inj q)), ih h', List.mem_cons, not_or]
        exact ⟨fun q => ⟨fun e => hz e.symm, q⟩, fun q => q.2⟩
theorem kv_put {ks : List Str} {us : List V} (h : us.length = ks.length) {z : Str} (hz : z ∉ ks) (v : V) : putK (kvOf ks us) (Sum.inr z) v = kvOf (ks ++ [z]) (us ++ [v]) := by
  rw [nodup_fst_put]
  · unfold kvOf
    rw [List.zip_append h.symm, List.map_append]
    rfl
  · rw [kv_keys h]
    intro q
    obtain ⟨k, hk, e⟩ := List.mem_map.mp q
    cases e
    exact hz hk
theorem kv_len {ks : List Str} {us : List V} (h : us.length = ks.length) : (kvOf ks us).length = ks.length := by
  unfold kvOf
  rw [List.length_map, List.length_zip, h]
  omega
theorem kv_empty {ks : List Str} {us : List V} (h : us.length = ks.length) : (kvOf ks us).isEmpty = ks.isEmpty := by
  cases ks with
  | nil =>
    cases us with
    | nil => rfl
    | cons a b => cases h
  | cons a b =>
    cases us with
    | nil => cases h
    | cons c d => rfl
section
variable {P : Program} {w : World} {K : PySem.W.Frag} {mg : Str → Option Value} {base : Heap} {C CP CT : Addr}
theorem ok_dict {f fRd : Addr} {fd fdRd : FuncData} {j : Nat} (F : Fun K "_dict" "DatumReader._dict" sDict f fd) (T : RCls K C) (M : RMeth P w K mg base C CP CT)
    (mRd : Meth K C "read_part" fRd) (GRd : FnOk P w K mg base (L2.CX P w) (4 + 2 * j) fRd fdRd ["self", "level"] (spRead C CP CT j)) (bRd : Binds K fdRd ["self", "level"] []) :
    FnOk P w K mg base (L2.CX P w) (5 + 2 * j) f fd ["self", "level"] (spDict C CP CT (j + 1)) := by
  rw [show 5 + 2 * j = (4 + 2 * j) + 1 by omega]
  refine F.okX (k := 4 + 2 * j) scDict (fun vs H Q E h => ?_) (fun cdv A outer s H vs Q E hr h => ?_)
  · obtain ⟨r, dr, L, pr, xs, ps, ts, n, m, k, rfl, _⟩ := h
    rfl
  · obtain ⟨r, dr, L, pr, xs, ps, ts, n, m, k, rfl, hk, hk9, hR, hrel, hwf, hn, hm, hmk, hout⟩ := h
    have hu := hu_of hr
    have hr1 := hr.mono (show 1 ≤ 4 + 2 * j by omega)
    have hr2 := hr.mono (show 2 ≤ 4 + 2 * j by omega)
    have hr3 := hr.mono (show 3 ≤ 4 + 2 * j by omega)
    refine ⟨_, pss_cons (ps_expr (pe_meth0 (pv 0) T.cl M.mT M.GT hr1 M.bT .nil pass0))
      (pss_cons (ps_set (i := 2) scDict.nd rfl (Or.inl rfl) pe_dnewK)
      (pss_cons (ps_while (passes_of rfl) (pt_not (pt_val (pe_meth (pv 0) T.cl M.mA M.GA hr2 M.bA .nil pass0 (pa_cons pe_str pa_nil))))
        (pss_cons (ps_if (pt_truth (pv 2) (by intro _; rfl)) (pss_one (ps_expr (pe_meth (E := E) (pv 0) T.cl M.mE M.GE hr3 M.bE .nil (passes_call (takes_of rfl rfl rfl rfl) fun cls d _ H h => h) (pa_cons pe_str pa_nil)))) pss_nil)
        (pss_cons (ps_set (i := 3) scDict.nd rfl (Or.inl rfl) (pe_meth (E := E) (pv 0) T.cl M.mO M.GO hr3 M.bO .nil (passes_call (takes_of rfl rfl rfl rfl) fun cls d _ H h => h) (pa_cons pe_str (pa_cons (pv 2) pa_nil))))
        (pss_cons (ps_expr (pe_meth (E := E) (pv 0) T.cl M.mE M.GE hr3 M.bE .nil (passes_call (takes_of rfl rfl rfl rfl) fun cls d _ H h => h) (pa_cons pe_str pa_nil)))
        (pss_one (ps_dput hu (pv 2) (pv 3) (pe_meth (E := E) (pv 0) T.cl mRd GRd hr bRd .nil (passes_call (takes_of rfl rfl rfl rfl) fun cls d _ H h => h) (pa_cons (pe_op op_add (pv 1) pe_int) pa_nil)) rfl))))))
      (pss_cons (ps_expr (pe_meth0 (pv 0) T.cl M.mT M.GT hr1 M.bT .nil pass0))
      (pss_one (ps_ret (pv 2)))))), ?_⟩
    obtain ⟨d0, hd0, ht0⟩ := hrel n hn
    have hg := goes_part hwf k
    refine ⟨_, rfl, r, dr, _, rfl, hR.h, rfl, r, dr, L, pr, xs, ps, n, m, d0, rfl, hR, hd0, fun H1 x1 dx1 b1 hR1 _ => fun G nG => ?_⟩
    have nGr : G ≠ r := (ne_of_none hR1.h nG).symm
    have nLG : L ≠ G := ne_of_none hR1.l nG
    have nG0 : H G = none := but_dom b1 ⟨_, hR1.h⟩ G nG
    have hn1 := wf_mk hwf hmk
    have sG : Same H1 (upd H1 G (.dK [])) := same_new same_id nG
    have hGG : (upd H1 G (.dK [])) G = some (.dK []) := upd_same
    have bG : But r H (upd H1 G (.dK [])) := b1.trans (Same.but sG r)
    have hRG : Rd C CP r dr L pr xs ps (n + 1) m (upd H1 G (.dK [])) := hR1.up sG
    generalize upd H1 G (.dK []) = HG at sG hGG bG hRG ⊢
    generalize hres : loopD (partA ts k) ts (ts.length + 1) (n + 1) m [] [] = Gres at hout
    let Inv : Nat → L2.St → Hp → Prop := fun fu' σ' H' => ∃ (n' m' : Nat) (ks : List Str) (ds : List D) (us : List V) (o : Option V), σ' = [some (.ref r), some (.int (60 - (k : Int))), some (.ref G), o] ∧ (∀ b o, b ≠ r → b ≠ G → HG b = some o → H' b = some o) ∧ H' G = some (.dK (kvOf ks us)) ∧ us.length = ks.length ∧ ks.Nodup ∧ ks.length ≤ m' ∧ Paired (fun x d => Dv k (newH HG H') x d) us ds ∧ Rd C CP r dr L pr xs ps n' m' H' ∧ n' < ts.length ∧ m' ≤ 1000 ∧ ts.length < fu' + n' ∧ loopD (partA ts k) ts fu' n' m' ks ds = Gres
    refine ⟨fun q σ H' => Inv q σ H', ⟨ts.length + 1, n + 1, m, [], [], [], none, rfl, fun _ _ _ _ z => z, hGG, rfl, List.nodup_nil, Nat.zero_le _, .nil, hRG, hn1, hm, by omega, hres⟩, ?_⟩
    rintro fu σ H2 ⟨n', m', ks, ds, us, o, rfl, hk2, hG2, hlen, hnd, hus, hp2, hR2, hn', hm', hfu, hlp⟩
    obtain ⟨d, hd, ht⟩ := hrel n' hn'
    obtain ⟨fu, rfl⟩ : ∃ f, fu = f + 1 := ⟨fu - 1, by omega⟩
    refine ⟨_, rfl, r, dr, _, rfl, hR2.h, rfl, r, dr, L, pr, xs, ps, n', m', d, sg 125, rfl, hR2, hd, ht.2.1.1, fun H3 s3 => ⟨_, rfl, ?_⟩⟩
    rw [mt_at ht (by decide)]
    have hk3 : ∀ b o, b ≠ r → b ≠ G → HG b = some o → H3 b = some o := fun b o h1 h2 e => s3 _ _ (hk2 b o h1 h2 e)
    have hR3 := hR2.up s3
    have hG3 := s3 _ _ hG2
    have hp3 : Paired (fun x d => Dv k (newH HG H3) x d) us ds := L2.Paired.mapP hp2 fun _ _ z => nh_step (fun b o _ e => s3 _ _ e) z
    have toB : ∀ {H' : Hp}, (∀ b o, b ≠ r → b ≠ G → HG b = some o → H' b = some o) → But r H H' := fun h b o hb e => h b o hb (fun z => by rw [z, nG0] at e; cases e) (bG b o hb e)
    have newr : ∀ {b : Addr}, HG b = none → b ≠ r ∧ b ≠ G := fun e => ⟨fun z => (by rw [z, hRG.h] at e; cases e), fun z => (by rw [z, hGG] at e; cases e)⟩
    have stepP : ∀ {Ha Hb : Hp} {us : List V} {ds : List D}, But r Ha Hb → Paired (fun x d => Dv k (newH HG Ha) x d) us ds → Paired (fun x d => Dv k (newH HG Hb) x d) us ds := fun b p => L2.Paired.mapP p fun _ _ z => nh_step (fun c o h1 e => b _ _ (newr h1).1 e) z
    rw [loopD] at hlp
    cases hmk93 : isMk 125 (tkA ts n') with
    | true =>
      rw [if_pos hmk93] at hlp
      rw [← hlp] at hout
      refine iteF ?_
      dsimp only
      refine ⟨_, rfl, r, dr, _, rfl, hR3.h, rfl, r, dr, L, pr, xs, ps, n', m', d, rfl, hR3, hd, fun H4 x4 dx4 b4 hR4 _ => ⟨_, rfl, ?_⟩⟩
      have hk4 : ∀ b o, b ≠ r → b ≠ G → HG b = some o → H4 b = some o := fun b o h1 h2 e => b4 _ _ h1 (hk3 b o h1 h2 e)
      refine hout H4 (.ref G) (toB hk4) hR4 ?_
      simp only [Dv]
      exact ⟨G, us, rfl, newH_some.mpr ⟨nG0, b4 _ _ nGr hG3⟩, hlen, hnd, L2.Paired.mapP (stepP b4 hp3) fun _ _ z => nh_base (fun b e => but_dom bG ⟨_, hRG.h⟩ b e) z⟩
    | false =>
      rw [if_neg (by rw [hmk93]; exact Bool.false_ne_true)] at hlp
      refine iteT ⟨fun σ' H' => Inv fu σ' H', fun σ' H' w => ⟨fu, Nat.lt_succ_self _, w⟩, ?_⟩
      have rest : ∀ (n1 : Nat) (H4 : Hp) (D' : Ends), (∀ b o, b ≠ r → b ≠ G → HG b = some o → H4 b = some o) → H4 G = some (.dK (kvOf ks us)) → Paired (fun x d => Dv k (newH HG H4) x d) us ds → Rd C CP r dr L pr xs ps n1 m' H4 → n' ≤ n1 → n1 < ts.length →
          (match tkA ts n1 with
            | .word w =>
              if w ∈ ks then .err (bgA ts n1)
              else if isMk 58 (tkA ts (n1 + 1)) = true then
                match partA ts k (n1 + 2) m' with
                | .err i => .err i
                | .ok t n2 m2 => loopD (partA ts k) ts fu n2 m2 (ks ++ [w]) (ds ++ [t])
              else .err (bgA ts (n1 + 1))
            | _ => .err (bgA ts n1)) = Gres →
          (∀ σ' H', Inv fu σ' H' → D'.nx σ' H') →
          tSeq (tAsg (tMeth C "expect_other" (spExpO C CP CT) [] E (tVar 0) (tCons (tC (V.str ("word" : Str))) (tCons (tVar 2) tNil))) (gName 3))
            (tSeq (tDrop (tMeth C "expect" (spExp C CP CT) [] E (tVar 0) (tCons (tC (V.str (":" : Str))) tNil)))
              (sDPut (tVar 2) (tVar 3) (tMeth C "read_part" (spRead C CP CT j) [] E (tVar 0) (tCons (tOp (rI0 fun i j => V.int (i + j)) (tVar 1) (tC (V.int 1))) tNil)))) D' [some (.ref r), some (.int (60 - (k : Int))), some (.ref G), o] H4 := by
        intro n1 H4 D' hk4 hG4 hp4 hR4 hn1a hn1b hm4 hD
        obtain ⟨d1, hd1, ht1⟩ := hrel n1 hn1b
        refine asg_run ⟨_, rfl, r, dr, _, rfl, hR4.h, rfl, _, rfl, r, dr, L, pr, G, _, xs, ps, n1, m', d1, rfl, hR4, hd1, ht1.2.1, hG4, fun z hz1 hz2 hz3 H5 b5 hR5 => ?_, fun hb => ?_⟩
        · have hw := mt_word ht1 hz1 hz2
          have hw : tkA ts n1 = .word z := hw
          have hz : z ∉ ks := (kv_none hlen z).mp hz3
          rw [hw] at hm4
          dsimp only at hm4
          rw [if_neg hz] at hm4
          have hn2 := wf_word hwf hw
          obtain ⟨d2, hd2, ht2⟩ := hrel (n1 + 1) hn2
          have hG5 := b5 _ _ nGr hG4
          have hk5 : ∀ b o, b ≠ r → b ≠ G → HG b = some o → H5 b = some o := fun b o h1 h2 e => b5 _ _ h1 (hk4 b o h1 h2 e)
          have hp5 := stepP b5 hp4
          refine ⟨_, rfl, r, dr, _, rfl, hR5.h, rfl, r, dr, L, pr, xs, ps, n1 + 1, m', d2, sg 58, rfl, hR5, hd2, ht2.2.1, fun h58 H6 x6 b6 hR6 => ?_, fun h58 => ?_⟩
          · rw [mt_at ht2 (by decide)] at h58
            have h58 : isMk 58 (tkA ts (n1 + 1)) = true := h58
            rw [if_pos h58] at hm4
            have hn3 := wf_mk hwf h58
            have hG6 := b6 _ _ nGr hG5
            have hk6 : ∀ b o, b ≠ r → b ≠ G → HG b = some o → H6 b = some o := fun b o h1 h2 e => b6 _ _ h1 (hk5 b o h1 h2 e)
            have hp6 := stepP b6 hp5
            have elev : (fun (i j : Int) => V.int (i + j)) (60 - (k : Int)) 1 = V.int (61 - (k : Int)) := by
              show V.int (60 - (k : Int) + 1) = _
              rw [show 60 - (k : Int) + 1 = 61 - (k : Int) by omega]
            refine ⟨_, rfl, r, dr, _, rfl, hR6.h, rfl, _, rfl, _, _, rfl, rfl, r, dr, L, pr, xs, ps, ts, n1 + 2, m', k, by rw [elev]; rfl, by omega, by omega, hR6, hrel, hwf, hn3, hm', ?_⟩
            cases hpr : partA ts k (n1 + 2) m' with
            | err i =>
              rw [hpr] at hm4
              rw [← hm4] at hout
              exact BadB.up hout (toB hk6)
            | ok t n3 m3 =>
              rw [hpr] at hm4
              obtain ⟨g1, g2, g3, g4⟩ := hg (n1 + 2) m' t n3 m3 hn3 hm' hpr
              intro H7 v b7 hR7 hv
              have hG7 := b7 _ _ nGr hG6
              have hk7 : ∀ b o, b ≠ r → b ≠ G → HG b = some o → H7 b = some o := fun b o h1 h2 e => b7 _ _ h1 (hk6 b o h1 h2 e)
              have hput := DPut.k (k := Sum.inr z) (v := v) hG7 (by rw [kv_len hlen]; exact lines (by omega))
              rw [kv_put hlen hz] at hput
              refine ⟨_, rfl, _, rfl, G, _, rfl, hput, ?_⟩
              refine hD _ _ ⟨n3, m3, ks ++ [z], ds ++ [t], us ++ [v], _, rfl, fun b o h1 h2 e => (upd_ne h2).trans (hk7 b o h1 h2 e), upd_same, ?_, ?_, ?_, ?_, ?_, g2, g4, by omega, hm4⟩
              · rw [List.length_append, List.length_append, hlen]
                rfl
              · rw [List.nodup_append]
                refine ⟨hnd, by simp, fun a ha b hb => ?_⟩
                rw [List.mem_singleton.mp hb]
                exact fun e => hz (e ▸ ha)
              · rw [List.length_append, List.length_singleton]
                omega
              · refine paired_app (L2.Paired.mapP hp6 fun _ _ z => nh_step (fun b o h1 e => (upd_ne (newr h1).2).trans (b7 _ _ (newr h1).1 e)) z) (.cons ?_ .nil)
                refine nh_step (H1 := H7) (fun b o h1 e => (upd_ne (newr h1).2).trans e) (nh_base (H1 := H6) (fun b e => ?_) hv)
                cases eb : HG b with
                | none => rfl
                | some o =>
                  by_cases h1 : b = r
                  · rw [h1, hR6.h] at e
                    cases e
                  by_cases h2 : b = G
                  · rw [h2, hG6] at e
                    cases e
                  rw [hk6 b o h1 h2 eb] at e
                  cases e
              · refine ⟨(upd_ne nGr.symm).trans hR7.h, (upd_ne nLG).trans hR7.l, L2.Paired.mapP hR7.p fun y dy hy => ?_⟩
                obtain ⟨xy, dxy, ey, hxy⟩ := hy
                exact ⟨xy, dxy, ey, (upd_ne (ne_of hxy hG7 (by intro z; cases z))).trans hxy⟩
          · rw [mt_at ht2 (by decide)] at h58
            have h58 : isMk 58 (tkA ts (n1 + 1)) = false := h58
            rw [if_neg (by rw [h58]; exact Bool.false_ne_true)] at hm4
            rw [← hm4] at hout
            have e : (d2.2.2.1 : Int) = (bgA ts (n1 + 1) : Int) := by rw [ht2.1]
            rw [e]
            exact BadB.bad hout (toB hk5)
        · have hbad : Gres = .err (bgA ts n1) := by
            rw [← hm4]
            rcases hb with h | ⟨z, h1, h2⟩
            · split
              · rename_i w hw
                have h3 := ht1.2.2
                rw [hw] at h3
                exact absurd h3.1 h
              · rfl
            · split
              · rename_i w hw
                have h3 := ht1.2.2
                rw [hw] at h3
                have h4 := h3.2.1
                rw [h1] at h4
                have h5 := V.str.inj h4
                subst h5
                rw [if_pos (by
                  by_cases q : z ∈ ks
                  · exact q
                  · exact absurd ((kv_none hlen z).mpr q) h2)]
              · rfl
          rw [hbad] at hout
          have e : (d1.2.2.1 : Int) = (bgA ts n1 : Int) := by rw [ht1.1]
          rw [e]
          exact BadB.bad hout (toB hk4)
      refine ifs_val (v := !ks.isEmpty) (fun Q k => ⟨_, rfl, !(kvOf ks us).isEmpty, .inr (.inr ⟨_, hG3, rfl⟩), by rw [kv_empty hlen]; exact k⟩) (fun hb => ?_) (fun hb => nxt_run ?_)
      · have hb : ks.isEmpty = false := by simpa using hb
        refine ⟨_, rfl, r, dr, _, rfl, hR3.h, rfl, r, dr, L, pr, xs, ps, n', m', d, sg 59, rfl, hR3, hd, ht.2.1, fun h59 H4 x4 b4 hR4 => ?_, fun h59 => ?_⟩
        · rw [mt_at ht (by decide)] at h59
          rw [if_pos (.inr h59)] at hlp
          dsimp only at hlp
          rw [if_neg (by rw [hb]; exact Bool.false_ne_true)] at hlp
          have hn4 := wf_mk hwf h59
          exact rest (n' + 1) H4 _ (fun b o h1 h2 e => b4 _ _ h1 (hk3 b o h1 h2 e)) (b4 _ _ nGr hG3) (stepP b4 hp3) hR4 (Nat.le_succ _) hn4 hlp (fun σ' H' w => w)
        · rw [mt_at ht (by decide)] at h59
          rw [if_neg (fun z => by rcases z with z | z; rw [hb] at z; cases z; rw [h59] at z; cases z)] at hlp
          rw [← hlp] at hout
          have e : (d.2.2.1 : Int) = (bgA ts n' : Int) := by rw [ht.1]
          rw [e]
          exact BadB.bad hout (toB hk3)
      · have hb : ks.isEmpty = true := by simpa using hb
        rw [if_pos (.inl hb)] at hlp
        dsimp only at hlp
        rw [if_pos hb] at hlp
        exact rest n' H3 _ hk3 hG3 hp3 hR3 (Nat.le_refl _) hn' hlp (fun σ' H' w => w)
end
end Toy


namespace Toy
open PySem PySem.Spec L2 PyProof.Rows PySem.W
abbrev sRI : Stmt := inClass (top 29) 0
abbrev sDI : Stmt := inClass (top 32) 0
section
variable {P : Program} {w : World} {K : PySem.W.Frag} {mg : Str → Option Value} {base : Heap} {C CP CT : Addr}
theorem ok_readS {f fLs fDs : Addr} {fd dLs dDs : FuncData} {u1000 u60 : Value} {j : Nat} (F : Fun K "read_part" "DatumReader.read_part" sRead f fd) (T : RCls K C) (M : RMeth P w K mg base C CP CT) (hne : C ≠ CP)
    (mLs : Meth K C "_list" fLs) (GLs : FnOk P w K mg base (L2.CX P w) (3 + 2 * j) fLs dLs ["self", "level"] (spList C CP CT j)) (bLs : Binds K dLs ["self", "level"] [])
    (mDs : Meth K C "_dict" fDs) (GDs : FnOk P w K mg base (L2.CX P w) (3 + 2 * j) fDs dDs ["self", "level"] (spDict C CP CT j)) (bDs : Binds K dDs ["self", "level"] [])
    (m1 : mg "MOST_PARTS" = some u1000) (r1 : RelV (.int 1000) u1000) (m2 : mg "MOST_LEVELS" = some u60) (r2 : RelV (.int 60) u60) :
    FnOk P w K mg base (L2.CX P w) (4 + 2 * j) f fd ["self", "level"] (spRead C CP CT j) := by
  rw [show 4 + 2 * j = (3 + 2 * j) + 1 by omega]
  refine F.okX (k := 3 + 2 * j) scRead (fun vs H Q E h => ?_) (fun cdv A outer s H vs Q E hr h => ?_)
  · obtain ⟨r, dr, L, pr, xs, ps, ts, n, m, k, rfl, _⟩ := h
    rfl
  · obtain ⟨r, dr, L, pr, xs, ps, ts, n, m, k, rfl, hk, hk6, hR, hrel, hwf, hn, hm, hout⟩ := h
    have hr2 := hr.mono (show 2 ≤ 3 + 2 * j by omega)
    have hr3 := hr.mono (show 3 ≤ 3 + 2 * j by omega)
    refine ⟨_, pss_cons (ps_if (PW.pt (pw_or (pt_cmpR op_eq (pe_fld (pv 0) rfl) (pe_glob (v := .int 1000) (by rfl) m1 r1) (by rfl)) (pw_or1 (pt_cmpR op_gt (pv 1) (pe_glob (v := .int 60) (by rfl) m2 r2) (by rfl)))))
        (pss_one (ps_expr (pe_meth0 (E := E) (pv 0) T.cl M.mR M.GR hr2 M.bR .nil (passes_call (takes_of rfl rfl rfl rfl) fun cls d _ H h => h)))) pss_nil)
      (pss_cons (ps_fldaug (pv 0) pe_int in_add)
      (pss_cons (ps_if (pt_val (pe_meth (pv 0) T.cl M.mA M.GA hr2 M.bA .nil pass0 (pa_cons pe_str pa_nil)))
        (pss_one (ps_ret (pe_meth (E := E) (pv 0) T.cl mLs GLs hr bLs .nil (passes_call (takes_of rfl rfl rfl rfl) fun cls d _ H h => h) (pa_cons (pv 1) pa_nil)))) pss_nil)
      (pss_one (ps_ret (pe_ifExp (pt_val (pe_meth (pv 0) T.cl M.mA M.GA hr2 M.bA .nil pass0 (pa_cons pe_str pa_nil)))
        (pe_meth (E := E) (pv 0) T.cl mDs GDs hr bDs .nil (passes_call (takes_of rfl rfl rfl rfl) fun cls d _ H h => h) (pa_cons (pv 1) pa_nil))
        (pe_meth0 (E := E) (pv 0) T.cl M.mL M.GL hr3 M.bL .nil (passes_call (takes_of rfl rfl rfl rfl) fun cls d _ H h => h))))))), ?_⟩
    obtain ⟨d, hd, ht⟩ := hrel n hn
    refine ifs_val (v := decide (m = 1000) || decide (k = 0)) (fun Q kk => tor_val (b := decide (m = 1000)) (c := decide (k = 0)) (fun Q kk => ?_) (fun _ Q kk => ?_) kk) (fun hb => ?_) (fun hb => nxt_run ?_)
    · refine ⟨_, rfl, r, C, dr, _, .int (m : Int), rfl, hR.h, T.cl, T.n5, rfl, rfl, _, rfl, ?_⟩
      rw [show decide (V.int (m : Int) = V.int 1000) = decide (m = 1000) from decide_eq_decide.mpr ⟨fun z => by have := V.int.inj z; omega, fun z => by rw [z]; rfl⟩]
      exact kk
    · refine ⟨_, rfl, _, _, rfl, rfl, _, rfl, ?_⟩
      rw [show decide ((60 : Int) < 61 - (k : Int)) = decide (k = 0) from decide_eq_decide.mpr (by omega)]
      exact kk
    · have he : partA ts k n m = .err (bgA ts n) := by
        cases k with
        | zero => rfl
        | succ k =>
          rw [Bool.or_eq_true, decide_eq_true_iff, decide_eq_true_iff] at hb
          rw [partA, if_pos (hb.resolve_right (by omega))]
      rw [he] at hout
      have e : (d.2.2.1 : Int) = (bgA ts n : Int) := by rw [ht.1]
      exact ⟨_, rfl, r, dr, _, rfl, hR.h, rfl, r, dr, L, pr, xs, ps, n, m, d, rfl, hR, hd, by rw [e]; exact BadB.bad hout But.refl⟩
    rw [Bool.or_eq_false_iff, decide_eq_false_iff_not, decide_eq_false_iff_not] at hb
    obtain ⟨k, rfl⟩ : ∃ i, k = i + 1 := ⟨k - 1, by omega⟩
    rw [partA, if_neg hb.1] at hout
    refine ⟨_, rfl, r, C, dr, _, .int (m : Int), rfl, hR.h, T.cl, T.n5, rfl, _, _, rfl, rfl, dr, _, hR.h, by show 5 < 1000; decide, ?_⟩
    have e : putF "many_parts" (.int ((m : Int) + 1)) (rdF L pr (n : Int) (m : Int)) = rdF L pr (n : Int) ((m + 1 : Nat) : Int) := by
      push_cast
      rfl
    have hR2 : Rd C CP r dr L pr xs ps n (m + 1) (upd H r (.ins C dr (putF "many_parts" (.int ((m : Int) + 1)) (rdF L pr (n : Int) (m : Int))))) := by
      rw [e]
      exact hR.put hne
    have b2 : But r H (upd H r (.ins C dr (putF "many_parts" (.int ((m : Int) + 1)) (rdF L pr (n : Int) (m : Int))))) := But.refl.upd
    dsimp only
    generalize upd H r (.ins C dr (putF "many_parts" (.int ((m : Int) + 1)) (rdF L pr (n : Int) (m : Int)))) = H2 at hR2 b2 ⊢
    have elev : V.int (61 - ((k + 1 : Nat) : Int)) = V.int (60 - (k : Int)) := by
      rw [show 61 - ((k + 1 : Nat) : Int) = 60 - (k : Int) by omega]
    have hm1 : m + 1 ≤ 1000 := by omega
    refine ⟨_, rfl, r, dr, _, rfl, hR2.h, rfl, r, dr, L, pr, xs, ps, n, m + 1, d, sg 91, rfl, hR2, hd, ht.2.1.1, fun H3 s3 => ⟨_, rfl, ?_⟩⟩
    rw [mt_at ht (by decide)]
    have hR3 := hR2.up s3
    have b3 := b2.trans (Same.but s3 r)
    have dom : ∀ {H' : Hp}, But r H H' → (∃ o, H' r = some o) → ∀ b, H' b = none → H b = none := fun b hr => but_dom b hr
    cases h1 : isMk 91 (tkA ts n) with
    | true =>
      rw [if_pos h1] at hout
      refine iteT ?_
      refine ret_run ⟨_, rfl, r, dr, _, rfl, hR3.h, rfl, _, rfl, r, dr, L, pr, xs, ps, ts, n, m + 1, k, by rw [elev]; rfl, by omega, by omega, hR3, hrel, hwf, hn, hm1, h1, ?_⟩
      cases hl : loopL (partA ts k) ts (ts.length + 1) (n + 1) (m + 1) [] with
      | err i =>
        rw [hl] at hout
        exact BadB.up hout b3
      | ok ds n4 m4 =>
        rw [hl] at hout
        intro H4 v b4 hR4 hv
        exact hout H4 v (b3.trans b4) hR4 (nh_base (dom b3 ⟨_, hR3.h⟩) hv)
    | false =>
      rw [if_neg (by rw [h1]; exact Bool.false_ne_true)] at hout
      refine iteF (nx_run ?_)
      dsimp only
      refine ret_run ⟨_, rfl, r, dr, _, rfl, hR3.h, rfl, r, dr, L, pr, xs, ps, n, m + 1, d, sg 123, rfl, hR3, hd, ht.2.1.1, fun H4 s4 => ⟨_, rfl, ?_⟩⟩
      rw [mt_at ht (by decide)]
      have hR4 := hR3.up s4
      have b4 := b3.trans (Same.but s4 r)
      cases h2 : isMk 123 (tkA ts n) with
      | true =>
        rw [if_pos h2] at hout
        refine iteT ?_
        refine ⟨_, rfl, r, dr, _, rfl, hR4.h, rfl, _, rfl, r, dr, L, pr, xs, ps, ts, n, m + 1, k, by rw [elev]; rfl, by omega, by omega, hR4, hrel, hwf, hn, hm1, h2, ?_⟩
        cases hl : loopD (partA ts k) ts (ts.length + 1) (n + 1) (m + 1) [] [] with
        | err i =>
          rw [hl] at hout
          exact BadB.up hout b4
        | ok rr n5 m5 =>
          obtain ⟨ks, ds⟩ := rr
          rw [hl] at hout
          intro H5 v b5 hR5 hv
          exact hout H5 v (b4.trans b5) hR5 (nh_base (dom b4 ⟨_, hR4.h⟩) hv)
      | false =>
        rw [if_neg (by rw [h2]; exact Bool.false_ne_true)] at hout
        refine iteF ?_
        refine ⟨_, rfl, r, dr, _, rfl, hR4.h, rfl, r, dr, L, pr, xs, ps, n, m + 1, d, rfl, hR4, hd, ht.2.1, fun v hv H5 b5 hR5 => ?_, fun hv => ?_⟩
        · rw [mt_leaf ht] at hv
          have hv : leafK (tkA ts n) = some v := hv
          rw [hv] at hout
          exact hout H5 v (b4.trans b5) hR5 (dOf_dv (lf_of hrel hn hv) _ _)
        · rw [mt_leaf ht] at hv
          have hv : leafK (tkA ts n) = none := hv
          rw [hv] at hout
          have e : (d.2.2.1 : Int) = (bgA ts n : Int) := by rw [ht.1]
          rw [e]
          exact BadB.bad hout b4
theorem fn_none {CX' : CXT} {k : Nat} {f : Addr} {fd : FuncData} {ps : List Str} {sp : Sp} (h : ∀ vs H Q E, ¬ sp vs H Q E) : FnOk P w K mg base CX' k f fd ps sp :=
  ⟨fun vs H Q E z => (h vs H Q E z).elim, fun A outer s H args us vs Q E _ _ _ _ z => (h vs H Q E z).elim⟩
theorem ok_read {f fLs fDs : Addr} {fd dLs dDs : FuncData} {u1000 u60 : Value} (F : Fun K "read_part" "DatumReader.read_part" sRead f fd) (FL : Fun K "_list" "DatumReader._list" sList fLs dLs) (FD : Fun K "_dict" "DatumReader._dict" sDict fDs dDs) (T : RCls K C) (M : RMeth P w K mg base C CP CT) (hne : C ≠ CP)
    (mRd : Meth K C "read_part" f) (bRd : Binds K fd ["self", "level"] []) (mLs : Meth K C "_list" fLs) (bLs : Binds K dLs ["self", "level"] []) (mDs : Meth K C "_dict" fDs) (bDs : Binds K dDs ["self", "level"] [])
    (m1 : mg "MOST_PARTS" = some u1000) (r1 : RelV (.int 1000) u1000) (m2 : mg "MOST_LEVELS" = some u60) (r2 : RelV (.int 60) u60) : ∀ j, FnOk P w K mg base (L2.CX P w) (4 + 2 * j) f fd ["self", "level"] (spRead C CP CT j)
  | 0 => ok_readS F T M hne mLs (fn_none (fun vs H Q E h => by
      obtain ⟨r, dr, L, pr, xs, ps, ts, n, m, k, _, hk, _⟩ := h
      omega)) bLs mDs (fn_none (fun vs H Q E h => by
      obtain ⟨r, dr, L, pr, xs, ps, ts, n, m, k, _, hk, _⟩ := h
      omega)) bDs m1 r1 m2 r2
  | j + 1 => by
    have ih := ok_read F FL FD T M hne mRd bRd mLs bLs mDs bDs m1 r1 m2 r2 j
    have e : 3 + 2 * (j + 1) = 5 + 2 * j := by omega
    exact ok_readS F T M hne mLs (by rw [e]; exact ok_list FL T M mRd ih bRd) bLs mDs (by rw [e]; exact ok_dict FD T M mRd ih bRd) bDs m1 r1 m2 r2
end
end Toy


namespace Toy
open PySem PySem.Spec L2 PyProof.Rows PySem.W
/-! ### the row of pieces that a text has, as far as data are concerned -/
def tkC (cs : List Nat) (a u : Nat) (f : Option Nat) : Tk × Nat :=
  if low u = true then (if runE letS.cps.toList cs a - a ≤ 8 then .word (cutC cs a (runE letS.cps.toList cs a)) else .bad, runE letS.cps.toList cs a)
  else if (u = 46 ∨ u = 36) ∧ fLow f = true then (.bad, a)
  else if u = 46 ∧ fDig f = true then (.bad, a)
  else if dig u = true then (if numR (10 ^ 30) (digR cs a) = true then .leaf (.int (numV (10 ^ 30) (digR cs a))) else .bad, runE digS.cps.toList cs a)
  else if u = 45 ∧ fDig f = true then (if (numR (10 ^ 30) (digR cs (a + 1)) && decide (0 < numV (10 ^ 30) (digR cs (a + 1)))) = true then .leaf (.int (-(numV (10 ^ 30) (digR cs (a + 1))))) else .bad, runE digS.cps.toList cs (a + 1))
  else if u = 34 then (if strR cs a = true then .leaf (.str (told (strG cs (a + 1) []).2)) else .bad, (strG cs (a + 1) []).1 + 1)
  else (if mrk u = true then .mark u else .bad, a + 1)
def lexA : Nat → List Nat → Nat → List (Tk × Nat)
  | 0, cs, _ => [(.fin, cs.length)]
  | n + 1, cs, i => match cs[i]? with
    | none => [(.fin, cs.length)]
    | some u => match tkC cs i u cs[i + 1]? with
      | (.bad, _) => [(.bad, i)]
      | (tk, e) => (tk, i) :: lexA n cs (gapE cs e)
def rowA (cs : List Nat) : List (Tk × Nat) := lexA (cs.length + 1) cs (gapE cs 0)
theorem lexA_ne : ∀ (n : Nat) (cs : List Nat) (i : Nat), lexA n cs i ≠ []
  | 0, _, _ => by simp [lexA]
  | n + 1, cs, i => by
    rw [lexA]
    split
    · simp
    · split <;> simp
theorem wf_lex : ∀ (n : Nat) (cs : List Nat) (i : Nat), Wf (lexA n cs i)
  | 0, cs, i => ⟨lexA_ne _ _ _, fun k h => by
    cases k with
    | zero => exact h.elim
    | succ k => exact h.elim⟩
  | n + 1, cs, i => by
    refine ⟨lexA_ne _ _ _, fun k h => ?_⟩
    rw [lexA] at h ⊢
    cases hu : cs[i]? with
    | none =>
      rw [hu] at h
      cases k with
      | zero => exact h.elim
      | succ k => exact h.elim
    | some u =>
      rw [hu] at h
      dsimp only at h ⊢
      have ih := wf_lex n cs
      cases ht : tkC cs i u cs[i + 1]? with
      | mk tk e =>
        rw [ht] at h
        have one : ∀ (tk : Tk), (match tkA ((tk, i) :: lexA n cs (gapE cs e)) k with | .bad => False | .fin => False | _ => True) → k + 1 < ((tk, i) :: lexA n cs (gapE cs e)).length := fun tk hh => by
          have hl : 0 < (lexA n cs (gapE cs e)).length := List.length_pos_iff.mpr (lexA_ne _ _ _)
          cases k with
          | zero =>
            rw [List.length_cons]
            omega
          | succ k =>
            have := (ih (gapE cs e)).2 k hh
            rw [List.length_cons]
            omega
        cases tk with
        | bad =>
          cases k with
          | zero => exact h.elim
          | succ k => exact h.elim
        | mark c => exact one _ h
        | word w => exact one _ h
        | leaf v => exact one _ h
        | fin => exact one _ h
theorem numV_nn {g : Int} (hg : 0 ≤ g) (ds : List Nat) : 0 ≤ numV g ds := by
  unfold numV
  split
  · exact Int.natCast_nonneg _
  · omega
theorem numR_le {g : Int} {ds : List Nat} (h : numR g ds = true) : numV g ds ≤ g := by
  unfold numR at h
  rw [Bool.and_eq_true] at h
  exact of_decide_eq_true h.1
theorem cut_head {cs : List Nat} {a e u : Nat} (h : cs[a]? = some u) (he : a < e) : ∃ l, (cutC cs a e).cps.toList = u :: l := by
  obtain ⟨hi, e1⟩ := List.getElem?_eq_some_iff.mp h
  unfold cutC
  rw [List.drop_eq_getElem_cons hi, e1]
  obtain ⟨n, hn⟩ : ∃ n, e - a = n + 1 := ⟨e - a - 1, by omega⟩
  rw [hn, List.take_succ_cons]
  exact ⟨_, rfl⟩
theorem nw1 : ("wrong" : Str) ≠ "mark" := by decide +kernel
theorem nw2 : ("wrong" : Str) ≠ "word" := by decide +kernel
theorem nw3 : ("wrong" : Str) ≠ "leaf" := by decide +kernel
theorem nw4 : ("wrong" : Str) ≠ "end" := by decide +kernel
theorem nlw : ("leaf" : Str) ≠ "word" := by decide +kernel
theorem nmw : ("mark" : Str) ≠ "word" := by decide +kernel
theorem new' : ("end" : Str) ≠ "word" := by decide +kernel
theorem nwr : ("word" : Str) ≠ wrongS := by decide +kernel
theorem nlr : ("leaf" : Str) ≠ wrongS := by decide +kernel
theorem nmr : ("mark" : Str) ≠ wrongS := by decide +kernel
/-- a piece of the program stands for the piece of the row -/
theorem mt_pc {cs : List Nat} {a u : Nat} (hu : cs[a]? = some u) : Mt (pdOf (pcA cs a u cs[a + 1]?) a) ((tkC cs a u cs[a + 1]?).1, a) ∧ ((tkC cs a u cs[a + 1]?).1 ≠ .bad → (pdOf (pcA cs a u cs[a + 1]?) a).1 ≠ wrongS ∧ (pdOf (pcA cs a u cs[a + 1]?) a).2.2.2 = (tkC cs a u cs[a + 1]?).2) := by
  have wrong : ∀ {p : Bool × Str × V × Nat}, p.1 = false → Mt (pdOf p a) (.bad, a) := fun {p} h => by
    unfold pdOf
    rw [if_neg (by rw [h]; exact Bool.false_ne_true)]
    exact ⟨rfl, ⟨.inl rfl, fun z => absurd z nw2⟩, nw1, nw2, nw3, nw4⟩
  have odd : ∀ {k : Str} {v : V} {e : Nat}, (v = .non ∨ (∃ i, v = .int i) ∨ ∃ z, v = .str z) → k ≠ "mark" → k ≠ "word" → k ≠ "leaf" → k ≠ "end" → ∀ b : Bool, Mt (pdOf (b, k, v, e) a) (.bad, a) := fun {k v e} h h1 h2 h3 h4 b => by
    cases b with
    | false => exact wrong rfl
    | true => exact ⟨rfl, ⟨h, fun z => absurd z h2⟩, h1, h2, h3, h4⟩
  have right : ∀ {k : Str} {v : V} {e : Nat}, pdOf (true, k, v, e) a = (k, v, a, e) := rfl
  unfold pcA tkC
  by_cases h1 : low u = true
  · simp only [if_pos h1]
    unfold wordA
    by_cases h8 : runE letS.cps.toList cs a - a ≤ 8
    · simp only [if_pos h8, decide_eq_true h8]
      have hgt := runE_gt hu ((letS_in u).mpr (of_decide_eq_true h1))
      obtain ⟨l, hl⟩ := cut_head hu hgt
      refine ⟨⟨rfl, ⟨.inr (.inr ⟨_, rfl⟩), fun _ => ⟨_, rfl⟩⟩, rfl, rfl, fun c hc e => ?_⟩, fun _ => ⟨nwr, rfl⟩⟩
      rw [e] at hl
      have : c = u := by
        have z : (sg c).cps.toList = [c] := rfl
        rw [z] at hl
        exact (List.cons.inj hl).1
      rw [this, h1] at hc
      cases hc
    · simp only [if_neg h8, decide_eq_false h8]
      exact ⟨wrong rfl, fun z => absurd rfl z⟩
  simp only [if_neg h1]
  by_cases h2 : (u = 46 ∨ u = 36) ∧ fLow cs[a + 1]? = true
  · simp only [if_pos h2]
    refine ⟨?_, fun z => absurd rfl z⟩
    unfold nameA
    refine odd (.inr (.inr ⟨_, rfl⟩)) ?_ ?_ ?_ ?_ _ <;> (split <;> decide +kernel)
  simp only [if_neg h2]
  by_cases h3 : u = 46 ∧ fDig cs[a + 1]? = true
  · simp only [if_pos h3]
    refine ⟨?_, fun z => absurd rfl z⟩
    exact odd (.inr (.inl ⟨_, rfl⟩)) (by decide +kernel) (by decide +kernel) (by decide +kernel) (by decide +kernel) _
  simp only [if_neg h3]
  by_cases h4 : dig u = true
  · simp only [if_pos h4]
    unfold posA
    cases h9 : numR (10 ^ 30) (digR cs a) with
    | true =>
      rw [if_pos rfl]
      refine ⟨⟨rfl, ⟨.inr (.inl ⟨_, rfl⟩), fun z => absurd z nlw⟩, rfl, rfl, ?_⟩, fun _ => ⟨nlr, rfl⟩⟩
      have e1 := numR_le h9
      have e2 := numV_nn (g := 10 ^ 30) (by decide) (digR cs a)
      exact decide_eq_true (by omega)
    | false =>
      rw [if_neg Bool.false_ne_true]
      exact ⟨wrong rfl, fun z => absurd rfl z⟩
  simp only [if_neg h4]
  by_cases h5 : u = 45 ∧ fDig cs[a + 1]? = true
  · simp only [if_pos h5]
    unfold negA
    cases h9 : (numR (10 ^ 30) (digR cs (a + 1)) && decide (0 < numV (10 ^ 30) (digR cs (a + 1)))) with
    | true =>
      rw [if_pos rfl]
      refine ⟨⟨rfl, ⟨.inr (.inl ⟨_, rfl⟩), fun z => absurd z nlw⟩, rfl, rfl, ?_⟩, fun _ => ⟨nlr, rfl⟩⟩
      rw [Bool.and_eq_true] at h9
      have e1 := numR_le h9.1
      have e2 := numV_nn (g := 10 ^ 30) (by decide) (digR cs (a + 1))
      exact decide_eq_true (by omega)
    | false =>
      rw [if_neg Bool.false_ne_true]
      exact ⟨wrong rfl, fun z => absurd rfl z⟩
  simp only [if_neg h5]
  by_cases h6 : u = 34
  · simp only [if_pos h6]
    unfold textA
    cases h9 : strR cs a with
    | true =>
      rw [if_pos rfl]
      refine ⟨⟨rfl, ⟨.inr (.inr ⟨_, rfl⟩), fun z => absurd z nlw⟩, rfl, rfl, ?_⟩, fun _ => ⟨nlr, rfl⟩⟩
      unfold strR at h9
      rw [Bool.and_eq_true] at h9
      exact h9.2
    | false =>
      rw [if_neg Bool.false_ne_true]
      exact ⟨wrong rfl, fun z => absurd rfl z⟩
  simp only [if_neg h6]
  unfold markA
  cases h9 : mrk u with
  | true =>
    rw [if_pos rfl]
    exact ⟨⟨rfl, ⟨.inr (.inr ⟨_, rfl⟩), fun z => absurd z nmw⟩, rfl, rfl⟩, fun _ => ⟨nmr, rfl⟩⟩
  | false =>
    rw [if_neg Bool.false_ne_true]
    exact ⟨wrong rfl, fun z => absurd rfl z⟩
def endD (cs : List Nat) : PD := (("end" : Str), V.non, cs.length, cs.length)
theorem mt_end (cs : List Nat) : Mt (endD cs) (.fin, cs.length) := ⟨rfl, ⟨.inl rfl, fun z => absurd z new'⟩, rfl⟩
theorem rel_one {d : PD} {t : Tk × Nat} {ps : List PD} (h : Mt d t) : RelP (d :: ps) [t] := fun n hn => by
  cases n with
  | zero => exact ⟨d, rfl, h⟩
  | succ n =>
    rw [List.length_singleton] at hn
    omega
theorem rel_cons {d : PD} {t : Tk × Nat} {ps : List PD} {ts : List (Tk × Nat)} (h : Mt d t) (r : RelP ps ts) : RelP (d :: ps) (t :: ts) := fun n hn => by
  cases n with
  | zero => exact ⟨d, rfl, h⟩
  | succ n =>
    obtain ⟨d', h1, h2⟩ := r n (by rw [List.length_cons] at hn; omega)
    exact ⟨d', h1, h2⟩
theorem rel_lex : ∀ (n : Nat) (cs : List Nat) (i : Nat), cs.length < n + i → i ≤ cs.length → RelP (lexP n cs i ++ [endD cs]) (lexA n cs i)
  | 0, cs, i, h, hi => by omega
  | n + 1, cs, i, h, hi => by
    rw [lexP, lexA]
    cases hu : cs[i]? with
    | none => exact rel_one (mt_end cs)
    | some u =>
      dsimp only
      have m := mt_pc hu
      have he := pcA_end hu
      generalize pdOf (pcA cs i u cs[i + 1]?) i = d at m he
      have first : ∀ (l : List PD), ∃ l', (if d.1 = wrongS then [d] else d :: l) ++ [endD cs] = d :: l' := fun l => by
        split
        · exact ⟨_, rfl⟩
        · exact ⟨_, rfl⟩
      cases ht : tkC cs i u cs[i + 1]? with
      | mk tk e =>
        rw [ht] at m
        have go : tk ≠ .bad → RelP ((if d.1 = wrongS then [d] else d :: lexP n cs (gapE cs d.2.2.2)) ++ [endD cs]) ((tk, i) :: lexA n cs (gapE cs e)) := fun hb => by
          obtain ⟨w1, w2⟩ := m.2 hb
          have w2 : d.2.2.2 = e := w2
          rw [if_neg w1, w2]
          have g := gapE_le cs.length (cs := cs) (i := e) (by omega) (by rw [← w2]; exact he.2)
          exact rel_cons m.1 (rel_lex n cs (gapE cs e) (by have := he.1; omega) g.2)
        cases tk with
        | bad =>
          obtain ⟨l', hl⟩ := first (lexP n cs (gapE cs d.2.2.2))
          dsimp only
          rw [hl]
          exact rel_one m.1
        | mark c => exact go (by intro z; cases z)
        | word w => exact go (by intro z; cases z)
        | leaf v => exact go (by intro z; cases z)
        | fin => exact go (by intro z; cases z)
theorem rel_row (cs : List Nat) : RelP (allP cs) (rowA cs) := by
  have g := gapE_le cs.length (cs := cs) (i := 0) (by omega) (Nat.zero_le _)
  exact rel_lex (cs.length + 1) cs (gapE cs 0) (by omega) g.2
theorem wf_row (cs : List Nat) : Wf (rowA cs) := wf_lex _ _ _
end Toy


namespace Toy
open PySem PySem.Spec L2 PyProof.Rows PySem.W NdefX
/-! ### a reader is made; a text is read -/
abbrev sDR : Stmt := top 31
abbrev sRD : Stmt := top 39
/-- what is handed in: a text that is not too long, or a value of another kind -/
def Page (K : PySem.W.Frag) (H : Hp) (v : V) : Prop := (∃ z, v = .str z ∧ z.length ≤ 1000000) ∨ ∃ t, (∀ H', Same H H' → TyX K H' v t) ∧ PySem.W.kitOne K t (.type "str") = some false
theorem Page.up {K : PySem.W.Frag} {H H' : Hp} {v : V} (h : Page K H v) (s : Same H H') : Page K H' v := h.imp id fun ⟨t, h1, h2⟩ => ⟨t, fun H2 s2 => h1 H2 (s.trans s2), h2⟩
def spRI (C CP CT : Addr) (K : PySem.W.Frag) : Sp := fun vs H Q E => ∃ (x dx : Addr) (v : V), vs = [.ref x, v] ∧ H x = some (.ins C dx []) ∧ Page K H v ∧
  (∀ z, v = .str z → ∀ H' L pr xs, But x H H' → H' x = some (.ins C dx [("pieces", .ref L), ("number", .int 0), ("many_open", .int 0), ("pairs", .ref pr)]) → H' L = some (.lst xs) → Paired (PcAt H' CP) xs (allP z.cps.toList) → Q .non H') ∧
  ((∀ z, v ≠ .str z) → Bad CT 0 H E)
def spDI (C CP CT : Addr) (K : PySem.W.Frag) : Sp := fun vs H Q E => ∃ (x dx : Addr) (v : V), vs = [.ref x, v] ∧ H x = some (.ins C dx []) ∧ Page K H v ∧
  (∀ z, v = .str z → ∀ H' L pr xs, But x H H' → Rd C CP x dx L pr xs (allP z.cps.toList) 0 0 H' → Q .non H') ∧ ((∀ z, v ≠ .str z) → Bad CT 0 H E)
theorem no_str {K : PySem.W.Frag} {H : Hp} {v : V} {t : Value} {z : Str} (e : v = .str z) (h1 : TyX K H v t) (h2 : PySem.W.kitOne K t (.type "str") = some false) : False := by
  subst e
  cases h1 with
  | base h =>
    cases h
    have : PySem.W.kitOne K (.type "str") (.type "str") = some true := kit_ty (by decide +kernel)
    rw [this] at h2
    cases h2
theorem scRI : FnScope ["self", "text"] ["self", "text"] (defScope sRI) := ⟨rfl, rfl, rfl, by decide +kernel, rfl, by decide +kernel, by decide +kernel⟩
section
variable {P : Program} {w : World} {K : PySem.W.Frag} {mg : Str → Option Value} {base : Heap} {C CP CT : Addr}
theorem ok_ri {f fP : Addr} {fd fdP : FuncData} (F : Fun K "__init__" "Reader.__init__" sRI f fd) (T : RCls K C) (T1 : Cl1 K CT "index") (R1 : ClR K CT) (mT : mg "InvalidText" = some (.ref CT))
    (GP : FnOk P w K mg base CX0 6 fP fdP ["text"] (spPs CP)) (mP : mg "pieces_of" = some (.ref fP)) (kP : PySem.W.keepIn K (.ref fP) = true) (bP : Binds K fdP ["text"] [])
    (mI : mg "isinstance" = none) (mS : mg "str" = none) : FnOk P w K mg base (L2.CX P w) 7 f fd ["self", "text"] (spRI C CP CT K) := by
  refine F.okX (k := 6) scRI (fun vs H Q E h => ?_) (fun cdv A outer s H vs Q E hr h => ?_)
  · obtain ⟨x, dx, v, rfl, _⟩ := h
    rfl
  · obtain ⟨x, dx, v, rfl, hx, hpg, q1, q0⟩ := h
    have hr1 := hr.mono (show 1 ≤ 6 by decide)
    have tk : Takes (cxOf (L2.CX P w) P w K mg base ["self", "text"] "Reader.__init__" (defScope sRI) f cdv A outer s H E) (fun cls d _ H' => E cls d H') := takes_of rfl rfl rfl rfl
    refine ⟨_, pss_cons (ps_if (pt_not (pt_val (pe_callB call_isi (by rfl) mI PyProof.Rows.boot_isinstance (pa_cons (pv 1) (pa_cons (pe_bltn (v := .ty "str") (by rfl) mS (by decide +kernel) rfl) pa_nil)))))
        (pss_one (ps_raise rfl tk (pmk_x1 T1 R1 hr1 mT (by rfl) (pa_cons pe_int pa_nil)))) pss_nil)
      (pss_cons (ps_fld (pv 0) (pe_call GP hr (by rfl) mP kP bP .nil pass0 (pa_cons (pv 1) pa_nil)) rfl)
      (pss_cons (ps_fld (pv 0) pe_int rfl)
      (pss_cons (ps_fld (pv 0) pe_int rfl)
      (pss_one (ps_fld (pv 0) (pe_lst pa_nil) rfl))))), ?_⟩
    rcases hpg with ⟨z, rfl, hz⟩ | ⟨t, ht1, ht2⟩
    · refine ⟨_, rfl, _, _, _, _, true, rfl, .ty _, .base (.str z), kit_ty (by decide +kernel), _, rfl, iteF (nx_run ?_)⟩
      dsimp only
      refine ⟨_, rfl, z, rfl, hz, fun H1 L xs s1 nL hL hxl hps => ?_⟩
      have hx1 := s1 _ _ hx
      refine ⟨_, rfl, x, C, dx, _, rfl, hx1, T.cl, T.n1, by show ([] : List (Str × V)).length < 1000; decide, ?_⟩
      refine ⟨_, rfl, x, C, dx, _, rfl, upd_same, T.cl, T.n2, by show 1 < 1000; decide, ?_⟩
      refine ⟨_, rfl, x, C, dx, _, rfl, upd_same, T.cl, T.n3, by show 2 < 1000; decide, ?_⟩
      have nxL : L ≠ x := (ne_of_none hx nL).symm
      have keep : ∀ b o, b ≠ x → H1 b = some o → (upd (upd (upd H1 x (.ins C dx (putF "pieces" (V.ref L) []))) x (.ins C dx (putF "number" (V.int 0) (putF "pieces" (V.ref L) [])))) x (.ins C dx (putF "many_open" (V.int 0) (putF "number" (V.int 0) (putF "pieces" (V.ref L) []))))) b = some o := fun b o h1 e => by
        rw [upd_ne h1, upd_ne h1, upd_ne h1]
        exact e
      have hx5 : (upd (upd (upd H1 x (.ins C dx (putF "pieces" (V.ref L) []))) x (.ins C dx (putF "number" (V.int 0) (putF "pieces" (V.ref L) [])))) x (.ins C dx (putF "many_open" (V.int 0) (putF "number" (V.int 0) (putF "pieces" (V.ref L) []))))) x = some (.ins C dx (putF "many_open" (V.int 0) (putF "number" (V.int 0) (putF "pieces" (V.ref L) [])))) := upd_same
      generalize (upd (upd (upd H1 x (.ins C dx (putF "pieces" (V.ref L) []))) x (.ins C dx (putF "number" (V.int 0) (putF "pieces" (V.ref L) [])))) x (.ins C dx (putF "many_open" (V.int 0) (putF "number" (V.int 0) (putF "pieces" (V.ref L) []))))) = H5 at keep hx5 ⊢
      refine ⟨few (by show 0 ≤ 1000; decide), fun pr npr => ?_⟩
      have nxp : x ≠ pr := ne_of_none hx5 npr
      refine ⟨_, rfl, x, C, dx, _, rfl, (upd_ne nxp).trans hx5, T.cl, T.n4, by show 3 < 1000; decide, ?_⟩
      have keep2 : ∀ (u : HO) b o, b ≠ x → H1 b = some o → (upd (upd H5 pr (.lst [])) x u) b = some o := fun u b o h1 e => by
        have e5 := keep b o h1 e
        rw [upd_ne h1, upd_ne (ne_of_none e5 npr)]
        exact e5
      refine q1 z rfl _ L pr xs (fun b o h1 e => keep2 _ b o h1 (s1 _ _ e)) upd_same (keep2 _ L _ nxL hL) (L2.Paired.mapP hps fun y d hy => ?_)
      obtain ⟨xy, dxy, ey, hxy⟩ := hy
      exact ⟨xy, dxy, ey, keep2 _ xy _ (ne_of hxy hx1 (by intro z; cases z)) hxy⟩
    · have ht1 := ht1 H same_id
      refine ⟨_, rfl, _, _, _, _, false, rfl, .ty _, ht1, ht2, _, rfl, iteT ?_⟩
      exact ⟨_, rfl, fun dd ndd => q0 (fun z e => no_str e ht1 ht2) _ dd (same_new same_id ndd) upd_same⟩
/-- what is known of DatumReader.__init__, a def over a cell -/
structure DIni (K : PySem.W.Frag) (P : Program) (C f fR : Addr) (fd : FuncData) : Prop where
  ex : ∃ (cda cc : Addr) (kV doc pm ct oc : Value) (an od : Option Addr) (osl : Array (Option Value)), fd = PySem.W.fnX "__init__" "DatumReader.__init__" (defArgs sDI) (defBody sDI) (defScope sDI) [("__class__", cc)] .none kV doc pm an (.ref cda) ct ∧ K.lookup f = some ⟨oc, od, .func fd, osl⟩ ∧ PySem.W.codeIn K (.ref cda) "DatumReader.__init__" = true ∧
    L2.SupK K P f cda cc C C fR fd
  bd : Binds K fd ["self", "text"] []
theorem scDI : NScope ["self", "text", "__class__"] ["self", "text"] ["__class__"] (defScope sDI) := nscope_by (by decide +kernel)
theorem ok_di {f fR : Addr} {fd fdR : FuncData} (F : DIni K P C f fR fd) (T : RCls K C) (GR : FnOk P w K mg base (L2.CX P w) 7 fR fdR ["self", "text"] (spRI C CP CT K)) (bR : Binds K fdR ["self", "text"] []) (mS : mg "super" = none) :
    FnOk P w K mg base (L2.CX P w) 8 f fd ["self", "text"] (spDI C CP CT K) := by
  obtain ⟨cda, cc, kV, doc, pm, ct, oc, an, od, osl, rfl, lk, hcd, kx⟩ := F.ex
  refine fn_super (k := 7) (N := ["self", "text", "__class__"]) (me := "self") lk hcd scDI kx ⟨_, rfl, rfl⟩ (by decide +kernel) (by decide +kernel) rfl mS GR (Nat.le_refl _) bR (fun vs H Q E h => ?_) (fun L => rfl) (fun L => ⟨_, rfl⟩) (fun L => rfl) (fun A outer s H vs Q E hr h => ?_)
  · obtain ⟨x, dx, v, rfl, _⟩ := h
    rfl
  · obtain ⟨x, dx, v, rfl, hx, hpg, q1, q0⟩ := h
    refine ⟨x, dx, [], _, _, rfl, hx, pv 1, pss_one (ps_fld (pv 0) pe_int rfl), ?_⟩
    refine ⟨_, rfl, x, dx, v, rfl, hx, hpg, fun z hz H1 L pr xs b1 hx1 hL hps => ?_, q0⟩
    refine ⟨_, rfl, x, C, dx, _, rfl, hx1, T.cl, T.n5, by show 4 < 1000; decide, ?_⟩
    refine q1 z hz _ L pr xs b1.upd ⟨upd_same, (upd_ne (ne_of hL hx1 (by intro z; cases z))).trans hL, L2.Paired.mapP hps fun y d hy => ?_⟩
    obtain ⟨xy, dxy, ey, hxy⟩ := hy
    exact ⟨xy, dxy, ey, (upd_ne (ne_of hxy hx1 (by intro z; cases z))).trans hxy⟩
end
end Toy


namespace Toy
open PySem PySem.Spec L2 PyProof.Rows PySem.W
def finK : Tk → Bool
  | .fin => true
  | _ => false
theorem nme : ("mark" : Str) ≠ "end" := by decide +kernel
theorem nwe : ("word" : Str) ≠ "end" := by decide +kernel
theorem nle : ("leaf" : Str) ≠ "end" := by decide +kernel
theorem mt_fin {d : PD} {t : Tk × Nat} (h : Mt d t) : decide (d.1 = "end") = finK t.1 := by
  obtain ⟨tk, b⟩ := t
  obtain ⟨_, _, h3⟩ := h
  cases tk with
  | mark e =>
    rw [h3.1]
    exact decide_eq_false nme
  | word w =>
    rw [h3.1]
    exact decide_eq_false nwe
  | leaf v =>
    rw [h3.1]
    exact decide_eq_false nle
  | bad => exact decide_eq_false h3.2.2.2
  | fin => exact decide_eq_true h3
theorem datum_ok {ts : List (Tk × Nat)} {t : D} {n m : Nat} (h : partA ts 60 0 0 = .ok t n m) : datumA ts = if finK (tkA ts n) = true then .ok t n m else .err (bgA ts n) := by
  unfold datumA
  rw [h]
  dsimp only
  cases tkA ts n <;> rfl
def spDR (CT : Addr) (K : PySem.W.Frag) : Sp := fun vs H Q E => ∃ v : V, vs = [v] ∧ Page K H v ∧
  (∀ z, v = .str z → Out (datumA (rowA z.cps.toList)) (fun t _ _ => ∀ H' u, Same H H' → Dv 60 (newH H H') u t → Q u H') (fun i => Bad CT (i : Int) H E)) ∧ ((∀ z, v ≠ .str z) → Bad CT 0 H E)
theorem scDR : FnScope ["text", "reader", "datum"] ["text"] (defScope sDR) := ⟨rfl, rfl, rfl, by decide +kernel, rfl, by decide +kernel, by decide +kernel⟩
theorem scRD : FnScope ["text"] ["text"] (defScope sRD) := ⟨rfl, rfl, rfl, by decide +kernel, rfl, by decide +kernel, by decide +kernel⟩
theorem row_pos (cs : List Nat) : 0 < (rowA cs).length := List.length_pos_iff.mpr (lexA_ne _ _ _)
section
variable {P : Program} {w : World} {K : PySem.W.Frag} {mg : Str → Option Value} {base : Heap} {C CP CT : Addr}
theorem ok_dr {f fI fRd fP fP' : Addr} {fd dI dRd dP : FuncData} (F : Fun K "datum_read" "datum_read" sDR f fd) (T : RCls K C) (TP : PCls K CP fP') (M : RMeth P w K mg base C CP CT)
    (MK : Mk K C fI) (mC : mg "DatumReader" = some (.ref C)) (GI : FnOk P w K mg base (L2.CX P w) 8 fI dI ["self", "text"] (spDI C CP CT K)) (bI : Binds K dI ["self", "text"] [])
    (mRd : Meth K C "read_part" fRd) (GRd : FnOk P w K mg base (L2.CX P w) 124 fRd dRd ["self", "level"] (spRead C CP CT 60)) (bRd : Binds K dRd ["self", "level"] [])
    (mP : Meth K C "piece" fP) (GP : FnOk P w K mg base CX0 1 fP dP ["self"] (spPiece C CP)) (bP : Binds K dP ["self"] []) : FnOk P w K mg base (L2.CX P w) 125 f fd ["text"] (spDR CT K) := by
  refine F.okX (k := 124) scDR (fun vs H Q E h => ?_) (fun cdv A outer s H vs Q E hr h => ?_)
  · obtain ⟨v, rfl, _⟩ := h
    rfl
  · obtain ⟨v, rfl, hpg, q1, q0⟩ := h
    have hr1 := hr.mono (show 1 ≤ 124 by decide)
    have hr2 := hr.mono (show 2 ≤ 124 by decide)
    have hr9 := hr.mono (show 9 ≤ 124 by decide)
    refine ⟨_, pss_cons (ps_set (i := 1) scDR.nd rfl (Or.inl rfl) (pe_make (E := E) MK GI hr9 (by rfl) mC bI .nil (passes_call (takes_of rfl rfl rfl rfl) fun cls d _ H h => h) (pa_cons (pv 0) pa_nil)))
      (pss_cons (ps_set (i := 2) scDR.nd rfl (Or.inl rfl) (pe_meth (E := E) (pv 1) T.cl mRd GRd hr bRd .nil (passes_call (takes_of rfl rfl rfl rfl) fun cls d _ H h => h) (pa_cons pe_int pa_nil)))
      (pss_cons (ps_if (pt_cmpR op_ne (pe_fld (pe_meth0 (pv 1) T.cl mP GP hr1 bP .nil pass0) rfl) pe_str (nomark _)) (pss_one (ps_expr (pe_meth0 (E := E) (pv 1) T.cl M.mR M.GR hr2 M.bR .nil (passes_call (takes_of rfl rfl rfl rfl) fun cls d _ H h => h)))) pss_nil)
      (pss_one (ps_ret (pv 2))))), ?_⟩
    refine asg_run ⟨_, rfl, fun x dx nx ndx ne => ?_⟩
    have s0 : Same H (upd (upd H dx (.own x)) x (.ins C dx [])) := made_same nx ndx fun b _ => rfl
    have hx0 : (upd (upd H dx (.own x)) x (.ins C dx [])) x = some (.ins C dx []) := upd_same
    have back : ∀ {H' : Hp}, But x (upd (upd H dx (.own x)) x (.ins C dx [])) H' → Same H H' := fun b c o e => b c o (ne_of_none e nx) (s0 c o e)
    have dom0 : ∀ b, (upd (upd H dx (.own x)) x (.ins C dx [])) b = none → H b = none := fun b e => by
      cases q : H b with
      | none => rfl
      | some o => rw [s0 b o q] at e; cases e
    generalize upd (upd H dx (.own x)) x (.ins C dx []) = H0 at s0 hx0 back dom0 ⊢
    have hpg0 := hpg.up s0
    refine ⟨x, dx, v, rfl, hx0, hpg0, fun z hz H1 L pr xs b1 hR => ⟨rfl, ?_⟩, fun hn => (q0 hn).up s0⟩
    have q1 := q1 z hz
    have hrel := rel_row z.cps.toList
    have hwf := wf_row z.cps.toList
    refine asg_run ⟨_, rfl, x, dx, _, rfl, hR.h, rfl, x, dx, L, pr, xs, _, rowA z.cps.toList, 0, 0, 60, rfl, Nat.le_refl _, Nat.le_refl _, hR, hrel, hwf, row_pos _, Nat.zero_le _, ?_⟩
    cases hp : partA (rowA z.cps.toList) 60 0 0 with
    | err i =>
      have e : datumA (rowA z.cps.toList) = .err i := by
        unfold datumA
        rw [hp]
      rw [e] at q1
      exact fun H2 dd b2 he => q1 H2 dd (back (b1.trans b2)) he
    | ok t n m =>
      have g := goes_part hwf 60 0 0 t n m (row_pos _) (Nat.zero_le _) hp
      rw [datum_ok hp] at q1
      intro H2 u b2 hR2 hu
      obtain ⟨d, hd, ht⟩ := hrel n g.2.1
      have b02 := b1.trans b2
      refine ifs_val (v := !finK (tkA (rowA z.cps.toList) n)) (fun Q k => ⟨_, rfl, x, dx, _, rfl, hR2.h, rfl, x, dx, L, pr, xs, _, n, m, d, rfl, hR2, hd, fun y dy hy => ⟨y, CP, dy, _, .str d.1, rfl, hy, TP.cl, TP.nk, rfl, rfl, _, rfl, ?_⟩⟩) (fun hb => ?_) (fun hb => nxt_run ?_)
      · rw [dec_s, mt_fin ht]
        exact k
      · have hb : finK (tkA (rowA z.cps.toList) n) = false := by simpa using hb
        rw [if_neg (by rw [hb]; exact Bool.false_ne_true)] at q1
        refine ⟨_, rfl, x, dx, _, rfl, hR2.h, rfl, x, dx, L, pr, xs, _, n, m, d, rfl, hR2, hd, ?_⟩
        have e : (d.2.2.1 : Int) = (bgA (rowA z.cps.toList) n : Int) := by rw [ht.1]
        rw [e]
        exact fun H3 dd s3 he => q1 H3 dd ((back b02).trans s3) he
      · have hb : finK (tkA (rowA z.cps.toList) n) = true := by simpa using hb
        rw [if_pos hb] at q1
        exact ret_run ⟨_, rfl, q1 H2 u (back b02) (nh_base (fun b e => dom0 b (but_dom b1 ⟨_, hR.h⟩ b e)) hu)⟩
theorem ok_rd {f fR : Addr} {fd dR : FuncData} (F : Fun K "read_datum" "read_datum" sRD f fd) (GR : FnOk P w K mg base (L2.CX P w) 125 fR dR ["text"] (spDR CT K)) (mR : mg "datum_read" = some (.ref fR)) (kR : PySem.W.keepIn K (.ref fR) = true) (bR : Binds K dR ["text"] []) :
    FnOk P w K mg base (L2.CX P w) 126 f fd ["text"] (spDR CT K) := by
  refine F.okX (k := 125) scRD (fun vs H Q E h => ?_) (fun cdv A outer s H vs Q E hr h => ?_)
  · obtain ⟨v, rfl, _⟩ := h
    rfl
  · obtain ⟨v, rfl, h⟩ := h
    exact ⟨_, pss_one (ps_ret (pe_call (E := E) GR hr (by rfl) mR kR bR .nil (passes_call (takes_of rfl rfl rfl rfl) fun cls d _ H h => h) (pa_cons (pv 0) pa_nil))), _, rfl, v, rfl, h⟩
end
end Toy


namespace Toy
open PySem PySem.Spec L2 PyProof.Rows PySem.W
theorem str_ext {a b : Str} (h : a.cps.toList = b.cps.toList) : a = b := by
  cases a; cases b
  simpa using h
theorem none_back {H H1 : Hp} {p : Addr} (s : Same H H1) (n : H1 p = none) : H p = none := by
  cases e : H p with
  | none => rfl
  | some o => rw [s _ _ e] at n; cases n
section
variable {X : Cx}
theorem op_eqE (hu : X.A.units + 64 < cLine) : OpR X (compareOp .Eq) (fun x y H Q => ∃ (a b : Addr) (xs : List V), x = .ref a ∧ y = .ref b ∧ H a = some (.lst xs) ∧ H b = some (.lst []) ∧ Q (.bl xs.isEmpty) H) := by
  intro pins s σ H x y v u Q I rx ry h
  obtain ⟨a, b, xs, rfl, rfl, ha, hb, q⟩ := h
  cases rx
  cases ry
  obtain ⟨its, r, pl, _⟩ := I.list (SqL.of ha)
  obtain ⟨its2, r2, pl2, _⟩ := I.list (SqL.of hb)
  cases r2
  have hu' : X.A.units < cLine := by omega
  cases r with
  | nil =>
    exact SeqAt.eq_listAt (e := fun _ => true) pl.isList pl2.isList rfl hu' (fun j h1 _ => by simp at h1) ⟨.bl true, H, I, rfl, q⟩
  | cons r1 rr =>
    exact SeqAt.eq_list_lengthsAt pl.isList pl2.isList (by simp) hu' ⟨.bl false, H, I, rfl, q⟩
end
theorem op_neE {X : Cx} (hu : X.A.units + 64 < cLine) : OpR X (compareOp .NotEq) (fun x y H Q => ∃ (a b : Addr) (xs : List V), x = .ref a ∧ y = .ref b ∧ H a = some (.lst xs) ∧ H b = some (.lst []) ∧ Q (.bl (!xs.isEmpty)) H) := by
  intro pins s σ H x y v u Q I rx ry h
  obtain ⟨a, b, xs, rfl, rfl, ha, hb, q⟩ := h
  cases rx
  cases ry
  obtain ⟨its, r, pl, _⟩ := I.list (SqL.of ha)
  obtain ⟨its2, r2, pl2, _⟩ := I.list (SqL.of hb)
  cases r2
  have hu' : X.A.units < cLine := by omega
  cases r with
  | nil =>
    exact SeqAt.RcNeAt.lists (e := fun _ => true) pl.isList pl2.isList rfl hu' (fun j h1 _ => by simp at h1) _ _ _ _ ⟨.bl false, H, I, rfl, q⟩
  | cons r1 rr =>
    exact SeqAt.RcNeAt.lists_lengths pl.isList pl2.isList (by simp) hu' _ _ _ _ ⟨.bl true, H, I, rfl, q⟩
theorem kv_app {ks ks2 : List Str} {us us2 : List V} (h : us.length = ks.length) : kvOf ks us ++ kvOf ks2 us2 = kvOf (ks ++ ks2) (us ++ us2) := by
  unfold kvOf
  rw [List.zip_append h.symm, List.map_append]
theorem merge_kv : ∀ (ks2 : List Str) (us2 : List V) (ks : List Str) (us : List V), us.length = ks.length → us2.length = ks2.length → (ks ++ ks2).Nodup → mergeK (kvOf ks us) (kvOf ks2 us2) = kvOf (ks ++ ks2) (us ++ us2)
  | [], [], ks, us, _, _, _ => by
    rw [List.append_nil, List.append_nil]
    rfl
  | [], _ :: _, _, _, _, h, _ => by cases h
  | _ :: _, [], _, _, _, h, _ => by cases h
  | k :: ks2, u :: us2, ks, us, h1, h2, hn => by
    have hk : k ∉ ks := fun z => by
      rw [List.nodup_append] at hn
      exact hn.2.2 k z k List.mem_cons_self rfl
    have e : mergeK (kvOf ks us) (kvOf (k :: ks2) (u :: us2)) = mergeK (putK (kvOf ks us) (Sum.inr k) u) (kvOf ks2 us2) := rfl
    rw [e, kv_put h1 hk, merge_kv ks2 us2 (ks ++ [k]) (us ++ [u]) (by simp [h1]) (by simpa using h2) (by rw [List.append_assoc]; exact hn), List.append_assoc, List.append_assoc]
    rfl
theorem ifs_valS {c : TT} {a b rest : TS} {v : Bool} {D : Ends} {σ : L2.St} {H : Hp} (h : ∀ Q : Bool → Hp → Prop, (∀ H', Same H H' → Q v H') → c σ H Q) (qt : v = true → ∀ H', Same H H' → tSeq a rest D σ H') (qf : v = false → ∀ H', Same H H' → tSeq b rest D σ H') : tSeq (tIfS c a b) rest D σ H := by
  refine h _ fun H' s => ?_
  cases v with
  | true => exact iteT (qt rfl H' s)
  | false => exact iteF (qf rfl H' s)
theorem tand_valS {t u : TT} {b c : Bool} {σ : L2.St} {H : Hp} {Q : Bool → Hp → Prop} (h1 : ∀ Q : Bool → Hp → Prop, (∀ H', Same H H' → Q b H') → t σ H Q) (h2 : b = true → ∀ H1, Same H H1 → ∀ Q : Bool → Hp → Prop, (∀ H', Same H1 H' → Q c H') → u σ H1 Q) (q : ∀ H', Same H H' → Q (b && c) H') : tAnd t u σ H Q := by
  refine h1 _ fun H1 s1 => ?_
  cases b with
  | true => exact iteT (h2 rfl H1 s1 _ fun H2 s2 => q H2 (s1.trans s2))
  | false => exact iteF (q H1 s1)
theorem tor_valS {t u : TT} {b c : Bool} {σ : L2.St} {H : Hp} {Q : Bool → Hp → Prop} (h1 : ∀ Q : Bool → Hp → Prop, (∀ H', Same H H' → Q b H') → t σ H Q) (h2 : b = false → ∀ H1, Same H H1 → ∀ Q : Bool → Hp → Prop, (∀ H', Same H1 H' → Q c H') → u σ H1 Q) (q : ∀ H', Same H H' → Q (b || c) H') : tOr t u σ H Q := by
  refine h1 _ fun H1 s1 => ?_
  cases b with
  | true => exact iteT (q H1 s1)
  | false => exact iteF (h2 rfl H1 s1 _ fun H2 s2 => q H2 (s1.trans s2))
theorem te_val {te : TE} {σ : L2.St} {H : Hp} {Q : VK} (v : V) (h : ∀ R' : VK, R' v H → te σ H R') (q : Q v H) : te σ H Q := h Q q
theorem ifl_val {c : TT} {a b : TS} {v : Bool} {D : Ends} {σ : L2.St} {H : Hp} (h : ∀ Q : Bool → Hp → Prop, Q v H → c σ H Q) (qt : v = true → a D σ H) (qf : v = false → b D σ H) : tIfS c a b D σ H := by
  refine h _ ?_
  cases v with
  | true => exact iteT (qt rfl)
  | false => exact iteF (qf rfl)
theorem seq_post {a rest : TS} {D : Ends} {σ : L2.St} {H : Hp} (Post : Hp → Prop) (h1 : ∀ r : TS, (∀ H3, Post H3 → r D σ H3) → tSeq a r D σ H) (h2 : ∀ H3, Post H3 → rest D σ H3) : tSeq a rest D σ H := h1 rest h2
def LfOk (ts : List (Tk × Nat)) : Prop := ∀ n v, n < ts.length → leafK (tkA ts n) = some v → isLf v = true
theorem key_ne {a b : Str} (h : a ≠ b) : ¬ ((Sum.inr a : Key) = Sum.inr b) := fun z => h (Sum.inr.inj z)
end Toy


namespace Toy
open PySem PySem.Spec L2 PyProof.Rows PySem.W
/-! ### what a datum is shown as: texts, and how long they are -/
def leS (a b : Str) : Bool := !ltCps b.cps.toList a.cps.toList
def skeys (ks : List Str) : List Str := ks.mergeSort leS
def look : List Str → List D → Str → D
  | k :: ks, d :: ds, x => if k = x then d else look ks ds x
  | _, _, _ => .non
theorem cNeg {a b c : List Nat} (h : ltCps a c = true) : ltCps a b = true ∨ ltCps b c = true := by
  rw [PyProof.Rows.ltCps_eq] at h ⊢
  rw [PyProof.Rows.ltCps_eq]
  exact PyProof.Rows.strKind.negTrans a b c h
theorem cTot {a b : List Nat} (h : ltCps a b = false) (h' : ltCps b a = false) : a = b := by
  rw [PyProof.Rows.ltCps_eq] at h h'
  exact PyProof.Rows.strKind.total a b h h'
theorem rising_pair : ∀ (p : Str) (l : List Str), risingS p l = true → (p :: l).Pairwise fun a b => leS a b = true
  | p, [], _ => List.pairwise_singleton _ _
  | p, x :: r, h => by
    have h' : (!ltCps x.cps.toList p.cps.toList && risingS x r) = true := h
    rw [Bool.and_eq_true] at h'
    have ih := rising_pair x r h'.2
    refine List.pairwise_cons.mpr ⟨fun y hy => ?_, ih⟩
    have h1 : ltCps x.cps.toList p.cps.toList = false := by simpa using h'.1
    have hxp : leS p x = true := h'.1
    rcases List.mem_cons.mp hy with e | hy
    · rw [e]; exact hxp
    · have hxy : leS x y = true := (List.pairwise_cons.mp ih).1 y hy
      have h2 : ltCps y.cps.toList x.cps.toList = false := by simpa [leS] using hxy
      show (!ltCps y.cps.toList p.cps.toList) = true
      cases q : ltCps y.cps.toList p.cps.toList with
      | false => rfl
      | true =>
        rcases cNeg (b := x.cps.toList) q with z | z
        · rw [h2] at z
          cases z
        · rw [h1] at z
          cases z
theorem sorted_pair {l : List Str} (h : sortedS l = true) : l.Pairwise fun a b => leS a b = true := by
  cases l with
  | nil => exact .nil
  | cons x r => exact rising_pair x r h
theorem skeys_perm (ks : List Str) : (skeys ks).Perm ks := List.mergeSort_perm _ _
theorem skeys_uniq {ks ys : List Str} (p : ys.Perm ks) (s : sortedS ys = true) : ys = skeys ks := by
  refine List.Perm.eq_of_pairwise (le := fun a b => leS a b = true) (fun a b _ _ h1 h2 => ?_) (sorted_pair s) ?_ (p.trans (skeys_perm ks).symm)
  · have e1 : ltCps b.cps.toList a.cps.toList = false := by simpa [leS] using h1
    have e2 : ltCps a.cps.toList b.cps.toList = false := by simpa [leS] using h2
    exact str_ext (cTot e2 e1)
  · refine List.pairwise_mergeSort (fun a b c h1 h2 => ?_) (fun a b => ?_) ks
    · have e1 : ltCps b.cps.toList a.cps.toList = false := by simpa [leS] using h1
      have e2 : ltCps c.cps.toList b.cps.toList = false := by simpa [leS] using h2
      show (!ltCps c.cps.toList a.cps.toList) = true
      cases q : ltCps c.cps.toList a.cps.toList with
      | false => rfl
      | true =>
        rcases cNeg (b := b.cps.toList) q with z | z
        · rw [e2] at z
          cases z
        · rw [e1] at z
          cases z
    · show (!ltCps b.cps.toList a.cps.toList || !ltCps a.cps.toList b.cps.toList) = true
      cases q : ltCps b.cps.toList a.cps.toList with
      | false => rfl
      | true =>
        cases q2 : ltCps a.cps.toList b.cps.toList with
        | false => rfl
        | true =>
          rw [PyProof.Rows.ltCps_eq] at q q2
          have z := PyProof.Rows.strKind.trans _ _ _ q q2
          rw [PyProof.Rows.strKind.irrefl] at z
          cases z
def lfP : D → PyData
  | .bl b => .bool b
  | .int i => .int i
  | .str x => .str x
  | _ => .none
def shN : Nat → D → Str
  | n + 1, .lst ds => (("[" : Str) ++ Txt.join "," (ds.map (shN n))) ++ "]"
  | n + 1, .dct ks ds => (("{" : Str) ++ Txt.join "," ((skeys ks).map fun k => (k ++ ":") ++ shN n (look ks ds k))) ++ "}"
  | _, t => (lfP t).shown
def wtN : Nat → D → Nat
  | n + 1, .lst ds => 20 + (ds.map fun d => wtN n d + 1).sum
  | n + 1, .dct _ ds => 20 + (ds.map fun d => wtN n d + 10).sum
  | _, _ => 410
def Pr (s : Str) : Prop := ∀ c ∈ s.cps.toList, 32 ≤ c ∧ c ≤ 126
def DOk : Nat → D → Prop
  | _, .non => True
  | _, .bl _ => True
  | _, .int i => i.natAbs ≤ 10 ^ 30
  | _, .str x => leafT x = true
  | 0, .lst _ => False
  | 0, .dct _ _ => False
  | n + 1, .lst ds => ∀ d ∈ ds, DOk n d
  | n + 1, .dct ks ds => ds.length = ks.length ∧ ks.Nodup ∧ (∀ k ∈ ks, k.length ≤ 8 ∧ Pr k) ∧ ∀ d ∈ ds, DOk n d
theorem pr_app {a b : Str} (ha : Pr a) (hb : Pr b) : Pr (a ++ b) := fun c hc => by
  have e : (a ++ b).cps.toList = a.cps.toList ++ b.cps.toList := by
    show (a.cps ++ b.cps).toList = _
    rw [Array.toList_append]
  rw [e, List.mem_append] at hc
  exact hc.elim (ha c) (hb c)
theorem len_app (a b : Str) : (a ++ b).length = a.length + b.length := Array.size_append ..
theorem tl_len (a : Str) : a.cps.toList.length = a.length := by rw [Array.length_toList]; rfl
theorem joinL_mem {a : List Nat} {c : Nat} : ∀ {ys : List (List Nat)}, c ∈ TL.joinL a ys → c ∈ a ∨ ∃ y ∈ ys, c ∈ y
  | [], h => by cases h
  | [y], h => .inr ⟨y, List.mem_cons_self, h⟩
  | y :: z :: r, h => by
    have h : c ∈ y ++ (a ++ TL.joinL a (z :: r)) := h
    rw [List.mem_append, List.mem_append] at h
    rcases h with h | h | h
    · exact .inr ⟨y, List.mem_cons_self, h⟩
    · exact .inl h
    · rcases joinL_mem h with h | ⟨y', h1, h2⟩
      · exact .inl h
      · exact .inr ⟨y', List.mem_cons_of_mem _ h1, h2⟩
theorem joinL_len {a : List Nat} : ∀ (ys : List (List Nat)), (TL.joinL a ys).length ≤ (ys.map fun y => y.length + a.length).sum
  | [] => Nat.le_refl _
  | [y] => by
    show y.length ≤ _
    simp
  | y :: z :: r => by
    have ih := joinL_len (a := a) (z :: r)
    show (y ++ (a ++ TL.joinL a (z :: r))).length ≤ _
    rw [List.length_append, List.length_append, List.map_cons, List.sum_cons]
    omega
theorem join_list (a : Str) (ys : List Str) : (Txt.join a ys).cps.toList = TL.joinL a.cps.toList (ys.map fun y => y.cps.toList) := by
  have z := SX.join_S a.cps.toList (ys.map fun y => y.cps.toList)
  rw [List.map_map] at z
  have e : ys.map (SX.S ∘ fun y => y.cps.toList) = ys := by
    have : (SX.S ∘ fun y : Str => y.cps.toList) = id := funext fun y => by
      show (⟨y.cps.toList.toArray⟩ : Str) = y
      cases y
      simp
    rw [this, List.map_id]
  rw [e] at z
  have ea : SX.S a.cps.toList = a := by
    show (⟨a.cps.toList.toArray⟩ : Str) = a
    cases a
    simp
  rw [ea] at z
  rw [z]
theorem join_len (a : Str) (ys : List Str) : (Txt.join a ys).length ≤ (ys.map fun y => y.length + a.length).sum := by
  have h := joinL_len (a := a.cps.toList) (ys.map fun y => y.cps.toList)
  rw [← join_list, tl_len, List.map_map] at h
  refine Nat.le_trans h (Nat.le_of_eq ?_)
  rfl
theorem join_pr {a : Str} {ys : List Str} (ha : Pr a) (h : ∀ y ∈ ys, Pr y) : Pr (Txt.join a ys) := fun c hc => by
  rw [join_list] at hc
  rcases joinL_mem hc with h1 | ⟨y, h1, h2⟩
  · exact ha c h1
  · obtain ⟨z, hz, rfl⟩ := List.mem_map.mp h1
    exact h z hz c h2
theorem printable : ∀ c, c < 127 → 32 ≤ c → Unicode.isPrintable c = true := by decide +kernel
theorem reprChar_pr {q c : Nat} (h : 32 ≤ c ∧ c ≤ 126) : (Builtin.Str.reprChar q c).length ≤ 2 ∧ ∀ d ∈ Builtin.Str.reprChar q c, 32 ≤ d ∧ d ≤ 126 := by
  have e : Builtin.Str.reprChar q c = if (c == q || c == 92) = true then [92, c] else [c] := by
    unfold Builtin.Str.reprChar
    have h1 : (c == 10) = false := by simp; omega
    have h2 : (c == 13) = false := by simp; omega
    have h3 : (c == 9) = false := by simp; omega
    simp only [h1, h2, h3, printable c (by omega) h.1, if_true, Bool.false_eq_true, if_false]
  rw [e]
  split
  · refine ⟨Nat.le_refl _, fun d hd => ?_⟩
    rcases List.mem_cons.mp hd with rfl | hd
    · omega
    · rw [List.mem_singleton] at hd
      omega
  · refine ⟨by simp, fun d hd => ?_⟩
    rw [List.mem_singleton] at hd
    omega
theorem fold_pr (q : Nat) : ∀ (l : List Nat) (acc : Array Nat), (∀ c ∈ l, 32 ≤ c ∧ c ≤ 126) → (∀ d ∈ acc.toList, 32 ≤ d ∧ d ≤ 126) →
    (l.foldl (fun out c => out ++ (Builtin.Str.reprChar q c).toArray) acc).size ≤ acc.size + 2 * l.length ∧ ∀ d ∈ (l.foldl (fun out c => out ++ (Builtin.Str.reprChar q c).toArray) acc).toList, 32 ≤ d ∧ d ≤ 126
  | [], acc, _, h2 => ⟨by simp, h2⟩
  | c :: r, acc, h1, h2 => by
    obtain ⟨e1, e2⟩ := reprChar_pr (q := q) (h1 c List.mem_cons_self)
    have ih := fold_pr q r (acc ++ (Builtin.Str.reprChar q c).toArray) (fun d hd => h1 d (List.mem_cons_of_mem _ hd)) (fun d hd => by
      rw [Array.toList_append, List.mem_append] at hd
      rcases hd with hd | hd
      · exact h2 d hd
      · exact e2 d (by simpa using hd))
    refine ⟨Nat.le_trans ih.1 ?_, ih.2⟩
    have e3 : (acc ++ (Builtin.Str.reprChar q c).toArray).size = acc.size + (Builtin.Str.reprChar q c).length := by
      rw [Array.size_append]
      rfl
    rw [e3, List.length_cons]
    omega
theorem quote_pr (x : Str) : 32 ≤ reprQuote x ∧ reprQuote x ≤ 126 := by
  unfold reprQuote
  split <;> omega
theorem repr_pr {x : Str} (h : Pr x) : (reprText x).length ≤ 2 * x.length + 2 ∧ Pr (reprText x) := by
  obtain ⟨h1, h2⟩ := fold_pr (reprQuote x) x.cps.toList #[reprQuote x] h (fun d hd => by
    have : d = reprQuote x := by simpa using hd
    rw [this]
    exact quote_pr x)
  rw [Array.foldl_toList] at h1 h2
  rw [tl_len] at h1
  constructor
  · unfold reprText
    show ((x.cps.foldl (fun out c => out ++ (Builtin.Str.reprChar (reprQuote x) c).toArray) #[reprQuote x]).push (reprQuote x)).size ≤ _
    rw [Array.size_push]
    have e1 : (#[reprQuote x] : Array Nat).size = 1 := rfl
    omega
  · intro d hd
    have hd : d ∈ ((x.cps.foldl (fun out c => out ++ (Builtin.Str.reprChar (reprQuote x) c).toArray) #[reprQuote x]).push (reprQuote x)).toList := hd
    rw [Array.toList_push, List.mem_append] at hd
    rcases hd with hd | hd
    · exact h2 d hd
    · have : d = reprQuote x := by simpa using hd
      rw [this]
      exact quote_pr x
theorem leafT_pr {x : Str} (h : leafT x = true) : x.length ≤ 200 ∧ Pr x := by
  rw [leafT_eq, Bool.and_eq_true, decide_eq_true_iff, List.all_eq_true] at h
  refine ⟨h.1, fun c hc => ?_⟩
  have := h.2 c hc
  unfold okSg at this
  rw [Bool.and_eq_true, decide_eq_true_iff] at this
  exact this.1
theorem log_small {i : Int} (h : i.natAbs ≤ 10 ^ 30) : i.natAbs.log2 < 100 := by
  by_cases hz : i.natAbs = 0
  · rw [hz]
    decide
  · rw [Nat.log2_lt hz]
    exact Nat.lt_of_le_of_lt h (by decide)
theorem lf_ok {n : Nat} {t : D} (h : DOk n t) (hl : ∀ ds, t ≠ .lst ds) (hd : ∀ ks ds, t ≠ .dct ks ds) : (lfP t).shown.length ≤ 410 ∧ Pr (lfP t).shown ∧ (lfP t).showable = true ∧ (lfP t).depth ≤ 150 := by
  cases t with
  | non => exact ⟨by decide +kernel, by show ∀ c ∈ _, _; decide +kernel, rfl, by decide⟩
  | bl b => cases b <;> exact ⟨by decide +kernel, by show ∀ c ∈ _, _; decide +kernel, rfl, by decide⟩
  | int i =>
    have h : i.natAbs ≤ 10 ^ 30 := by cases n <;> exact h
    refine ⟨?_, fun c hc => ?_, decide_eq_true (Nat.lt_trans (log_small h) (by decide)), by show 0 ≤ 150; decide⟩
    · have := int_text_length_le (a := i) (k := 100) (by decide) (log_small h)
      refine Nat.le_trans (Nat.le_of_eq ?_) (Nat.le_trans this (by decide))
      exact PySem.ofString_length _
    · by_cases hk : c ≠ 45 ∧ (c < 48 ∨ 57 < c)
      · exact absurd hc (int_text_free' c hk i)
      · omega
  | str x =>
    have h : leafT x = true := by cases n <;> exact h
    obtain ⟨h1, h2⟩ := leafT_pr h
    obtain ⟨h3, h4⟩ := repr_pr h2
    exact ⟨by show (reprText x).length ≤ 410; omega, h4, rfl, by show 0 ≤ 150; decide⟩
  | lst ds => exact absurd rfl (hl ds)
  | dct ks ds => exact absurd rfl (hd ks ds)
theorem sum_perm {α : Type} (f : α → Nat) {l1 l2 : List α} (h : l1.Perm l2) : (l1.map f).sum = (l2.map f).sum := by
  induction h with
  | nil => rfl
  | cons x _ ih => simp only [List.map_cons, List.sum_cons, ih]
  | swap x y l => simp only [List.map_cons, List.sum_cons]; omega
  | trans _ _ h1 h2 => exact h1.trans h2
theorem sum_le {α : Type} {f g : α → Nat} : ∀ {l : List α}, (∀ x ∈ l, f x ≤ g x) → (l.map f).sum ≤ (l.map g).sum
  | [], _ => Nat.le_refl _
  | x :: r, h => by
    have h1 := h x List.mem_cons_self
    have h2 := sum_le (l := r) fun y hy => h y (List.mem_cons_of_mem _ hy)
    simp only [List.map_cons, List.sum_cons]
    omega
theorem look_mem : ∀ {ks : List Str} {ds : List D} {k : Str}, ds.length = ks.length → k ∈ ks → look ks ds k ∈ ds
  | [], _, _, _, h => by cases h
  | k :: ks, [], _, h, _ => by cases h
  | k :: ks, d :: ds, x, hl, h => by
    unfold look
    split
    · exact List.mem_cons_self
    · rename_i hne
      rcases List.mem_cons.mp h with e | e
      · exact absurd e.symm hne
      · exact List.mem_cons_of_mem _ (look_mem (by simpa using hl) e)
theorem look_sum (f : D → Nat) : ∀ (ks : List Str) (ds : List D), ds.length = ks.length → ks.Nodup → (ks.map fun k => f (look ks ds k)).sum = (ds.map f).sum
  | [], [], _, _ => rfl
  | [], _ :: _, h, _ => by cases h
  | _ :: _, [], h, _ => by cases h
  | k :: ks, d :: ds, hl, hn => by
    rw [List.nodup_cons] at hn
    have ih := look_sum f ks ds (by simpa using hl) hn.2
    have e : (ks.map fun x => f (look (k :: ks) (d :: ds) x)) = ks.map fun x => f (look ks ds x) := List.map_congr_left fun x hx => by
      show f (if k = x then d else look ks ds x) = _
      rw [if_neg (fun z => hn.1 (by rw [z]; exact hx))]
    have e0 : look (k :: ks) (d :: ds) k = d := if_pos rfl
    simp only [List.map_cons, List.sum_cons]
    rw [e, ih, e0]
theorem pr_lit {s : Str} (h : (s.cps.toList.all fun c => decide (32 ≤ c ∧ c ≤ 126)) = true) : Pr s := fun c hc => by
  rw [List.all_eq_true] at h
  exact of_decide_eq_true (h c hc)
theorem len_key (k v : Str) : ((k ++ ":") ++ v).length = k.length + 1 + v.length := by
  rw [len_app, len_app]
  rfl
theorem shN_ok : ∀ (n : Nat) (t : D), DOk n t → (shN n t).length ≤ wtN n t ∧ Pr (shN n t)
  | n, .non, h => ⟨by cases n <;> exact (lf_ok h (fun _ z => by cases z) (fun _ _ z => by cases z)).1, by cases n <;> exact (lf_ok h (fun _ z => by cases z) (fun _ _ z => by cases z)).2.1⟩
  | n, .bl b, h => ⟨by cases n <;> exact (lf_ok h (fun _ z => by cases z) (fun _ _ z => by cases z)).1, by cases n <;> exact (lf_ok h (fun _ z => by cases z) (fun _ _ z => by cases z)).2.1⟩
  | n, .int i, h => ⟨by cases n <;> exact (lf_ok h (fun _ z => by cases z) (fun _ _ z => by cases z)).1, by cases n <;> exact (lf_ok h (fun _ z => by cases z) (fun _ _ z => by cases z)).2.1⟩
  | n, .str x, h => ⟨by cases n <;> exact (lf_ok h (fun _ z => by cases z) (fun _ _ z => by cases z)).1, by cases n <;> exact (lf_ok h (fun _ z => by cases z) (fun _ _ z => by cases z)).2.1⟩
  | 0, .lst _, h => h.elim
  | 0, .dct _ _, h => h.elim
  | n + 1, .lst ds, h => by
    have h : ∀ d ∈ ds, DOk n d := h
    have e1 : (("[" : Str)).length = 1 := rfl
    have e2 : (("]" : Str)).length = 1 := rfl
    have e3 : ((("," : Str))).length = 1 := rfl
    constructor
    · rw [shN, wtN, len_app, len_app, e1, e2]
      have h1 := join_len "," (ds.map (shN n))
      rw [List.map_map] at h1
      have h2 : (ds.map ((fun y : Str => y.length + (("," : Str)).length) ∘ shN n)).sum ≤ (ds.map fun d => wtN n d + 1).sum := sum_le fun d hd => Nat.add_le_add (shN_ok n d (h d hd)).1 (Nat.le_refl 1)
      omega
    · rw [shN]
      refine pr_app (pr_app (pr_lit (by decide +kernel)) (join_pr (pr_lit (by decide +kernel)) fun y hy => ?_)) (pr_lit (by decide +kernel))
      obtain ⟨d, hd, rfl⟩ := List.mem_map.mp hy
      exact (shN_ok n d (h d hd)).2
  | n + 1, .dct ks ds, h => by
    obtain ⟨hl, hn, hk, hd⟩ := (show ds.length = ks.length ∧ ks.Nodup ∧ (∀ k ∈ ks, k.length ≤ 8 ∧ Pr k) ∧ ∀ d ∈ ds, DOk n d from h)
    have e1 : (("{" : Str)).length = 1 := rfl
    have e2 : (("}" : Str)).length = 1 := rfl
    have pm := skeys_perm ks
    constructor
    · rw [shN, wtN, len_app, len_app, e1, e2]
      have h1 := join_len "," ((skeys ks).map fun k => (k ++ ":") ++ shN n (look ks ds k))
      rw [List.map_map, sum_perm _ pm] at h1
      have h2 : (ks.map ((fun y : Str => y.length + (("," : Str)).length) ∘ fun k => (k ++ ":") ++ shN n (look ks ds k))).sum ≤ (ks.map fun k => wtN n (look ks ds k) + 10).sum := sum_le fun k hk2 => by
        have a1 := (shN_ok n _ (hd _ (look_mem hl hk2))).1
        have a2 := (hk k hk2).1
        show ((k ++ ":") ++ shN n (look ks ds k)).length + 1 ≤ _
        rw [len_key]
        omega
      rw [look_sum (fun d => wtN n d + 10) ks ds hl hn] at h2
      omega
    · rw [shN]
      refine pr_app (pr_app (pr_lit (by decide +kernel)) (join_pr (pr_lit (by decide +kernel)) fun y hy => ?_)) (pr_lit (by decide +kernel))
      obtain ⟨k, hk2, rfl⟩ := List.mem_map.mp hy
      have hk3 := pm.mem_iff.mp hk2
      exact pr_app (pr_app (hk k hk3).2 (pr_lit (by decide +kernel))) (shN_ok n _ (hd _ (look_mem hl hk3))).2
/-! what is read is not too long -/
def RowOk (ts : List (Tk × Nat)) : Prop := (∀ n v, leafK (tkA ts n) = some v → isLf v = true) ∧ ∀ n w, tkA ts n = .word w → w.length ≤ 8 ∧ Pr w
theorem leaf_dok {v : V} (h : isLf v = true) (n : Nat) : DOk n (dOf v) ∧ wtN n (dOf v) = 410 := by
  unfold isLf at h
  split at h
  · cases n <;> exact ⟨trivial, rfl⟩
  · cases n <;> exact ⟨trivial, rfl⟩
  · rename_i i
    have h : i.natAbs ≤ 10 ^ 30 := of_decide_eq_true h
    cases n <;> exact ⟨h, rfl⟩
  · cases n <;> exact ⟨h, rfl⟩
  · cases h
def PartOk (k : Nat) (p : Nat → Nat → Res D) : Prop := ∀ n m t n2 m2, p n m = .ok t n2 m2 → DOk k t ∧ wtN k t + 10 + 500 * m ≤ 500 * m2
theorem loopL_ok {ts : List (Tk × Nat)} {k : Nat} {p : Nat → Nat → Res D} (hp : PartOk k p) : ∀ (j n m : Nat) (acc ds : List D) (n2 m2 c : Nat), (∀ d ∈ acc, DOk k d) → (acc.map fun d => wtN k d + 10).sum + c ≤ 500 * m → loopL p ts j n m acc = .ok ds n2 m2 → (∀ d ∈ ds, DOk k d) ∧ (ds.map fun d => wtN k d + 10).sum + c ≤ 500 * m2
  | 0, _, _, _, _, _, _, _, _, _, h => by cases h
  | j + 1, n, m, acc, ds, n2, m2, c, ha, hs, h => by
    rw [loopL] at h
    by_cases h1 : isMk 93 (tkA ts n) = true
    · rw [if_pos h1] at h
      cases h
      exact ⟨ha, hs⟩
    rw [if_neg h1] at h
    by_cases h2 : acc.isEmpty = true ∨ isMk 59 (tkA ts n) = true
    · rw [if_pos h2] at h
      generalize (if acc.isEmpty = true then n else n + 1) = n1 at h
      cases hp1 : p n1 m with
      | err i => rw [hp1] at h; cases h
      | ok t n3 m3 =>
        rw [hp1] at h
        obtain ⟨a1, a2⟩ := hp n1 m t n3 m3 hp1
        refine loopL_ok hp j n3 m3 (acc ++ [t]) ds n2 m2 c (fun d hd => ?_) ?_ h
        · rw [List.mem_append, List.mem_singleton] at hd
          rcases hd with hd | rfl
          · exact ha d hd
          · exact a1
        · rw [List.map_append, List.sum_append]
          simp only [List.map_cons, List.map_nil, List.sum_cons, List.sum_nil]
          omega
    · rw [if_neg h2] at h
      cases h
theorem loopD_ok {ts : List (Tk × Nat)} {k : Nat} {p : Nat → Nat → Res D} (hp : PartOk k p) (hr : RowOk ts) : ∀ (j n m : Nat) (ks : List Str) (acc : List D) (r : List Str × List D) (n2 m2 c : Nat), acc.length = ks.length → ks.Nodup → (∀ w ∈ ks, w.length ≤ 8 ∧ Pr w) → (∀ d ∈ acc, DOk k d) → (acc.map fun d => wtN k d + 10).sum + c ≤ 500 * m → loopD p ts j n m ks acc = .ok r n2 m2 →
    r.2.length = r.1.length ∧ r.1.Nodup ∧ (∀ w ∈ r.1, w.length ≤ 8 ∧ Pr w) ∧ (∀ d ∈ r.2, DOk k d) ∧ (r.2.map fun d => wtN k d + 10).sum + c ≤ 500 * m2
  | 0, _, _, _, _, _, _, _, _, _, _, _, _, _, h => by cases h
  | j + 1, n, m, ks, acc, r, n2, m2, c, hl, hn, hk, ha, hs, h => by
    rw [loopD] at h
    by_cases h1 : isMk 125 (tkA ts n) = true
    · rw [if_pos h1] at h
      cases h
      exact ⟨hl, hn, hk, ha, hs⟩
    rw [if_neg h1] at h
    by_cases h2 : ks.isEmpty = true ∨ isMk 59 (tkA ts n) = true
    · rw [if_pos h2] at h
      dsimp only at h
      generalize (if ks.isEmpty = true then n else n + 1) = n1 at h
      split at h
      · rename_i wd hwd
        by_cases h3 : wd ∈ ks
        · rw [if_pos h3] at h
          cases h
        rw [if_neg h3] at h
        by_cases h4 : isMk 58 (tkA ts (n1 + 1)) = true
        · rw [if_pos h4] at h
          cases hp1 : p (n1 + 2) m with
          | err i => rw [hp1] at h; cases h
          | ok t n3 m3 =>
            rw [hp1] at h
            obtain ⟨a1, a2⟩ := hp (n1 + 2) m t n3 m3 hp1
            refine loopD_ok hp hr j n3 m3 (ks ++ [wd]) (acc ++ [t]) r n2 m2 c (by rw [List.length_append, List.length_append, hl]; rfl) ?_ (fun w hw => ?_) (fun d hd => ?_) ?_ h
            · rw [List.nodup_append]
              exact ⟨hn, by simp, fun a ha b hb e => h3 (by rw [List.mem_singleton] at hb; rw [← hb, ← e]; exact ha)⟩
            · rw [List.mem_append, List.mem_singleton] at hw
              rcases hw with hw | rfl
              · exact hk w hw
              · exact hr.2 n1 w hwd
            · rw [List.mem_append, List.mem_singleton] at hd
              rcases hd with hd | rfl
              · exact ha d hd
              · exact a1
            · rw [List.map_append, List.sum_append]
              simp only [List.map_cons, List.map_nil, List.sum_cons, List.sum_nil]
              omega
        · rw [if_neg h4] at h
          cases h
      · cases h
    · rw [if_neg h2] at h
      cases h
theorem sum_more {α : Type} {f : α → Nat} (l : List α) : (l.map fun x => f x + 1).sum ≤ (l.map fun x => f x + 10).sum := sum_le fun x _ => by omega
theorem part_ok {ts : List (Tk × Nat)} (hr : RowOk ts) : ∀ k, PartOk k (partA ts k)
  | 0 => fun n m t n2 m2 h => by cases h
  | k + 1 => fun n m t n2 m2 h => by
    rw [partA] at h
    by_cases h0 : m = 1000
    · rw [if_pos h0] at h; cases h
    rw [if_neg h0] at h
    by_cases h1 : isMk 91 (tkA ts n) = true
    · rw [if_pos h1] at h
      cases hl : loopL (partA ts k) ts (ts.length + 1) (n + 1) (m + 1) [] with
      | err i => rw [hl] at h; cases h
      | ok ds n3 m3 =>
        rw [hl] at h
        cases h
        obtain ⟨a1, a2⟩ := loopL_ok (part_ok hr k) _ _ _ [] ds n3 _ (500 * (m + 1)) (fun d hd => by cases hd) (by simp) hl
        refine ⟨a1, ?_⟩
        have := sum_more (f := wtN k) ds
        show 20 + _ + 10 + _ ≤ _
        omega
    rw [if_neg h1] at h
    by_cases h2 : isMk 123 (tkA ts n) = true
    · rw [if_pos h2] at h
      cases hl : loopD (partA ts k) ts (ts.length + 1) (n + 1) (m + 1) [] [] with
      | err i => rw [hl] at h; cases h
      | ok r n3 m3 =>
        obtain ⟨ks, ds⟩ := r
        rw [hl] at h
        cases h
        obtain ⟨a1, a2, a3, a4, a5⟩ := loopD_ok (part_ok hr k) hr _ _ _ [] [] (ks, ds) n3 _ (500 * (m + 1)) rfl List.nodup_nil (fun w hw => by cases hw) (fun d hd => by cases hd) (by simp) hl
        refine ⟨⟨a1, a2, a3, a4⟩, ?_⟩
        dsimp only at a5
        show 20 + _ + 10 + _ ≤ _
        omega
    rw [if_neg h2] at h
    cases hv : leafK (tkA ts n) with
    | none => rw [hv] at h; cases h
    | some v =>
      rw [hv] at h
      cases h
      obtain ⟨a1, a2⟩ := leaf_dok (hr.1 n v hv) (k + 1)
      refine ⟨a1, ?_⟩
      rw [a2]
      omega
end Toy


namespace L2
open PySem PySem.Spec PyProof.Rows
/-! sorted of a dict of any many texts; repr of a leaf -/
section
variable {X : Cx}
def rSortedT (xs : List V) (H : Hp) (Q : VK) : Prop := ∃ (a : Addr) (kvs : List (Key × V)) (ks : List Str), xs = [.ref a] ∧ Rd H a (.dK kvs) ∧ kvs.map (·.1) = ks.map Sum.inr ∧ ks.length ≤ sizeLine ∧
    ∀ ys p, ys.Perm ks → sortedS ys = true → H p = none → Q (.ref p) (upd H p (.lst (ys.map V.str)))
theorem call_sortedT (hcalm : X.calm = true) : CallR X (.builtin "sorted") rSortedT := by
  intro pins s σ H xs us Q I r q
  obtain ⟨a, kvs, ks, rfl, hd, hks, hsz, q⟩ := q
  obtain ⟨u, rfl, rx⟩ := vals1 r
  cases rx
  obtain ⟨z, lo, vs, rel, dd⟩ := dk_rd I.hok hd
  obtain ⟨ep, hat⟩ := dd.dictAt
  have hkeys : vs.map (·.1) = ks.map Sum.inr := rel.keys.symm.trans hks
  have hl : vs.length = ks.length := by simpa using congrArg List.length hkeys
  refine Calls.call_function_entry PyProof.Rows.kind_sorted PyProof.Rows.plain_sorted PyProof.Rows.entry_sorted (PyProof.Rows.args_sorted1 _) ?_
  unfold Builtin.«sorted»
  refine wpAny_bind (m := checkCount "sorted" 1 1 _) (wpAny_pure ?_)
  refine wpAny_bind (PySem.W.kdu_collect (A := X.A.in1) (PySem.W.kdl_dict (knd := mixKind X.prog X.w) (kvs := vs) (ep := ep) lo) (I.ok.hd hcalm) hat (by omega) fun h' tk acc hk hacc => ?_)
  have hal : acc.toList.length = ks.length := by rw [Array.length_toList, hacc.1, hl]
  have hS : StrsAre acc.toList ks := strs_at hal fun j v e => by
    obtain ⟨k, x, e1, e2⟩ := hacc.2 j v (by rw [← Array.getElem?_toList]; exact e)
    have e3 : (vs.map (·.1))[j]? = some k := by rw [List.getElem?_map, e1]; all_goals rfl
    rw [hkeys, List.getElem?_map] at e3
    cases e4 : ks[j]? with
    | none => rw [e4] at e3; cases e3
    | some y =>
      rw [e4] at e3
      cases e3
      obtain ⟨t, ev⟩ := Value.isStrOf_shape (x := y) (v := v) e2
      exact ⟨y, t, rfl, ev⟩
  have I1 : Inv X pins σ H { s with heap := h', toks := tk } := I.kept hk
  refine wpAny_bind (wpAny_newList ?_ (by rw [hal]; exact hsz))
  have hoL : (h'.push (seqObj "list" acc.toList.toArray 0)).get? h'.objs.size = some (seqObj "list" acc.toList.toArray 0) := Heap.get?_push_size _ rfl
  show wpAny _ _ _ _ _ { s with heap := h'.push (seqObj "list" acc.toList.toArray 0), toks := tk }
  refine wpAny_bind (wpAny_holding (wpAny_call_entry PyProof.Rows.slot_list_sort ⟨_, hoL, rfl⟩ PyProof.Rows.entry_list_sort
    (list_sort_treeKAny strKind_oneLt (s := { s with heap := h'.push (seqObj "list" acc.toList.toArray 0), toks := tk }) hoL hS.keysOf (fun v₁ v₂ rest e => keyKind_strs (by rw [← e]; exact hS)) (by rw [hal]; exact hsz) fun st' hp hs => ⟨_, rfl, ?_⟩)
    (PyProof.Rows.args_list_sort _)))
  obtain ⟨ys, g1, g2, g3⟩ := sorted_out_str hS hp hs
  obtain ⟨e', he'⟩ := PyProof.Rows.sortedHeap_at (vs := acc.toList) (out := (arrOf st').map (·.2)) hoL
  have hlen : (ys.map V.str).length ≤ sizeLine := by
    rw [List.length_map, g2.length_eq]
    exact hsz
  refine wpAny_pure ⟨_, rfl, .ref h'.objs.size, upd H h'.objs.size (.lst (ys.map V.str)), I1.laid (t' := tk) (fun b u e => ?_) (Nat.le_refl _)
    (show ObjOk X.prog X.w _ _ _ (.lst (ys.map V.str)) from ⟨hlen, ((arrOf st').map (·.2)).toList, e', vals_of_strs g1, by rw [Array.toArray_toList]; exact he'⟩), rfl, q ys _ g2 g3 (I1.hok.fresh (Nat.le_refl _))⟩
  have hb : b < h'.objs.size := Heap.lt_size e
  rw [PyProof.Rows.sortedHeap_old (Nat.ne_of_lt hb) (by rw [size_push']; exact Nat.lt_succ_of_lt hb)]
  exact Heap.get?_push_of_some _ e
inductive LfD : V → PyData → Prop
  | non : LfD .non .none
  | bl (b : Bool) : LfD (.bl b) (.bool b)
  | int (i : Int) : LfD (.int i) (.int i)
  | str (x : Str) : LfD (.str x) (.str x)
def rRepF (xs : List V) (H : Hp) (Q : VK) : Prop := ∃ (v : V) (d : PyData), xs = [v] ∧ LfD v d ∧ d.showable = true ∧ d.shown.length ≤ sizeLine ∧ Q (.str d.shown) H
theorem call_repF : CallR X (.builtin "repr") rRepF := by
  intro pins s σ H xs us Q I r h
  obtain ⟨v, d, rfl, hd, hs, hz, q⟩ := h
  obtain ⟨u, rfl, ru⟩ := vals1 r
  cases hd with
  | non => cases ru; exact PySem.P.repr_of_none ⟨.str _, H, I.tok _, ⟨_, rfl⟩, q⟩
  | bl b => cases ru; exact PySem.P.repr_of_bool ⟨.str _, H, I.tok _, ⟨_, rfl⟩, q⟩
  | int i =>
    obtain ⟨t, rfl⟩ := ru
    exact PySem.P.repr_of_int (of_decide_eq_true hs) ⟨.str _, H, I.tok _, ⟨_, rfl⟩, q⟩
  | str x =>
    obtain ⟨t, rfl⟩ := ru
    exact PySem.P.repr_of_str ⟨.str _, H, I.tok _, ⟨_, rfl⟩, q⟩ hz
end
end L2
namespace Toy
open PySem PySem.Spec L2 PyProof.Rows PySem.W
/-! ### the law's showing -/
abbrev sSh : Stmt := top 50
theorem cut_pr {cs : List Nat} {a : Nat} : Pr (cutC cs a (runE letS.cps.toList cs a)) := fun c hc => by
  have hc : c ∈ ((cs.drop a).take (runE letS.cps.toList cs a - a)) := by simpa [cutC] using hc
  obtain ⟨i, hi, e⟩ := List.getElem_of_mem hc
  rw [List.length_take] at hi
  rw [List.getElem_take, List.getElem_drop] at e
  have e2 : cs[a + i]? = some c := by
    have : a + i < cs.length := by
      have := List.length_drop (i := a) (l := cs)
      omega
    rw [List.getElem?_eq_getElem this, e]
  have := (letS_in c).mp (runE_all (Nat.le_add_right a i) (by omega) e2)
  omega
theorem cut_len {cs : List Nat} {a e : Nat} : (cutC cs a e).length ≤ e - a := by
  show ((cs.drop a).take (e - a)).toArray.size ≤ _
  rw [List.size_toArray, List.length_take]
  omega
theorem tkC_word {cs : List Nat} {a u : Nat} {f : Option Nat} {w : Str} (h : (tkC cs a u f).1 = .word w) : w.length ≤ 8 ∧ Pr w := by
  unfold tkC at h
  split at h
  · dsimp only at h
    split at h
    · rename_i h8
      cases h
      exact ⟨Nat.le_trans cut_len h8, cut_pr⟩
    · cases h
  repeat' (split at h)
  all_goals first | cases h | (dsimp only at h; split at h <;> cases h)
theorem lex_word : ∀ (n : Nat) (cs : List Nat) (i k : Nat) (w : Str), tkA (lexA n cs i) k = .word w → w.length ≤ 8 ∧ Pr w
  | 0, cs, i, k, w, h => by
    cases k with
    | zero => cases h
    | succ k => cases h
  | n + 1, cs, i, k, w, h => by
    rw [lexA] at h
    cases hu : cs[i]? with
    | none =>
      rw [hu] at h
      cases k with
      | zero => cases h
      | succ k => cases h
    | some u =>
      rw [hu] at h
      dsimp only at h
      cases ht : tkC cs i u cs[i + 1]? with
      | mk tk e =>
        rw [ht] at h
        have go : tkA ((tk, i) :: lexA n cs (gapE cs e)) k = .word w → w.length ≤ 8 ∧ Pr w := fun h => by
          cases k with
          | zero =>
            have h : tk = .word w := h
            exact tkC_word (by rw [ht]; exact h)
          | succ k => exact lex_word n cs (gapE cs e) k w h
        cases tk with
        | bad =>
          cases k with
          | zero => cases h
          | succ k => cases h
        | _ => exact go h
theorem row_lf (cs : List Nat) : LfOk (rowA cs) := fun n v hn h => lf_of (rel_row cs) hn h
theorem row_ok (cs : List Nat) : RowOk (rowA cs) := by
  refine ⟨fun n v h => ?_, fun n w h => lex_word _ _ _ _ _ h⟩
  by_cases hn : n < (rowA cs).length
  · exact row_lf cs n v hn h
  · unfold tkA at h
    rw [List.getElem?_eq_none_iff.mpr (by omega)] at h
    cases h
theorem datum_fits {cs : List Nat} {t : D} {n m : Nat} (h : datumA (rowA cs) = .ok t n m) : DOk 60 t ∧ wtN 60 t ≤ 500000 := by
  unfold datumA at h
  cases hp : partA (rowA cs) 60 0 0 with
  | err i => rw [hp] at h; cases h
  | ok t2 n2 m2 =>
    rw [hp] at h
    dsimp only at h
    have e : t2 = t := by
      split at h
      · cases h; rfl
      · cases h
    subst e
    obtain ⟨a1, a2⟩ := part_ok (row_ok cs) 60 0 0 t2 n2 m2 hp
    have g := goes_part (wf_row cs) 60 0 0 t2 n2 m2 (row_pos _) (Nat.zero_le _) hp
    exact ⟨a1, by omega⟩
theorem ty_dv {K : PySem.W.Frag} {H : Hp} : ∀ {n : Nat} {v : V} {d : D}, Dv n H v d → TyX K H v (.type (match d with | .non => "NoneType" | .bl _ => "bool" | .int _ => "int" | .str _ => "str" | .lst _ => "list" | .dct _ _ => "dict")) := by
  intro n v d h
  cases d with
  | non => cases n <;> (simp only [Dv] at h; subst h; exact .base .non)
  | bl b => cases n <;> (simp only [Dv] at h; subst h; exact .base (.bl b))
  | int i => cases n <;> (simp only [Dv] at h; subst h; exact .base (.int i))
  | str x => cases n <;> (simp only [Dv] at h; subst h; exact .base (.str x))
  | lst ds =>
    cases n with
    | zero => simp only [Dv] at h
    | succ n =>
      simp only [Dv] at h
      obtain ⟨a, xs, rfl, h2, _⟩ := h
      exact .base (.lst h2)
  | dct ks ds =>
    cases n with
    | zero => simp only [Dv] at h
    | succ n =>
      simp only [Dv] at h
      obtain ⟨a, us, rfl, h2, _⟩ := h
      exact .base (.dK h2)
def spSh (j : Nat) : Sp := fun vs H Q _ => ∃ (v : V) (t : D) (k : Nat), vs = [v] ∧ k ≤ j ∧ Dv k H v t ∧ DOk k t ∧ wtN k t ≤ 1000000 ∧ ∀ H', Same H H' → Q (.str (shN k t)) H'
abbrev NSh : List Str := ["_law_item", "_law_own", "_law_key"]
theorem scSh : FnScope NSh ["_law_item"] (defScope sSh) := ⟨rfl, rfl, rfl, by decide +kernel, rfl, by decide +kernel, by decide +kernel⟩
theorem len_sum {α : Type} {f : α → Nat} : ∀ (l : List α), l.length ≤ (l.map fun x => f x + 1).sum
  | [] => Nat.le_refl _
  | x :: l => by
    have := len_sum (f := f) l
    simp only [List.map_cons, List.sum_cons, List.length_cons]
    omega
theorem sum_join {α : Type} (g : α → Str) : ∀ (l : List α), ((l.map g).map (·.length)).sum + (l.map g).length * 1 = (l.map fun x => (g x).length + 1).sum
  | [] => rfl
  | x :: l => by
    have := sum_join g l
    simp only [List.map_cons, List.sum_cons, List.length_cons] at this ⊢
    omega
theorem lfd_of {k : Nat} {H : Hp} {v : V} {t : D} (h : Dv k H v t) (n1 : ∀ ds, t ≠ .lst ds) (n2 : ∀ ks ds, t ≠ .dct ks ds) : LfD v (lfP t) := by
  cases t with
  | non =>
    have : v = .non := by cases k <;> simpa [Dv] using h
    rw [this]; exact .non
  | bl b =>
    have : v = .bl b := by cases k <;> simpa [Dv] using h
    rw [this]; exact .bl b
  | int i =>
    have : v = .int i := by cases k <;> simpa [Dv] using h
    rw [this]; exact .int i
  | str x =>
    have : v = .str x := by cases k <;> simpa [Dv] using h
    rw [this]; exact .str x
  | lst ds => exact absurd rfl (n1 ds)
  | dct ks ds => exact absurd rfl (n2 ks ds)
theorem shN_lst (n : Nat) (ds : List D) : shN (n + 1) (.lst ds) = (("[" : Str) ++ Txt.join "," (ds.map (shN n))) ++ "]" := rfl
theorem shN_dct (n : Nat) (ks : List Str) (ds : List D) : shN (n + 1) (.dct ks ds) = (("{" : Str) ++ Txt.join "," ((skeys ks).map fun k => (k ++ ":") ++ shN n (look ks ds k))) ++ "}" := rfl
theorem paired_get {α β : Type} {F : α → β → Prop} : ∀ {xs : List α} {ys : List β}, Paired F xs ys → ∀ {i : Nat} {x : α}, xs[i]? = some x → ∃ y, ys[i]? = some y ∧ F x y
  | _, _, .nil, i, x, h => by simp at h
  | _, _, .cons a b, i, x, h => by
    cases i with
    | zero => cases h; exact ⟨_, rfl, a⟩
    | succ i => exact paired_get b (by simpa using h)
theorem mem_sum {α : Type} {f : α → Nat} {x : α} : ∀ {l : List α}, x ∈ l → f x ≤ (l.map f).sum
  | [], h => by cases h
  | y :: l, h => by
    simp only [List.map_cons, List.sum_cons]
    rcases List.mem_cons.mp h with rfl | h
    · omega
    · have := mem_sum (f := f) h
      omega
theorem range_map {α : Type} (f : Nat → α) (l : List α) (h : ∀ i (hi : i < l.length), f i = l[i]) : (List.range l.length).map f = l := by
  refine List.ext_getElem (by simp) fun i h1 h2 => ?_
  rw [List.getElem_map, List.getElem_range]
  exact h i h2
theorem look_at : ∀ {ks : List Str} {us : List V} {ds : List D} {F : V → D → Prop} {k : Str}, us.length = ks.length → Paired F us ds → k ∈ ks → ∃ u, valV (kvOf ks us) (Sum.inr k) = some u ∧ F u (look ks ds k)
  | [], _, _, _, _, _, _, h => by cases h
  | k :: ks, [], _, _, _, h, _, _ => by cases h
  | k :: ks, u :: us, d :: ds, F, x, hl, .cons a b, h => by
    have e : kvOf (k :: ks) (u :: us) = (Sum.inr k, u) :: kvOf ks us := rfl
    rw [e]
    by_cases hk : k = x
    · subst hk
      exact ⟨u, valV_pos rfl, by rw [show look (k :: ks) (d :: ds) k = d from if_pos rfl]; exact a⟩
    · rw [valV_neg (key_ne hk), show look (k :: ks) (d :: ds) x = look ks ds x from if_neg hk]
      exact look_at (by simpa using hl) b ((List.mem_cons.mp h).resolve_left fun z => hk z.symm)
section
variable {P : Program} {w : World} {K : PySem.W.Frag} {mg : Str → Option Value} {base : Heap} {CT : Addr}
theorem ok_shS {f : Addr} {fd : FuncData} {j : Nat} {sp : Sp} (F : Fun K "_law_shown" "_law_shown" sSh f fd)
    (GR : FnOk P w K mg base CX0 (1 + j) f fd ["_law_item"] sp) (hsp : ∀ i, j = i + 1 → sp = spSh i) (mF : mg "_law_shown" = some (.ref f)) (kF : PySem.W.keepIn K (.ref f) = true) (bF : Binds K fd ["_law_item"] [])
    (mI : mg "isinstance" = none) (mL : mg "list" = none) (mD : mg "dict" = none) (mS : mg "sorted" = none) (mR : mg "repr" = none) : FnOk P w K mg base CX0 (2 + j) f fd ["_law_item"] (spSh j) := by
  rw [show 2 + j = (1 + j) + 1 by omega]
  refine F.ok (k := 1 + j) scSh (fun vs H Q E h => ?_) (fun cdv A outer s H vs Q E hr h => ?_)
  · obtain ⟨v, t, k, rfl, _⟩ := h
    rfl
  · obtain ⟨v, t, k, rfl, hk, hv, hok, hwt, q⟩ := h
    have hu := hu_of hr
    refine ⟨_, pss_cons (ps_if (pt_val (pe_callB call_isi (by rfl) mI PyProof.Rows.boot_isinstance (pa_cons (pv 0) (pa_cons (pe_bltn (v := .ty "list") (by rfl) mL (by decide +kernel) rfl) pa_nil))))
        (pss_one (ps_ret (pe_op op_add_str (pe_op op_add_str pe_str (pe_bm PySem.F.plainAttrs_str PySem.F.slot_str_join PySem.F.type_str_join mt_join pe_str
          (pa_cons (pe_lc (own := [("_law_own", 1)]) (g := gName 1) (by rfl) scSh.nd (pi_list (pv 0)) (blkOk_by (own := [("_law_own", 1)]) (N := NSh) (sc := defScope sSh) (by decide +kernel)) (fun _ _ _ _ _ => pg_name (i := 1) scSh.nd rfl (Or.inl rfl)) (fun _ _ _ _ _ => pts_nil)
            (fun _ _ _ _ _ => pe_call GR hr (by rfl) mF kF bF .nil pass0 (pa_cons (pv 1) pa_nil))) pa_nil))) pe_str))) pss_nil)
      (pss_cons (ps_if (pt_val (pe_callB call_isi (by rfl) mI PyProof.Rows.boot_isinstance (pa_cons (pv 0) (pa_cons (pe_bltn (v := .ty "dict") (by rfl) mD (by decide +kernel) rfl) pa_nil))))
        (pss_one (ps_ret (pe_op op_add_str (pe_op op_add_str pe_str (pe_bm PySem.F.plainAttrs_str PySem.F.slot_str_join PySem.F.type_str_join mt_join pe_str
          (pa_cons (pe_lc (own := [("_law_key", 2)]) (g := gName 2) (by rfl) scSh.nd (pi_list (pe_callB (call_sortedT rfl) (by rfl) mS (by decide +kernel) (pa_cons (pv 0) pa_nil))) (blkOk_by (own := [("_law_key", 2)]) (N := NSh) (sc := defScope sSh) (by decide +kernel)) (fun _ _ _ _ _ => pg_name (i := 2) scSh.nd rfl (Or.inl rfl)) (fun _ _ _ _ _ => pts_nil)
            (fun _ _ _ _ _ => pe_op op_add_str (pe_op op_add_str (pv 2) pe_str) (pe_call GR hr (by rfl) mF kF bF .nil pass0 (pa_cons (pe_dget hu (pv 0) (pv 2) (fun _ _ => rfl)) pa_nil)))) pa_nil))) pe_str))) pss_nil)
      (pss_one (ps_ret (pe_callB call_repF (by rfl) mR (by decide +kernel) (pa_cons (pv 0) pa_nil))))), ?_⟩
    have ty := ty_dv (K := K) hv
    have e16 : sizeLine = 16777216 := by decide
    have hsz := (shN_ok k t hok).1
    have leaf : (∀ ds, t ≠ .lst ds) → (∀ ks ds, t ≠ .dct ks ds) → shN k t = (lfP t).shown → tRet (tCB rRepF (tCons (tVar 0) tNil)) { nx := fun x H' => Q V.non H', rt := Q } [some v, none, none] H := fun n1 n2 he => by
      have hl := lfd_of hv n1 n2
      obtain ⟨l1, _, l3, _⟩ := lf_ok hok n1 n2
      exact ret_run ⟨_, rfl, v, lfP t, rfl, hl, l3, by omega, by rw [← he]; exact q H same_id⟩
    cases t with
    | non =>
      have ty : TyX K H v (.type "NoneType") := ty
      refine ⟨_, rfl, _, _, _, _, false, rfl, .ty _, ty, kit_ty (by decide +kernel), _, rfl, iteF (nx_run ?_)⟩
      refine ⟨_, rfl, _, _, _, _, false, rfl, .ty _, ty, kit_ty (by decide +kernel), _, rfl, iteF (nx_run ?_)⟩
      exact leaf (fun _ z => by cases z) (fun _ _ z => by cases z) (by cases k <;> rfl)
    | bl b =>
      have ty : TyX K H v (.type "bool") := ty
      refine ⟨_, rfl, _, _, _, _, false, rfl, .ty _, ty, kit_ty (by decide +kernel), _, rfl, iteF (nx_run ?_)⟩
      refine ⟨_, rfl, _, _, _, _, false, rfl, .ty _, ty, kit_ty (by decide +kernel), _, rfl, iteF (nx_run ?_)⟩
      exact leaf (fun _ z => by cases z) (fun _ _ z => by cases z) (by cases k <;> rfl)
    | int i =>
      have ty : TyX K H v (.type "int") := ty
      refine ⟨_, rfl, _, _, _, _, false, rfl, .ty _, ty, kit_ty (by decide +kernel), _, rfl, iteF (nx_run ?_)⟩
      refine ⟨_, rfl, _, _, _, _, false, rfl, .ty _, ty, kit_ty (by decide +kernel), _, rfl, iteF (nx_run ?_)⟩
      exact leaf (fun _ z => by cases z) (fun _ _ z => by cases z) (by cases k <;> rfl)
    | str x =>
      have ty : TyX K H v (.type "str") := ty
      refine ⟨_, rfl, _, _, _, _, false, rfl, .ty _, ty, kit_ty (by decide +kernel), _, rfl, iteF (nx_run ?_)⟩
      refine ⟨_, rfl, _, _, _, _, false, rfl, .ty _, ty, kit_ty (by decide +kernel), _, rfl, iteF (nx_run ?_)⟩
      exact leaf (fun _ z => by cases z) (fun _ _ z => by cases z) (by cases k <;> rfl)
    | lst ds =>
      clear leaf
      have ty : TyX K H v (.type "list") := ty
      refine ⟨_, rfl, _, _, _, _, true, rfl, .ty _, ty, kit_ty (by decide +kernel), _, rfl, iteT ?_⟩
      obtain ⟨k, rfl⟩ : ∃ i, k = i + 1 := by
        cases k with
        | zero => simp only [Dv] at hv
        | succ k => exact ⟨k, rfl⟩
      obtain ⟨i, rfl⟩ : ∃ i, j = i + 1 := ⟨j - 1, by omega⟩
      have := hsp i rfl
      subst this
      simp only [Dv] at hv
      obtain ⟨a, xs, rfl, hx, hp⟩ := hv
      have hokd : ∀ d ∈ ds, DOk k d := hok
      have hlen : xs.length = ds.length := paired_len hp
      have hsum : (ds.map fun d => wtN k d + 1).sum ≤ 1000000 := by
        have : 20 + (ds.map fun d => wtN k d + 1).sum ≤ 1000000 := hwt
        omega
      have hds : ds.length ≤ 1000000 := by
        have h1 := len_sum (f := wtN k) ds
        omega
      refine ret_run ⟨rfl, _, rfl, a, rfl, ⟨_, SqL.of hx⟩, fun D nD => ?_⟩
      refine lc_map (walk_list (K := K) (a := a) (xs := xs)) (fun i => V.str ((ds.map (shN k)).getD i Str.empty)) (by rw [hlen]; exact lines (by omega)) nD (fun H' s' => SqL.of (s' _ _ hx)) yAt_same ?_ ?_
      · rintro i y H2 P1 hi s2 ⟨_, hy⟩ h1
        obtain ⟨d, hd, hF⟩ := paired_get hp hy
        have hmem := List.mem_of_getElem? hd
        have e : (ds.map (shN k)).getD i Str.empty = shN k d := by
          rw [List.getD_eq_getElem?_getD, List.getElem?_map, hd]
          rfl
        rw [e] at h1
        have hw : wtN k d ≤ 1000000 := by
          have := mem_sum (f := fun d => wtN k d + 1) hmem
          omega
        exact ⟨rfl, _, rfl, y, d, k, rfl, by omega, hF.mono (fun b o _ e => s2 _ _ e) (Nat.le_refl _), hokd d hmem, hw, fun H3 s3 => h1 H3 s3⟩
      · intro H1 s1 hD
        have er : (List.range xs.length).map (fun i => V.str ((ds.map (shN k)).getD i Str.empty)) = (ds.map (shN k)).map V.str := by
          have := range_map (fun i => V.str ((ds.map (shN k)).getD i Str.empty)) ((ds.map (shN k)).map V.str) (fun i hi => by
            rw [List.getElem_map]
            rw [List.getD_eq_getElem?_getD, List.getElem?_eq_getElem (by simpa using hi)]
            rfl)
          rw [List.length_map, List.length_map, ← hlen] at this
          exact this
        rw [er] at hD
        have hj := join_len "," (ds.map (shN k))
        have hss : (((ds.map (shN k)).map (·.length)).sum + (ds.map (shN k)).length * (("," : Str)).length) ≤ 1000000 := by
          have h1 : ((ds.map (shN k)).map (·.length)).sum + (ds.map (shN k)).length * (("," : Str)).length ≤ (ds.map fun d => wtN k d + 1).sum := by
            show _ + _ * 1 ≤ _
            rw [sum_join]
            exact sum_le fun d hd => by
              have := (shN_ok k d (hokd d hd)).1
              omega
          omega
        rw [shN_lst, len_app, len_app] at hsz
        refine ⟨_, D, ds.map (shN k), rfl, rfl, .inl (SqL.of hD), by omega, _, _, rfl, rfl, ?_, _, _, rfl, rfl, ?_, q H1 s1⟩
        · omega
        · rw [len_app]
          omega
    | dct ks ds =>
      clear leaf
      have ty : TyX K H v (.type "dict") := ty
      refine ⟨_, rfl, _, _, _, _, false, rfl, .ty _, ty, kit_ty (by decide +kernel), _, rfl, iteF (nx_run ?_)⟩
      refine ⟨_, rfl, _, _, _, _, true, rfl, .ty _, ty, kit_ty (by decide +kernel), _, rfl, iteT ?_⟩
      obtain ⟨k, rfl⟩ : ∃ i, k = i + 1 := by
        cases k with
        | zero => simp only [Dv] at hv
        | succ k => exact ⟨k, rfl⟩
      obtain ⟨i, rfl⟩ : ∃ i, j = i + 1 := ⟨j - 1, by omega⟩
      have := hsp i rfl
      subst this
      simp only [Dv] at hv
      obtain ⟨a, us, rfl, hx, hlu, hnd, hp⟩ := hv
      obtain ⟨hl, _, hks, hds⟩ := (show ds.length = ks.length ∧ ks.Nodup ∧ (∀ k ∈ ks, k.length ≤ 8 ∧ Pr k) ∧ ∀ d ∈ ds, DOk k d from hok)
      have hsum : (ds.map fun d => wtN k d + 10).sum ≤ 1000000 := by
        have : 20 + (ds.map fun d => wtN k d + 10).sum ≤ 1000000 := hwt
        omega
      have pm0 := skeys_perm ks
      have hks6 : ks.length ≤ 1000000 := by
        have h1 := len_sum (f := wtN k) ds
        have h2 := sum_more (f := wtN k) ds
        omega
      have hkl : (skeys ks).length = ks.length := pm0.length_eq
      refine ret_run ⟨rfl, _, rfl, a, kvOf ks us, ks, rfl, .inl hx, kv_keys hlu, by omega, fun ys p pm ss np => ?_⟩
      have eys := skeys_uniq pm ss
      subst eys
      have s0 : Same H (upd H p (.lst ((skeys ks).map V.str))) := same_new same_id np
      have hp0 : (upd H p (.lst ((skeys ks).map V.str))) p = some (.lst ((skeys ks).map V.str)) := upd_same
      generalize upd H p (.lst ((skeys ks).map V.str)) = H0 at s0 hp0 ⊢
      refine ⟨p, rfl, ⟨_, SqL.of hp0⟩, fun D nD => ?_⟩
      let g : Str → Str := fun x => (x ++ ":") ++ shN k (look ks ds x)
      have hg : ∀ x ∈ ks, (g x).length ≤ wtN k (look ks ds x) + 9 := fun x hxk => by
        have a1 := (shN_ok k _ (hds _ (look_mem hl hxk))).1
        have a2 := (hks x hxk).1
        show ((x ++ ":") ++ shN k (look ks ds x)).length ≤ _
        rw [len_key]
        omega
      have hwk : ∀ x ∈ ks, wtN k (look ks ds x) + 10 ≤ 1000000 := fun x hxk => by
        have := mem_sum (f := fun d => wtN k d + 10) (look_mem hl hxk)
        omega
      refine lc_map (walk_list (K := K) (a := p) (xs := (skeys ks).map V.str)) (fun i => V.str (((skeys ks).map g).getD i Str.empty)) (by rw [List.length_map, hkl]; exact lines (by omega)) nD (fun H' s' => SqL.of (s' _ _ hp0)) yAt_same ?_ ?_
      · rintro i y H2 P1 hi s2 ⟨_, hy⟩ h1
        rw [List.getElem?_map] at hy
        cases hx2 : (skeys ks)[i]? with
        | none => rw [hx2] at hy; cases hy
        | some x =>
          rw [hx2] at hy
          cases hy
          have hmem : x ∈ ks := pm0.mem_iff.mp (List.mem_of_getElem? hx2)
          have e : ((skeys ks).map g).getD i Str.empty = g x := by
            rw [List.getD_eq_getElem?_getD, List.getElem?_map, hx2]
            rfl
          rw [e] at h1
          obtain ⟨u, hu1, hu2⟩ := look_at hlu hp hmem
          have hx3 : H2 a = some (.dK (kvOf ks us)) := s2 _ _ (s0 _ _ hx)
          have dg : DGet H2 a (.str x) (some u) := by
            have z := DGet.k (k := Sum.inr x) hx3
            rw [hu1] at z
            exact z
          have hgx := hg x hmem
          have hwx := hwk x hmem
          have hgl : (g x).length = x.length + 1 + (shN k (look ks ds x)).length := len_key _ _
          have ha2 := (hks x hmem).1
          refine ⟨rfl, _, rfl, _, _, rfl, rfl, by show x.length + 1 ≤ _; omega, _, rfl, _, rfl, a, u, rfl, dg, u, look ks ds x, k, rfl, by omega, hu2.mono (fun b o _ e => s2 _ _ (s0 _ _ e)) (Nat.le_refl _), hds _ (look_mem hl hmem), by omega, fun H3 s3 => ⟨_, _, rfl, rfl, ?_, h1 H3 s3⟩⟩
          rw [len_app]
          show x.length + 1 + _ ≤ _
          omega
      · intro H1 s1 hD
        have er : (List.range ((skeys ks).map V.str).length).map (fun i => V.str (((skeys ks).map g).getD i Str.empty)) = ((skeys ks).map g).map V.str := by
          have := range_map (fun i => V.str (((skeys ks).map g).getD i Str.empty)) (((skeys ks).map g).map V.str) (fun i hi => by
            rw [List.getElem_map]
            rw [List.getD_eq_getElem?_getD, List.getElem?_eq_getElem (by simpa using hi)]
            rfl)
          rw [List.length_map, List.length_map] at this
          rw [List.length_map]
          exact this
        rw [er] at hD
        have hss : ((((skeys ks).map g).map (·.length)).sum + ((skeys ks).map g).length * (("," : Str)).length) ≤ 1000000 := by
          have h1 : ((((skeys ks).map g).map (·.length)).sum + ((skeys ks).map g).length * (("," : Str)).length) = ((skeys ks).map fun x => (g x).length + 1).sum := by
            exact sum_join g (skeys ks)
          rw [h1, sum_perm _ pm0]
          have h2 : (ks.map fun x => (g x).length + 1).sum ≤ (ks.map fun x => wtN k (look ks ds x) + 10).sum := sum_le fun x hxk => by
            have := hg x hxk
            omega
          rw [look_sum (fun d => wtN k d + 10) ks ds hl hnd] at h2
          omega
        rw [shN_dct, len_app, len_app] at hsz
        have hsz : (("{" : Str)).length + (Txt.join "," ((skeys ks).map g)).length + (("}" : Str)).length ≤ wtN (k + 1) (.dct ks ds) := hsz
        refine ⟨_, D, (skeys ks).map g, rfl, rfl, .inl (SqL.of hD), by omega, _, _, rfl, rfl, ?_, _, _, rfl, rfl, ?_, q H1 (s0.trans s1)⟩
        · omega
        · rw [len_app]
          omega
theorem ok_sh {f : Addr} {fd : FuncData} (F : Fun K "_law_shown" "_law_shown" sSh f fd)
    (mF : mg "_law_shown" = some (.ref f)) (kF : PySem.W.keepIn K (.ref f) = true) (bF : Binds K fd ["_law_item"] [])
    (mI : mg "isinstance" = none) (mL : mg "list" = none) (mD : mg "dict" = none) (mS : mg "sorted" = none) (mR : mg "repr" = none) : ∀ j, FnOk P w K mg base CX0 (2 + j) f fd ["_law_item"] (spSh j)
  | 0 => ok_shS (sp := fun _ _ _ _ => False) F (fn_none fun _ _ _ _ h => h) (fun i h => by cases h) mF kF bF mI mL mD mS mR
  | j + 1 => ok_shS F (by rw [show 1 + (j + 1) = 2 + j by omega]; exact ok_sh F mF kF bF mI mL mD mS mR j) (fun i h => by rw [Nat.succ.inj h]) mF kF bF mI mL mD mS mR
end
end Toy


namespace Toy
open PySem PySem.Spec L2 PyProof.Rows PySem.W PySem.NumText PySem.W.KIN
/-! ### data written: numbers, texts, rows -/
def dgs (m : Nat) : List Nat := (Nat.toDigits 10 m).map Char.toNat
theorem dgs_all (m : Nat) : AllDigits (dgs m) := by
  intro c hc
  obtain ⟨ch, hch, e⟩ := List.mem_map.mp hc
  have r := digit_range (Nat.isDigit_of_mem_toDigits (by decide) (by decide) hch)
  rw [← e]
  exact r
theorem dgs_val (m : Nat) : digitsVal (dgs m) = m := val_back m
theorem dgs_ne (m : Nat) : dgs m ≠ [] := by
  intro e
  have h := toDigits_len_ge 10 m
  rw [List.map_eq_nil_iff.mp e] at h
  exact absurd h (by decide)
theorem digit_no0 : ∀ d : Nat, d < 10 → 0 < d → (Nat.digitChar d).toNat ≠ 48 := by decide
theorem dgs_head {m : Nat} : 0 < m → (dgs m).head? ≠ some 48 := by
  induction m using Nat.strongRecOn with
  | _ m ih =>
    intro hm
    by_cases h : m < 10
    · unfold dgs
      rw [Nat.toDigits_of_lt_base h]
      intro z
      exact digit_no0 m h hm (Option.some.inj z)
    · have hm : m % 10 < 10 := Nat.mod_lt m (by decide)
      have t : Nat.toDigits 10 (m / 10) ++ Nat.toDigits 10 (m % 10) = Nat.toDigits 10 (10 * (m / 10) + m % 10) := Nat.toDigits_append_toDigits (by decide) (by omega) hm
      rw [Nat.div_add_mod] at t
      have e : dgs m = dgs (m / 10) ++ dgs (m % 10) := by
        unfold dgs
        rw [← t, List.map_append]
      rw [e, List.head?_append, Option.or_of_isSome (by cases h2 : dgs (m / 10) with | nil => exact absurd h2 (dgs_ne _) | cons a b => rfl)]
      exact ih (m / 10) (by omega) (by omega)
theorem dgs_len {m : Nat} (h : m ≤ 10 ^ 30) : (dgs m).length ≤ 31 := by
  have z := (Nat.length_repr_le_iff (n := m) (show 0 < 31 by decide)).mpr (Nat.lt_of_le_of_lt h (by decide))
  unfold dgs
  rw [List.length_map, ← Nat.toList_repr, String.length_toList]
  exact z
def numL (i : Int) : List Nat := if i < 0 then 45 :: dgs i.natAbs else dgs i.natAbs
def numS (i : Int) : Str := Str.ofString (toString i)
theorem numS_list (i : Int) : (numS i).cps.toList = numL i := by
  cases i with
  | ofNat m =>
    have e := signs_num m
    unfold numL
    rw [if_neg (by exact Int.not_lt.mpr (Int.natCast_nonneg m))]
    exact e
  | negSucc m =>
    unfold numS numL
    rw [signs_ofString, if_pos (Int.negSucc_lt_zero m)]
    show ("-" ++ Nat.repr (m + 1)).toList.map Char.toNat = _
    rw [String.toList_append, List.map_append, Nat.toList_repr]
    rfl
theorem numL_len {i : Int} (h : i.natAbs ≤ 10 ^ 30) : (numL i).length ≤ 32 := by
  have := dgs_len h
  unfold numL
  split
  · rw [List.length_cons]; omega
  · omega
def escC (c : Nat) : List Nat := if c = 34 ∨ c = 92 then [92, c] else [c]
def escL (x : List Nat) : List Nat := x.flatMap escC
def escS (x : Str) : Str := ⟨(34 :: (escL x.cps.toList ++ [34])).toArray⟩
theorem escL_len : ∀ x : List Nat, (escL x).length ≤ 2 * x.length
  | [] => Nat.le_refl _
  | c :: x => by
    have ih := escL_len x
    unfold escL at ih ⊢
    rw [List.flatMap_cons, List.length_append, List.length_cons]
    have : (escC c).length ≤ 2 := by unfold escC; split <;> simp
    omega
theorem escS_list (x : Str) : (escS x).cps.toList = 34 :: (escL x.cps.toList ++ [34]) := rfl
theorem escS_len (x : Str) : (escS x).length ≤ 2 * x.length + 2 := by
  show ((34 :: (escL x.cps.toList ++ [34])).toArray).size ≤ _
  rw [List.size_toArray, List.length_cons, List.length_append, List.length_singleton]
  have := escL_len x.cps.toList
  rw [tl_len] at this
  omega
def lfS : D → Str
  | .bl true => "yes"
  | .bl false => "no"
  | .int i => numS i
  | .str x => escS x
  | _ => "null"
/-- rows joined by a sign -/
def rowS : List (List Str) → List Str
  | [] => []
  | y :: r => y ++ r.flatMap fun z => (";" : Str) :: z
theorem rowS_snoc {yss : List (List Str)} {y : List Str} (h : yss ≠ []) : rowS (yss ++ [y]) = rowS yss ++ ((";" : Str) :: y) := by
  cases yss with
  | nil => exact absurd rfl h
  | cons x r =>
    show x ++ (r ++ [y]).flatMap _ = (x ++ r.flatMap _) ++ _
    rw [List.flatMap_append, List.append_assoc]
    simp
theorem rowS_one (y : List Str) : rowS [y] = y := by simp [rowS]
def wrN : Nat → D → List Str
  | n + 1, .lst ds => ("[" : Str) :: (rowS (ds.map (wrN n)) ++ [("]" : Str)])
  | n + 1, .dct ks ds => ("{" : Str) :: (rowS ((skeys ks).map fun k => k :: ((":" : Str) :: wrN n (look ks ds k))) ++ [("}" : Str)])
  | _, t => [lfS t]
/-- the pieces of a datum, its keys in any order -/
def WrP : Nat → D → List Str → Prop
  | n + 1, .lst ds, ys => ∃ yss, Paired (fun d y => WrP n d y) ds yss ∧ ys = ("[" : Str) :: (rowS yss ++ [("]" : Str)])
  | n + 1, .dct ks ds, ys => ∃ zs yss, zs.Perm ks ∧ Paired (fun z y => ∃ y1, WrP n (look ks ds z) y1 ∧ y = z :: ((":" : Str) :: y1)) zs yss ∧ ys = ("{" : Str) :: (rowS yss ++ [("}" : Str)])
  | _, t, ys => ys = [lfS t]
theorem paired_map {α β : Type} {F : α → β → Prop} {f : α → β} (h : ∀ a, F a (f a)) : ∀ l : List α, Paired F l (l.map f)
  | [] => .nil
  | a :: l => .cons (h a) (paired_map h l)
theorem wr_wrP : ∀ (n : Nat) (t : D), WrP n t (wrN n t)
  | 0, .non => rfl
  | 0, .bl _ => rfl
  | 0, .int _ => rfl
  | 0, .str _ => rfl
  | 0, .lst _ => rfl
  | 0, .dct _ _ => rfl
  | _ + 1, .non => rfl
  | _ + 1, .bl _ => rfl
  | _ + 1, .int _ => rfl
  | _ + 1, .str _ => rfl
  | n + 1, .lst ds => ⟨_, paired_map (fun d => wr_wrP n d) ds, rfl⟩
  | n + 1, .dct ks ds => ⟨_, _, skeys_perm ks, paired_map (fun k => ⟨_, wr_wrP n (look ks ds k), rfl⟩) _, rfl⟩
def isKey (k : Str) : Bool := decide (1 ≤ k.length ∧ k.length ≤ 8) && k.cps.toList.all low
/-- right data, of at most n levels -/
def Gd : Nat → D → Prop
  | 0, _ => False
  | _ + 1, .non => True
  | _ + 1, .bl _ => True
  | _ + 1, .int i => i.natAbs ≤ 10 ^ 30
  | _ + 1, .str x => leafT x = true
  | n + 1, .lst ds => ∀ d ∈ ds, Gd n d
  | n + 1, .dct ks ds => ds.length = ks.length ∧ ks.Nodup ∧ (∀ k ∈ ks, isKey k = true) ∧ ∀ d ∈ ds, Gd n d
def npN : Nat → D → Nat
  | n + 1, .lst ds => 1 + (ds.map (npN n)).sum
  | n + 1, .dct _ ds => 1 + (ds.map (npN n)).sum
  | _, _ => 1
/-- alike but for the order of keys -/
def cn : Nat → D → D
  | n + 1, .lst ds => .lst (ds.map (cn n))
  | n + 1, .dct ks ds => .dct (skeys ks) ((skeys ks).map fun k => cn n (look ks ds k))
  | _, t => t
theorem map_ext {α β : Type} {f g : α → β} : ∀ {l : List α}, l.map f = l.map g → ∀ a ∈ l, f a = g a
  | [], _, a, h => by cases h
  | x :: l, e, a, h => by
    rw [List.map_cons, List.map_cons] at e
    injection e with e1 e2
    rcases List.mem_cons.mp h with rfl | h
    · exact e1
    · exact map_ext e2 a h
theorem map_two {α β γ : Type} {f : α → β} {g : α → γ} (h : ∀ a b, f a = f b → g a = g b) : ∀ {l m : List α}, l.map f = m.map f → l.map g = m.map g
  | [], [], _ => rfl
  | [], _ :: _, e => by cases e
  | _ :: _, [], e => by cases e
  | a :: l, b :: m, e => by
    rw [List.map_cons, List.map_cons] at e
    injection e with e1 e2
    rw [List.map_cons, List.map_cons, h a b e1, map_two h e2]
theorem cn_same : ∀ (n : Nat) (t u : D), cn n t = cn n u → shN n t = shN n u ∧ wrN n t = wrN n u := by
  intro n
  induction n with
  | zero =>
    intro t u h
    have h : t = u := by
      have e1 : cn 0 t = t := by cases t <;> rfl
      have e2 : cn 0 u = u := by cases u <;> rfl
      rw [e1, e2] at h
      exact h
    rw [h]
    exact ⟨rfl, rfl⟩
  | succ n ih =>
    intro t u h
    cases t with
    | lst ds =>
      cases u with
      | lst es =>
        have h : ds.map (cn n) = es.map (cn n) := D.lst.inj h
        have e1 := map_two (fun a b z => (ih a b z).1) h
        have e2 := map_two (fun a b z => (ih a b z).2) h
        refine ⟨?_, ?_⟩
        · show (("[" : Str) ++ Txt.join "," (ds.map (shN n))) ++ "]" = _
          rw [e1]
          rfl
        · show ("[" : Str) :: (rowS (ds.map (wrN n)) ++ [("]" : Str)]) = _
          rw [e2]
          rfl
      | dct _ _ => cases h
      | non => cases h
      | bl _ => cases h
      | int _ => cases h
      | str _ => cases h
    | dct ks ds =>
      cases u with
      | dct js es =>
        obtain ⟨h1, h2⟩ := D.dct.inj h
        rw [← h1] at h2
        have e := map_ext h2
        have z := fun k hk => ih _ _ (e k hk)
        refine ⟨?_, ?_⟩
        · show (("{" : Str) ++ Txt.join "," ((skeys ks).map fun k => (k ++ ":") ++ shN n (look ks ds k))) ++ "}" = (("{" : Str) ++ Txt.join "," ((skeys js).map fun k => (k ++ ":") ++ shN n (look js es k))) ++ "}"
          rw [← h1, List.map_congr_left (g := fun k => (k ++ ":") ++ shN n (look js es k)) fun k hk => by rw [(z k hk).1]]
        · show ("{" : Str) :: (rowS ((skeys ks).map fun k => k :: ((":" : Str) :: wrN n (look ks ds k))) ++ [("}" : Str)]) = ("{" : Str) :: (rowS ((skeys js).map fun k => k :: ((":" : Str) :: wrN n (look js es k))) ++ [("}" : Str)])
          rw [← h1, List.map_congr_left (g := fun k => k :: ((":" : Str) :: wrN n (look js es k))) fun k hk => by rw [(z k hk).2]]
      | lst _ => cases h
      | non => cases h
      | bl _ => cases h
      | int _ => cases h
      | str _ => cases h
    | non => cases u <;> first | exact ⟨rfl, rfl⟩ | cases h
    | bl b =>
      cases u with
      | bl c => cases h; exact ⟨rfl, rfl⟩
      | _ => cases h
    | int b =>
      cases u with
      | int c => cases h; exact ⟨rfl, rfl⟩
      | _ => cases h
    | str b =>
      cases u with
      | str c => cases h; exact ⟨rfl, rfl⟩
      | _ => cases h
end Toy


namespace Toy
open PySem PySem.Spec L2 PyProof.Rows PySem.W PySem.NumText
/-! ### data written are read: one piece -/
theorem drop_pre {pre l : List Nat} : (pre ++ l).drop pre.length = l := by
  rw [List.drop_append_of_le_length (Nat.le_refl _), List.drop_length, List.nil_append]
theorem get_pre {pre l : List Nat} (j : Nat) : (pre ++ l)[pre.length + j]? = l[j]? := by
  rw [List.getElem?_append_right (by omega), Nat.add_sub_cancel_left]
theorem get_pre0 {pre l : List Nat} : (pre ++ l)[pre.length]? = l[0]? := get_pre 0
/-- what may follow a word, a number -/
def Stop (l : List Nat) : Prop := ∀ c, l.head? = some c → low c = false ∧ dig c = false
theorem run_pre {p y rest : List Nat} (pre : List Nat) (hy : ∀ c ∈ y, c ∈ p) (hr : ∀ c, rest.head? = some c → c ∉ p) : runE p (pre ++ (y ++ rest)) pre.length = pre.length + y.length := by
  unfold runE
  rw [drop_pre, List.takeWhile_append_of_pos (fun c hc => decide_eq_true (hy c hc))]
  cases rest with
  | nil => simp
  | cons c r =>
    rw [List.takeWhile_cons, if_neg (by rw [decide_eq_true_eq]; exact hr c rfl), List.append_nil]
theorem low_in {c : Nat} : c ∈ letS.cps.toList ↔ low c = true := by
  rw [← low_mem, decide_eq_true_eq]
theorem dig_in {c : Nat} : c ∈ digS.cps.toList ↔ dig c = true := by
  rw [← dig_mem, decide_eq_true_eq]
theorem dig_low {c : Nat} (h : dig c = true) : low c = false := by
  unfold dig low at *
  rw [decide_eq_true_eq] at h
  rw [decide_eq_false_iff_not]
  omega
theorem ads_dig {ds : List Nat} (h : AllDigits ds) : ∀ c ∈ ds, dig c = true := fun c hc => decide_eq_true (h c hc)
theorem digR_pre {pre ds rest : List Nat} (hd : AllDigits ds) (hs : Stop rest) : digR (pre ++ (ds ++ rest)) pre.length = ds ∧ runE digS.cps.toList (pre ++ (ds ++ rest)) pre.length = pre.length + ds.length := by
  have e := run_pre (p := digS.cps.toList) (rest := rest) pre (fun c hc => dig_in.mpr (ads_dig hd c hc)) (fun c hc z => by
    rw [dig_in, (hs c hc).2] at z
    cases z)
  refine ⟨?_, e⟩
  unfold digR
  rw [e, drop_pre, Nat.add_sub_cancel_left, List.take_left]
theorem numR_dgs {m : Nat} (h : m ≤ 10 ^ 30) : numV (10 ^ 30) (dgs m) = (m : Int) ∧ numR (10 ^ 30) (dgs m) = true := by
  have e : numV (10 ^ 30) (dgs m) = (m : Int) := by
    unfold numV
    rw [if_pos (dgs_len h), dgs_val]
  refine ⟨e, ?_⟩
  unfold numR
  rw [e, Bool.and_eq_true, Bool.or_eq_true, decide_eq_true_eq, decide_eq_true_eq, decide_eq_true_eq]
  refine ⟨by exact_mod_cast h, ?_⟩
  by_cases z : m = 0
  · subst z
    exact .inl (by decide)
  · exact .inr (dgs_head (by omega))
/-- what a piece tells -/
inductive PcT : Str → Tk → Prop
  | mark (c : Nat) : c ∈ [91, 93, 123, 125, 58, 59] → PcT (sg c) (.mark c)
  | word (w : Str) : isKey w = true → PcT w (.word w)
  | num (i : Int) : i.natAbs ≤ 10 ^ 30 → PcT (numS i) (.leaf (.int i))
  | str (x : Str) : leafT x = true → PcT (escS x) (.leaf (.str x))
def soft : Tk → Bool
  | .word _ => true
  | .leaf (.int _) => true
  | _ => false
theorem strG_pre : ∀ (x pre rest acc : List Nat), strG (pre ++ (escL x ++ 34 :: rest)) pre.length acc = (pre.length + (escL x).length, acc ++ x)
  | [], pre, rest, acc => by
    rw [strG_quote (by rw [get_pre0]; rfl)]
    simp [escL]
  | c :: x, pre, rest, acc => by
    have e : escL (c :: x) = escC c ++ escL x := by simp [escL]
    by_cases h : c = 34 ∨ c = 92
    · have ec : escC c = [92, c] := if_pos h
      rw [e, ec]
      have h0 : (pre ++ (([92, c] ++ escL x) ++ 34 :: rest))[pre.length]? = some 92 := by rw [get_pre0]; rfl
      have h1 : (pre ++ (([92, c] ++ escL x) ++ 34 :: rest))[pre.length + 1]? = some c := by rw [get_pre]; rfl
      rw [strG_esc h0 h1 h]
      have z := strG_pre x (pre ++ [92, c]) rest (acc ++ [c])
      rw [List.length_append] at z
      have e2 : pre ++ [92, c] ++ (escL x ++ 34 :: rest) = pre ++ (([92, c] ++ escL x) ++ 34 :: rest) := by simp
      rw [e2] at z
      rw [show pre.length + 2 = pre.length + [92, c].length from rfl, z]
      simp
      omega
    · have ec : escC c = [c] := if_neg h
      rw [e, ec]
      have h0 : (pre ++ (([c] ++ escL x) ++ 34 :: rest))[pre.length]? = some c := by rw [get_pre0]; rfl
      rw [strG_plain h0 (fun z => h (.inl z)) (fun z => h (.inr z))]
      have z := strG_pre x (pre ++ [c]) rest (acc ++ [c])
      rw [List.length_append] at z
      have e2 : pre ++ [c] ++ (escL x ++ 34 :: rest) = pre ++ (([c] ++ escL x) ++ 34 :: rest) := by simp
      rw [e2] at z
      rw [show pre.length + 1 = pre.length + [c].length from rfl, z]
      simp
      omega
theorem fst_low {c : Nat} (h : dig c = true ∨ c = 45 ∨ c = 34) : low c = false := by
  rcases h with h | rfl | rfl
  · exact dig_low h
  · rfl
  · rfl
theorem tk_pre {y : Str} {tk : Tk} (h : PcT y tk) (pre rest : List Nat) (hs : soft tk = true → Stop rest) : ∃ u, (pre ++ (y.cps.toList ++ rest))[pre.length]? = some u ∧
    tkC (pre ++ (y.cps.toList ++ rest)) pre.length u (pre ++ (y.cps.toList ++ rest))[pre.length + 1]? = (tk, pre.length + y.length) ∧ tk ≠ .bad ∧ tk ≠ .fin ∧ u ≠ 32 ∧ u ≠ 10 ∧ u ≠ 35 := by
  cases h with
  | mark c hc =>
    refine ⟨c, by rw [get_pre0]; rfl, ?_, nofun, nofun, ?_⟩
    · simp only [List.mem_cons, List.not_mem_nil, or_false] at hc
      rcases hc with rfl | rfl | rfl | rfl | rfl | rfl <;> rfl
    · simp only [List.mem_cons, List.not_mem_nil, or_false] at hc
      rcases hc with rfl | rfl | rfl | rfl | rfl | rfl <;> exact ⟨by decide, by decide, by decide⟩
  | word _ hk =>
    have hk' := hk
    unfold isKey at hk
    rw [Bool.and_eq_true, decide_eq_true_eq, List.all_eq_true] at hk
    obtain ⟨⟨h1, h8⟩, hl⟩ := hk
    obtain ⟨u, l, e⟩ : ∃ u l, y.cps.toList = u :: l := by
      cases e : y.cps.toList with
      | nil => rw [← tl_len, e] at h1; exact absurd h1 (by decide)
      | cons u l => exact ⟨u, l, rfl⟩
    have hu : low u = true := hl u (by rw [e]; exact List.mem_cons_self)
    refine ⟨u, by rw [get_pre0, e]; rfl, ?_, nofun, nofun, ?_⟩
    · have er := run_pre (p := letS.cps.toList) (y := y.cps.toList) (rest := rest) pre (fun c hc => low_in.mpr (hl c hc)) (fun c hc z => by
        rw [low_in, (hs rfl c hc).1] at z
        cases z)
      unfold tkC
      rw [if_pos hu, er, Nat.add_sub_cancel_left, tl_len, if_pos h8]
      congr 2
      refine str_ext ?_
      unfold cutC
      rw [drop_pre, Nat.add_sub_cancel_left]
      show ((y.cps.toList ++ rest).take y.length) = y.cps.toList
      rw [← tl_len, List.take_left]
    · unfold low at hu
      rw [decide_eq_true_eq] at hu
      omega
  | num i hi =>
    have hn := numR_dgs hi
    rw [numS_list]
    have el : (numS i).length = (numL i).length := by rw [← tl_len, numS_list]
    rw [el]
    unfold numL
    obtain ⟨u, l, e⟩ : ∃ u l, dgs i.natAbs = u :: l := by
      cases e : dgs i.natAbs with
      | nil => exact absurd e (dgs_ne _)
      | cons u l => exact ⟨u, l, rfl⟩
    have hu : dig u = true := ads_dig (dgs_all _) u (by rw [e]; exact List.mem_cons_self)
    have hu2 : 48 ≤ u ∧ u ≤ 57 := dgs_all i.natAbs u (by rw [e]; exact List.mem_cons_self)
    by_cases hneg : i < 0
    · rw [if_pos hneg]
      have eq2 : pre ++ ((45 :: dgs i.natAbs) ++ rest) = (pre ++ [45]) ++ (dgs i.natAbs ++ rest) := by simp
      have ep : (pre ++ [45]).length = pre.length + 1 := by simp
      have d2 := digR_pre (pre := pre ++ [45]) (dgs_all i.natAbs) (hs rfl)
      rw [← eq2, ep] at d2
      have hf : (pre ++ ((45 :: dgs i.natAbs) ++ rest))[pre.length + 1]? = some u := by rw [get_pre, e]; rfl
      refine ⟨45, by rw [get_pre0]; rfl, ?_, nofun, nofun, by decide, by decide, by decide⟩
      rw [hf]
      unfold tkC
      rw [if_neg (by decide), if_neg (by rintro ⟨z | z, _⟩ <;> cases z), if_neg (by rintro ⟨z, _⟩; cases z), if_neg (by decide), if_pos ⟨rfl, hu⟩, d2.1, d2.2, hn.1, hn.2]
      have pos : (0 : Int) < (i.natAbs : Int) := by omega
      rw [decide_eq_true pos, Bool.and_self, if_pos rfl]
      congr 1
      · congr 2
        omega
      · rw [List.length_cons]
        omega
    · rw [if_neg hneg]
      have d2 := digR_pre (pre := pre) (dgs_all i.natAbs) (hs rfl)
      refine ⟨u, by rw [get_pre0, e]; rfl, ?_, nofun, nofun, by omega⟩
      unfold tkC
      rw [if_neg (by rw [dig_low hu]; exact Bool.false_ne_true), if_neg (by rintro ⟨z | z, _⟩ <;> omega), if_neg (by rintro ⟨z, _⟩; omega), if_pos hu, d2.1, d2.2, hn.1, hn.2, if_pos rfl]
      congr 3
      omega
  | str x hx =>
    rw [escS_list]
    have el : (escS x).length = 1 + (escL x.cps.toList).length + 1 := by
      rw [← tl_len, escS_list, List.length_cons, List.length_append, List.length_singleton]
      omega
    have eq2 : pre ++ ((34 :: (escL x.cps.toList ++ [34])) ++ rest) = (pre ++ [34]) ++ (escL x.cps.toList ++ 34 :: rest) := by simp
    have ep : (pre ++ [34]).length = pre.length + 1 := by simp
    have g := strG_pre x.cps.toList (pre ++ [34]) rest []
    rw [← eq2, ep, List.nil_append] at g
    refine ⟨34, by rw [get_pre0]; rfl, ?_, nofun, nofun, by decide, by decide, by decide⟩
    have et : told x.cps.toList = x := by
      rw [told_eq]
    unfold tkC
    rw [if_neg (by decide), if_neg (by rintro ⟨z | z, _⟩ <;> cases z), if_neg (by rintro ⟨z, _⟩; cases z), if_neg (by decide), if_neg (by rintro ⟨z, _⟩; cases z), if_pos rfl]
    unfold strR
    rw [g]
    dsimp only
    have hq : (pre ++ ((34 :: (escL x.cps.toList ++ [34])) ++ rest))[pre.length + 1 + (escL x.cps.toList).length]? = some 34 := by
      rw [Nat.add_assoc, get_pre, show 1 + (escL x.cps.toList).length = (escL x.cps.toList).length + 1 by omega]
      show ((escL x.cps.toList ++ [34]) ++ rest)[(escL x.cps.toList).length]? = _
      rw [List.append_assoc, List.getElem?_append_right (Nat.le_refl _), Nat.sub_self]
      rfl
    rw [hq, decide_eq_true rfl, et, hx, Bool.and_self, if_pos rfl, el]
    congr 1
    omega
end Toy


namespace Toy
open PySem PySem.Spec L2 PyProof.Rows PySem.W PySem.NumText
/-! ### data written are read: a row of pieces, gaps between -/
def Sharp (l : List Nat) : Prop := ∀ c, l.head? = some c → c ≠ 32 ∧ c ≠ 10 ∧ c ≠ 35
def IsGap (g : List Nat) : Prop := ∀ pre rest, Sharp rest → gapE (pre ++ (g ++ rest)) pre.length = pre.length + g.length
def IsTail (g : List Nat) : Prop := ∀ pre, gapE (pre ++ g) pre.length = pre.length + g.length
theorem IsGap.tail {g : List Nat} (h : IsGap g) : IsTail g := fun pre => by
  have z := h pre [] (fun c e => by cases e)
  rw [List.append_nil] at z
  exact z
theorem gap_nil : IsGap [] := fun pre rest hs => by
  cases rest with
  | nil => rw [gapE_end (by simp)]; rfl
  | cons c r =>
    have h := hs c rfl
    rw [gapE_out (c := c) (by rw [get_pre0]; rfl) (by rintro (z | z); exact h.1 z; exact h.2.1 z) h.2.2]
    rfl
theorem pre_one (pre : List Nat) (c : Nat) (l : List Nat) : pre ++ (c :: l) = (pre ++ [c]) ++ l := by simp
theorem gap_sp {c : Nat} {g : List Nat} (hc : c = 32 ∨ c = 10) (h : IsGap g) : IsGap (c :: g) := fun pre rest hs => by
  have z := h (pre ++ [c]) rest hs
  have e : pre ++ ((c :: g) ++ rest) = (pre ++ [c]) ++ (g ++ rest) := by simp
  rw [e, gapE_space (c := c) (by rw [← e, get_pre0]; rfl) hc]
  rw [List.length_append, List.length_singleton] at z
  rw [z, List.length_cons]
  omega
theorem tail_sp {c : Nat} {g : List Nat} (hc : c = 32 ∨ c = 10) (h : IsTail g) : IsTail (c :: g) := fun pre => by
  have z := h (pre ++ [c])
  rw [pre_one, gapE_space (c := c) (by rw [← pre_one, get_pre0]; rfl) hc]
  rw [List.length_append, List.length_singleton] at z
  rw [z, List.length_cons]
  omega
theorem nl_pre {pre b rest : List Nat} (hb : 10 ∉ b) (hr : ∀ c, rest.head? = some c → c = 10) : nlE 10 (pre ++ (b ++ rest)) pre.length = pre.length + b.length := by
  unfold nlE
  rw [drop_pre, List.takeWhile_append_of_pos (p := fun u => decide (u ≠ 10)) (fun c hc => decide_eq_true (p := c ≠ 10) fun (z : c = 10) => hb (z ▸ hc))]
  cases rest with
  | nil => simp
  | cons c r =>
    rw [List.takeWhile_cons, if_neg (by rw [decide_eq_true_eq]; exact fun z => z (hr c rfl)), List.append_nil]
theorem gap_cm {b g : List Nat} (hb : 10 ∉ b) (h : IsGap g) : IsGap (35 :: (b ++ 10 :: g)) := fun pre rest hs => by
  have hb2 : 10 ∉ 35 :: b := fun z => by
    rcases List.mem_cons.mp z with z | z
    · cases z
    · exact hb z
  have e : pre ++ ((35 :: (b ++ 10 :: g)) ++ rest) = pre ++ ((35 :: b) ++ (10 :: (g ++ rest))) := by simp
  rw [e, gapE_mark (by rw [get_pre0]; rfl), nl_pre hb2 (fun c z => by cases z; rfl)]
  have e2 : pre ++ ((35 :: b) ++ (10 :: (g ++ rest))) = (pre ++ (35 :: b)) ++ ((10 :: g) ++ rest) := by simp
  have z := gap_sp (.inr rfl) h (pre ++ (35 :: b)) rest hs
  rw [List.length_append] at z
  rw [e2, z]
  simp
  omega
theorem tail_cm {b : List Nat} (hb : 10 ∉ b) : IsTail (35 :: b) := fun pre => by
  have hb2 : 10 ∉ 35 :: b := fun z => by
    rcases List.mem_cons.mp z with z | z
    · cases z
    · exact hb z
  have z := nl_pre (pre := pre) (rest := []) hb2 (fun c e => by cases e)
  rw [List.append_nil] at z
  rw [gapE_mark (by rw [get_pre0]; rfl), z, gapE_end (by rw [List.length_append]; exact Nat.le_refl _)]
theorem tail_cg {b g : List Nat} (hb : 10 ∉ b) (h : IsTail g) : IsTail (35 :: (b ++ 10 :: g)) := fun pre => by
  have hb2 : 10 ∉ 35 :: b := fun z => by
    rcases List.mem_cons.mp z with z | z
    · cases z
    · exact hb z
  have e : pre ++ (35 :: (b ++ 10 :: g)) = pre ++ ((35 :: b) ++ (10 :: g)) := by simp
  rw [e, gapE_mark (by rw [get_pre0]; rfl), nl_pre hb2 (fun c z => by cases z; rfl)]
  have e2 : pre ++ ((35 :: b) ++ (10 :: g)) = (pre ++ (35 :: b)) ++ (10 :: g) := by simp
  have z := tail_sp (.inr rfl) h (pre ++ (35 :: b))
  rw [List.length_append] at z
  rw [e2, z]
  simp
  omega
def Blank (g : List Nat) : Prop := ∀ c, g.head? = some c → c = 32 ∨ c = 10 ∨ c = 35
def GapC (g : List Nat) : Prop := IsGap g ∧ Blank g
def TailC (g : List Nat) : Prop := IsTail g ∧ Blank g
/-- pieces, each behind a gap, and a tail -/
def LaidT : List Str → List Nat → Prop
  | [], l => TailC l
  | y :: ys, l => ∃ g l2, GapC g ∧ l = g ++ (y.cps.toList ++ l2) ∧ LaidT ys l2
def Sep : List Tk → Prop
  | a :: b :: r => (soft a = true → soft b = false) ∧ Sep (b :: r)
  | _ => True
theorem pc_first {y : Str} {tk : Tk} (h : PcT y tk) : ∃ u l, y.cps.toList = u :: l ∧ u ≠ 32 ∧ u ≠ 10 ∧ u ≠ 35 ∧ (soft tk = false → low u = false ∧ dig u = false) := by
  obtain ⟨u, e, _, _, _, h1, h2, h3⟩ := tk_pre h [] [] (fun _ c z => by cases z)
  rw [List.nil_append, List.append_nil] at e
  have e : y.cps.toList[0]? = some u := e
  cases hy : y.cps.toList with
  | nil => rw [hy] at e; cases e
  | cons v l =>
    rw [hy] at e
    cases e
    refine ⟨u, l, rfl, h1, h2, h3, fun hs => ?_⟩
    cases h with
    | mark c hc =>
      have : u = c := by
        have z : (sg c).cps.toList = [c] := rfl
        rw [z] at hy
        cases hy
        rfl
      subst this
      simp only [List.mem_cons, List.not_mem_nil, or_false] at hc
      rcases hc with rfl | rfl | rfl | rfl | rfl | rfl <;> exact ⟨rfl, rfl⟩
    | word _ _ => cases hs
    | num _ _ => cases hs
    | str x _ =>
      rw [escS_list] at hy
      cases hy
      exact ⟨rfl, rfl⟩
theorem blank_stop {g : List Nat} (h : Blank g) : Stop g := fun c e => by
  rcases h c e with rfl | rfl | rfl <;> exact ⟨rfl, rfl⟩
theorem laid_stop {ys : List Str} {tks : List Tk} {l : List Nat} (hp : Paired PcT ys tks) (h : LaidT ys l) (hs : ∀ b r, tks = b :: r → soft b = false) : Stop l := by
  cases hp with
  | nil => exact blank_stop h.2
  | cons a b =>
    obtain ⟨g, l2, hg, rfl, _⟩ := h
    cases g with
    | cons c g => exact fun c' e => blank_stop hg.2 c' (by rw [← e]; rfl)
    | nil =>
      obtain ⟨u, r, e, _, _, _, z⟩ := pc_first a
      rw [List.nil_append, e]
      intro c' e'
      cases e'
      exact z (hs _ _ rfl)
theorem lex_laid : ∀ (ys : List Str) (tks : List Tk) (l pre : List Nat) (n : Nat), Paired PcT ys tks → Sep tks → LaidT ys l → ys.length < n → (lexA n (pre ++ l) (gapE (pre ++ l) pre.length)).map Prod.fst = tks ++ [.fin]
  | [], _, l, pre, n, .nil, _, h, hn => by
    rw [h.1 pre]
    obtain ⟨n, rfl⟩ : ∃ m, n = m + 1 := ⟨n - 1, by simp at hn; omega⟩
    unfold lexA
    rw [List.getElem?_eq_none_iff.mpr (by rw [List.length_append]; exact Nat.le_refl _)]
    rfl
  | y :: ys, tk :: tks, l, pre, n, .cons a b, hs, h, hn => by
    obtain ⟨g, l2, hg, rfl, h2⟩ := h
    obtain ⟨n, rfl⟩ : ∃ m, n = m + 1 := ⟨n - 1, by rw [List.length_cons] at hn; omega⟩
    rw [List.length_cons] at hn
    obtain ⟨u, r, e, n1, n2, n3, _⟩ := pc_first a
    have hsh : Sharp (y.cps.toList ++ l2) := fun c z => by
      rw [e] at z
      cases z
      exact ⟨n1, n2, n3⟩
    rw [hg.1 pre _ hsh]
    have hst : soft tk = true → Stop l2 := fun hsf => laid_stop b h2 fun b' r' er => by
      rw [er] at hs
      exact hs.1 hsf
    have hs2 : Sep tks := by
      cases tks with
      | nil => trivial
      | cons b' r' => exact hs.2
    have e2 : pre ++ (g ++ (y.cps.toList ++ l2)) = (pre ++ g) ++ (y.cps.toList ++ l2) := by simp
    have e3 : pre ++ (g ++ (y.cps.toList ++ l2)) = ((pre ++ g) ++ y.cps.toList) ++ l2 := by simp
    obtain ⟨v, ev, et, nb, nf, _⟩ := tk_pre a (pre ++ g) l2 hst
    have ep : (pre ++ g).length = pre.length + g.length := List.length_append
    rw [ep, ← e2] at ev et
    have ih := lex_laid ys tks l2 ((pre ++ g) ++ y.cps.toList) n b hs2 h2 (by omega)
    rw [← e3, List.length_append, ep, tl_len] at ih
    unfold lexA
    rw [ev]
    dsimp only
    rw [et]
    cases tk with
    | bad => exact absurd rfl nb
    | fin => exact absurd rfl nf
    | mark c => rw [List.map_cons, ih]; rfl
    | word c => rw [List.map_cons, ih]; rfl
    | leaf c => rw [List.map_cons, ih]; rfl
theorem laid_len : ∀ (ys : List Str) (tks : List Tk) (l : List Nat), Paired PcT ys tks → LaidT ys l → ys.length ≤ l.length
  | [], _, _, _, _ => Nat.zero_le _
  | y :: ys, tk :: tks, l, .cons a b, h => by
    obtain ⟨g, l2, _, rfl, h2⟩ := h
    obtain ⟨u, r, e, _⟩ := pc_first a
    have ih := laid_len ys tks l2 b h2
    rw [List.length_append, List.length_append, e, List.length_cons, List.length_cons]
    omega
theorem row_laid {ys : List Str} {tks : List Tk} {l : List Nat} (hp : Paired PcT ys tks) (hs : Sep tks) (h : LaidT ys l) : (rowA l).map Prod.fst = tks ++ [.fin] :=
  lex_laid ys tks l [] (l.length + 1) hp hs h (by have := laid_len ys tks l hp h; omega)
end Toy


namespace Toy
open PySem PySem.Spec L2 PyProof.Rows PySem.W PySem.NumText
/-! ### data written are read: the whole datum -/
theorem skeys_pair (ks : List Str) : (skeys ks).Pairwise fun a b => leS a b = true := by
  refine List.pairwise_mergeSort (fun a b c h1 h2 => ?_) (fun a b => ?_) ks
  · have e1 : ltCps b.cps.toList a.cps.toList = false := by simpa [leS] using h1
    have e2 : ltCps c.cps.toList b.cps.toList = false := by simpa [leS] using h2
    show (!ltCps c.cps.toList a.cps.toList) = true
    cases q : ltCps c.cps.toList a.cps.toList with
    | false => rfl
    | true =>
      rcases cNeg (b := b.cps.toList) q with z | z
      · rw [e2] at z; cases z
      · rw [e1] at z; cases z
  · show (!ltCps b.cps.toList a.cps.toList || !ltCps a.cps.toList b.cps.toList) = true
    cases q : ltCps b.cps.toList a.cps.toList with
    | false => rfl
    | true =>
      cases q2 : ltCps a.cps.toList b.cps.toList with
      | false => rfl
      | true =>
        rw [PyProof.Rows.ltCps_eq] at q q2
        have z := PyProof.Rows.strKind.trans _ _ _ q q2
        rw [PyProof.Rows.strKind.irrefl] at z
        cases z
theorem skeys_same {zs ks : List Str} (p : zs.Perm ks) : skeys zs = skeys ks := by
  refine List.Perm.eq_of_pairwise (le := fun a b => leS a b = true) (fun a b _ _ h1 h2 => ?_) (skeys_pair zs) (skeys_pair ks) ((skeys_perm zs).trans (p.trans (skeys_perm ks).symm))
  have e1 : ltCps b.cps.toList a.cps.toList = false := by simpa [leS] using h1
  have e2 : ltCps a.cps.toList b.cps.toList = false := by simpa [leS] using h2
  exact str_ext (cTot e2 e1)
def semi (z : List Tk) : List Tk := Tk.mark 59 :: z
def rowT : List (List Tk) → List Tk
  | [] => []
  | y :: r => y ++ r.flatMap semi
def AtT (ts : List (Tk × Nat)) (pos : Nat) (tks : List Tk) : Prop := ∀ j tk, tks[j]? = some tk → tkA ts (pos + j) = tk
theorem AtT.cons {ts : List (Tk × Nat)} {pos : Nat} {x : Tk} {l : List Tk} (h : AtT ts pos (x :: l)) : tkA ts pos = x ∧ AtT ts (pos + 1) l :=
  ⟨h 0 x rfl, fun j tk e => by rw [Nat.add_assoc, Nat.add_comm 1 j]; exact h (j + 1) tk e⟩
theorem AtT.app {ts : List (Tk × Nat)} {pos : Nat} {a b : List Tk} (h : AtT ts pos (a ++ b)) : AtT ts pos a ∧ AtT ts (pos + a.length) b :=
  ⟨fun j tk e => h j tk (by rw [List.getElem?_append_left (List.getElem?_eq_some_iff.mp e).1]; exact e),
   fun j tk e => by rw [Nat.add_assoc]; exact h (a.length + j) tk (by rw [List.getElem?_append_right (by omega), Nat.add_sub_cancel_left]; exact e)⟩
def Prs (n : Nat) (t : D) (tks : List Tk) : Prop := ∀ (ts : List (Tk × Nat)) (pos m : Nat), AtT ts pos tks → tks.length ≤ ts.length → m + npN n t ≤ 1000 → ∃ t', partA ts n pos m = .ok t' (pos + tks.length) (m + npN n t) ∧ cn n t' = cn n t
def Opens (tks : List Tk) : Prop := ∃ a r, tks = a :: r ∧ isMk 93 a = false ∧ isMk 125 a = false
theorem mk_self (c : Nat) : isMk c (.mark c) = true := decide_eq_true rfl
abbrev El := D × List Tk
def sumE (n : Nat) (r : List El) : Nat := (r.map fun e => npN n e.1).sum
theorem loopL_more {n : Nat} {ts : List (Tk × Nat)} : ∀ (r : List El) (j pos m : Nat) (acc : List D), acc ≠ [] → (∀ e ∈ r, Prs n e.1 e.2 ∧ e.2.length ≤ ts.length) → AtT ts pos ((r.map Prod.snd).flatMap semi ++ [Tk.mark 93]) → r.length < j → m + sumE n r ≤ 1000 →
    ∃ ds, loopL (partA ts n) ts j pos m acc = .ok (acc ++ ds) (pos + ((r.map Prod.snd).flatMap semi).length) (m + sumE n r) ∧ ds.map (cn n) = r.map fun e => cn n e.1
  | [], j, pos, m, acc, hne, _, hat, hj, _ => by
    obtain ⟨j, rfl⟩ : ∃ k, j = k + 1 := ⟨j - 1, by simp at hj; omega⟩
    refine ⟨[], ?_, rfl⟩
    unfold loopL
    rw [(show tkA ts pos = .mark 93 from (AtT.cons hat).1), mk_self, if_pos rfl, List.append_nil]
    rfl
  | e :: r, j, pos, m, acc, hne, he, hat, hj, hm => by
    rw [List.length_cons] at hj
    obtain ⟨j, rfl⟩ : ∃ k, j = k + 1 := ⟨j - 1, by omega⟩
    have hs : sumE n (e :: r) = npN n e.1 + sumE n r := by unfold sumE; rw [List.map_cons, List.sum_cons]
    rw [hs] at hm
    have ef : ((e :: r).map Prod.snd).flatMap semi = Tk.mark 59 :: (e.2 ++ (r.map Prod.snd).flatMap semi) := by
      rw [List.map_cons, List.flatMap_cons]
      rfl
    rw [ef, List.cons_append, List.append_assoc] at hat
    obtain ⟨h0, h1⟩ := AtT.cons hat
    obtain ⟨h2, h3⟩ := AtT.app h1
    obtain ⟨p1, p2⟩ := he e List.mem_cons_self
    obtain ⟨t', q1, q2⟩ := p1 ts (pos + 1) m h2 p2 (by omega)
    obtain ⟨ds, q3, q4⟩ := loopL_more r j (pos + 1 + e.2.length) (m + npN n e.1) (acc ++ [t']) (by simp) (fun x hx => he x (List.mem_cons_of_mem _ hx)) h3 (by omega) (by omega)
    refine ⟨t' :: ds, ?_, by rw [List.map_cons, List.map_cons, q2, q4]⟩
    have ie : acc.isEmpty = false := by cases acc with | nil => exact absurd rfl hne | cons => rfl
    unfold loopL
    rw [h0, if_neg (by decide), if_pos (.inr (mk_self 59)), ie, if_neg Bool.false_ne_true, q1]
    dsimp only
    rw [q3, ef, hs]
    simp only [List.append_assoc, List.singleton_append, List.length_cons, List.length_append]
    congr 1 <;> omega
theorem loopL_run {n : Nat} {ts : List (Tk × Nat)} (r : List El) (j pos m : Nat) (he : ∀ e ∈ r, Prs n e.1 e.2 ∧ e.2.length ≤ ts.length) (ho : ∀ e ∈ r, Opens e.2) (hat : AtT ts pos (rowT (r.map Prod.snd) ++ [Tk.mark 93])) (hj : r.length < j) (hm : m + sumE n r ≤ 1000) :
    ∃ ds, loopL (partA ts n) ts j pos m [] = .ok ds (pos + (rowT (r.map Prod.snd)).length) (m + sumE n r) ∧ ds.map (cn n) = r.map fun e => cn n e.1 := by
  cases r with
  | nil =>
    obtain ⟨j, rfl⟩ : ∃ k, j = k + 1 := ⟨j - 1, by simp at hj; omega⟩
    refine ⟨[], ?_, rfl⟩
    unfold loopL
    rw [(show tkA ts pos = .mark 93 from (AtT.cons hat).1), mk_self, if_pos rfl]
    rfl
  | cons e r =>
    rw [List.length_cons] at hj
    obtain ⟨j, rfl⟩ : ∃ k, j = k + 1 := ⟨j - 1, by omega⟩
    have hs : sumE n (e :: r) = npN n e.1 + sumE n r := by unfold sumE; rw [List.map_cons, List.sum_cons]
    rw [hs] at hm
    have ef : rowT ((e :: r).map Prod.snd) = e.2 ++ (r.map Prod.snd).flatMap semi := rfl
    rw [ef, List.append_assoc] at hat
    obtain ⟨h2, h3⟩ := AtT.app hat
    obtain ⟨p1, p2⟩ := he e List.mem_cons_self
    obtain ⟨a, r', ea, o1, _⟩ := ho e List.mem_cons_self
    have h0 : tkA ts pos = a := by rw [ea] at h2; exact (AtT.cons h2).1
    obtain ⟨t', q1, q2⟩ := p1 ts pos m h2 p2 (by omega)
    obtain ⟨ds, q3, q4⟩ := loopL_more r j (pos + e.2.length) (m + npN n e.1) [t'] (by simp) (fun x hx => he x (List.mem_cons_of_mem _ hx)) h3 (by omega) (by omega)
    refine ⟨t' :: ds, ?_, by rw [List.map_cons, List.map_cons, q2, q4]⟩
    unfold loopL
    rw [h0, o1, if_neg Bool.false_ne_true, if_pos (.inl rfl)]
    rw [show (([] : List D).isEmpty) = true from rfl, if_pos rfl, q1]
    dsimp only
    rw [List.nil_append, q3, ef, hs]
    simp only [List.singleton_append, List.length_append]
    congr 1 <;> omega
abbrev Ed := Str × El
def edT (e : Ed) : List Tk := Tk.word e.1 :: Tk.mark 58 :: e.2.2
def sumD (n : Nat) (r : List Ed) : Nat := (r.map fun e => npN n e.2.1).sum
theorem loopD_more {n : Nat} {ts : List (Tk × Nat)} : ∀ (r : List Ed) (j pos m : Nat) (ks : List Str) (acc : List D), ks ≠ [] → (ks ++ r.map Prod.fst).Nodup → (∀ e ∈ r, Prs n e.2.1 e.2.2 ∧ e.2.2.length ≤ ts.length) → AtT ts pos ((r.map edT).flatMap semi ++ [Tk.mark 125]) → r.length < j → m + sumD n r ≤ 1000 →
    ∃ ds, loopD (partA ts n) ts j pos m ks acc = .ok (ks ++ r.map Prod.fst, acc ++ ds) (pos + ((r.map edT).flatMap semi).length) (m + sumD n r) ∧ ds.map (cn n) = r.map fun e => cn n e.2.1
  | [], j, pos, m, ks, acc, hne, _, _, hat, hj, _ => by
    obtain ⟨j, rfl⟩ : ∃ k, j = k + 1 := ⟨j - 1, by simp at hj; omega⟩
    refine ⟨[], ?_, rfl⟩
    unfold loopD
    rw [(show tkA ts pos = .mark 125 from (AtT.cons hat).1), mk_self, if_pos rfl, List.append_nil, List.map_nil, List.append_nil]
    rfl
  | e :: r, j, pos, m, ks, acc, hne, hnd, he, hat, hj, hm => by
    rw [List.length_cons] at hj
    obtain ⟨j, rfl⟩ : ∃ k, j = k + 1 := ⟨j - 1, by omega⟩
    have hs : sumD n (e :: r) = npN n e.2.1 + sumD n r := by unfold sumD; rw [List.map_cons, List.sum_cons]
    rw [hs] at hm
    have ef : ((e :: r).map edT).flatMap semi = Tk.mark 59 :: (Tk.word e.1 :: Tk.mark 58 :: (e.2.2 ++ (r.map edT).flatMap semi)) := by
      rw [List.map_cons, List.flatMap_cons]
      rfl
    rw [ef, List.cons_append, List.cons_append, List.cons_append, List.append_assoc] at hat
    obtain ⟨h0, h1⟩ := AtT.cons hat
    obtain ⟨hw, h1⟩ := AtT.cons h1
    obtain ⟨hc, h1⟩ := AtT.cons h1
    obtain ⟨h2, h3⟩ := AtT.app h1
    obtain ⟨p1, p2⟩ := he e List.mem_cons_self
    obtain ⟨t', q1, q2⟩ := p1 ts (pos + 1 + 1 + 1) m h2 p2 (by omega)
    have hnd' : ((ks ++ [e.1]) ++ r.map Prod.fst).Nodup := by
      rw [List.append_assoc]
      exact hnd
    obtain ⟨ds, q3, q4⟩ := loopD_more r j (pos + 1 + 1 + 1 + e.2.2.length) (m + npN n e.2.1) (ks ++ [e.1]) (acc ++ [t']) (by simp) hnd' (fun x hx => he x (List.mem_cons_of_mem _ hx)) h3 (by omega) (by omega)
    refine ⟨t' :: ds, ?_, by rw [List.map_cons, List.map_cons, q2, q4]⟩
    have ie : ks.isEmpty = false := by cases ks with | nil => exact absurd rfl hne | cons => rfl
    have nin : e.1 ∉ ks := fun z => by
      rw [List.map_cons, List.nodup_append] at hnd
      exact hnd.2.2 _ z _ List.mem_cons_self rfl
    unfold loopD
    rw [h0, if_neg (by decide), if_pos (.inr (mk_self 59)), ie]
    dsimp only
    rw [if_neg Bool.false_ne_true, hw]
    dsimp only
    rw [if_neg nin, hc, mk_self, if_pos rfl, q1]
    dsimp only
    rw [q3, ef, hs]
    simp only [List.append_assoc, List.singleton_append, List.length_cons, List.length_append, List.map_cons]
    congr 1 <;> omega
theorem loopD_run {n : Nat} {ts : List (Tk × Nat)} (r : List Ed) (j pos m : Nat) (hnd : (r.map Prod.fst).Nodup) (he : ∀ e ∈ r, Prs n e.2.1 e.2.2 ∧ e.2.2.length ≤ ts.length) (hat : AtT ts pos (rowT (r.map edT) ++ [Tk.mark 125])) (hj : r.length < j) (hm : m + sumD n r ≤ 1000) :
    ∃ ds, loopD (partA ts n) ts j pos m [] [] = .ok (r.map Prod.fst, ds) (pos + (rowT (r.map edT)).length) (m + sumD n r) ∧ ds.map (cn n) = r.map fun e => cn n e.2.1 := by
  cases r with
  | nil =>
    obtain ⟨j, rfl⟩ : ∃ k, j = k + 1 := ⟨j - 1, by simp at hj; omega⟩
    refine ⟨[], ?_, rfl⟩
    unfold loopD
    rw [(show tkA ts pos = .mark 125 from (AtT.cons hat).1), mk_self, if_pos rfl]
    rfl
  | cons e r =>
    rw [List.length_cons] at hj
    obtain ⟨j, rfl⟩ : ∃ k, j = k + 1 := ⟨j - 1, by omega⟩
    have hs : sumD n (e :: r) = npN n e.2.1 + sumD n r := by unfold sumD; rw [List.map_cons, List.sum_cons]
    rw [hs] at hm
    have ef : rowT ((e :: r).map edT) = Tk.word e.1 :: Tk.mark 58 :: (e.2.2 ++ (r.map edT).flatMap semi) := rfl
    rw [ef, List.cons_append, List.cons_append, List.append_assoc] at hat
    obtain ⟨hw, h1⟩ := AtT.cons hat
    obtain ⟨hc, h1⟩ := AtT.cons h1
    obtain ⟨h2, h3⟩ := AtT.app h1
    obtain ⟨p1, p2⟩ := he e List.mem_cons_self
    obtain ⟨t', q1, q2⟩ := p1 ts (pos + 1 + 1) m h2 p2 (by omega)
    obtain ⟨ds, q3, q4⟩ := loopD_more r j (pos + 1 + 1 + e.2.2.length) (m + npN n e.2.1) [e.1] [t'] (by simp) hnd (fun x hx => he x (List.mem_cons_of_mem _ hx)) h3 (by omega) (by omega)
    refine ⟨t' :: ds, ?_, by rw [List.map_cons, List.map_cons, q2, q4]⟩
    unfold loopD
    rw [hw, if_neg (show ¬ (isMk 125 (Tk.word e.1) = true) from Bool.false_ne_true), if_pos (.inl rfl), show (([] : List Str).isEmpty) = true from rfl]
    dsimp only
    rw [if_pos rfl, hw]
    dsimp only
    rw [if_neg (by simp), hc, mk_self, if_pos rfl, q1]
    dsimp only
    rw [List.nil_append, List.nil_append, q3, ef, hs]
    simp only [List.singleton_append, List.length_cons, List.length_append, List.map_cons]
    congr 1 <;> omega
end Toy


namespace Toy
open PySem PySem.Spec L2 PyProof.Rows PySem.W PySem.NumText
/-! ### data written are read: the theorem -/
theorem sep_app : ∀ {a b : List Tk}, Sep a → Sep b → (∀ x r, b = x :: r → soft x = false) → Sep (a ++ b)
  | [], b, _, h, _ => h
  | [x], [], _, _, _ => trivial
  | [x], y :: b, _, h, k => ⟨fun _ => k y b rfl, h⟩
  | x :: y :: a, b, h1, h, k => ⟨h1.1, sep_app (a := y :: a) h1.2 h k⟩
theorem sep_semi {z : List Tk} (h : Sep z) : Sep (semi z) := by
  cases z with
  | nil => trivial
  | cons a z => exact ⟨fun h => (by cases h), h⟩
theorem sep_flat : ∀ {r : List (List Tk)}, (∀ z ∈ r, Sep z) → Sep (r.flatMap semi) ∧ ∀ x l, r.flatMap semi = x :: l → soft x = false
  | [], _ => ⟨trivial, fun x l e => by cases e⟩
  | z :: r, h => by
    obtain ⟨h1, h2⟩ := sep_flat fun y hy => h y (List.mem_cons_of_mem _ hy)
    rw [List.flatMap_cons]
    exact ⟨sep_app (sep_semi (h z List.mem_cons_self)) h1 h2, fun x l e => by cases e; rfl⟩
theorem sep_row {r : List (List Tk)} (h : ∀ z ∈ r, Sep z) : Sep (rowT r) := by
  cases r with
  | nil => trivial
  | cons z r =>
    obtain ⟨h1, h2⟩ := sep_flat fun y hy => h y (List.mem_cons_of_mem _ hy)
    exact sep_app (h z List.mem_cons_self) h1 h2
theorem sep_cons {a : Tk} {l : List Tk} (ha : soft a = false) (h : Sep l) : Sep (a :: l) := by
  cases l with
  | nil => trivial
  | cons b l => exact ⟨fun z => (by rw [ha] at z; cases z), h⟩
theorem pc_mark {s : Str} (c : Nat) (e : s = sg c) (h : c ∈ [91, 93, 123, 125, 58, 59]) : PcT s (.mark c) := by
  rw [e]
  exact .mark c h
theorem pcp_flat : ∀ {yss : List (List Str)} {r : List (List Tk)}, Paired (Paired PcT) yss r → Paired PcT (yss.flatMap fun z => (";" : Str) :: z) (r.flatMap semi)
  | [], [], .nil => .nil
  | y :: yss, z :: r, .cons a b => by
    rw [List.flatMap_cons, List.flatMap_cons]
    exact paired_app (.cons (pc_mark 59 (by decide +kernel) (by decide)) a) (pcp_flat b)
theorem pcp_row {yss : List (List Str)} {r : List (List Tk)} (h : Paired (Paired PcT) yss r) : Paired PcT (rowS yss) (rowT r) := by
  cases h with
  | nil => exact .nil
  | cons a b => exact paired_app a (pcp_flat b)
theorem flat_len : ∀ {r : List (List Tk)}, r.length ≤ (r.flatMap semi).length ∧ ∀ z ∈ r, z.length ≤ (r.flatMap semi).length
  | [] => ⟨Nat.le_refl _, fun z h => by cases h⟩
  | y :: r => by
    obtain ⟨h1, h2⟩ := flat_len (r := r)
    rw [List.flatMap_cons, List.length_append]
    have e : (semi y).length = y.length + 1 := rfl
    refine ⟨by rw [List.length_cons]; omega, fun z hz => ?_⟩
    rcases List.mem_cons.mp hz with rfl | hz
    · omega
    · have := h2 z hz
      omega
theorem row_len {r : List (List Tk)} : r.length ≤ (rowT r).length + 1 ∧ ∀ z ∈ r, z.length ≤ (rowT r).length := by
  cases r with
  | nil => exact ⟨Nat.zero_le _, fun z h => by cases h⟩
  | cons y r =>
    obtain ⟨h1, h2⟩ := flat_len (r := r)
    show (y :: r).length ≤ (y ++ r.flatMap semi).length + 1 ∧ ∀ z ∈ y :: r, z.length ≤ (y ++ r.flatMap semi).length
    rw [List.length_append, List.length_cons]
    refine ⟨by omega, fun z hz => ?_⟩
    rcases List.mem_cons.mp hz with rfl | hz
    · omega
    · have := h2 z hz
      omega
def Goal (n : Nat) (t : D) (ys : List Str) : Prop := ∃ tks, Paired PcT ys tks ∧ Sep tks ∧ Opens tks ∧ Prs n t tks
theorem gather_l {n : Nat} : ∀ {ds : List D} {yss : List (List Str)}, Paired (fun d y => Goal n d y) ds yss → ∃ r : List El, r.map Prod.fst = ds ∧ Paired (Paired PcT) yss (r.map Prod.snd) ∧ ∀ e ∈ r, Sep e.2 ∧ Opens e.2 ∧ Prs n e.1 e.2
  | [], [], .nil => ⟨[], rfl, .nil, fun e h => by cases h⟩
  | d :: ds, y :: yss, .cons a b => by
    obtain ⟨r, h1, h2, h3⟩ := gather_l b
    obtain ⟨tks, p1, p2, p3, p4⟩ := a
    refine ⟨(d, tks) :: r, by rw [List.map_cons, h1], .cons p1 h2, fun e he => ?_⟩
    rcases List.mem_cons.mp he with rfl | he
    · exact ⟨p2, p3, p4⟩
    · exact h3 e he
theorem gather_d {n : Nat} {f : Str → D} : ∀ {zs : List Str} {yss : List (List Str)}, (∀ z ∈ zs, isKey z = true) → Paired (fun z y => ∃ y1, Goal n (f z) y1 ∧ y = z :: ((":" : Str) :: y1)) zs yss →
    ∃ r : List Ed, r.map Prod.fst = zs ∧ Paired (Paired PcT) yss (r.map edT) ∧ ∀ e ∈ r, e.2.1 = f e.1 ∧ Sep e.2.2 ∧ Prs n e.2.1 e.2.2
  | [], [], _, .nil => ⟨[], rfl, .nil, fun e h => by cases h⟩
  | z :: zs, y :: yss, hk, .cons a b => by
    obtain ⟨r, h1, h2, h3⟩ := gather_d (fun x hx => hk x (List.mem_cons_of_mem _ hx)) b
    obtain ⟨y1, ⟨tks, p1, p2, p3, p4⟩, rfl⟩ := a
    refine ⟨(z, f z, tks) :: r, by rw [List.map_cons, h1], .cons (.cons (.word z (hk z List.mem_cons_self)) (.cons (pc_mark 58 (by decide +kernel) (by decide)) p1)) h2, fun e he => ?_⟩
    rcases List.mem_cons.mp he with rfl | he
    · exact ⟨rfl, p2, p4⟩
    · exact h3 e he
theorem paired_imp {α β : Type} {F G : α → β → Prop} : ∀ {xs : List α} {ys : List β}, Paired F xs ys → (∀ a ∈ xs, ∀ b, F a b → G a b) → Paired G xs ys
  | [], [], .nil, _ => .nil
  | _ :: _, _ :: _, .cons a b, h => .cons (h _ List.mem_cons_self _ a) (paired_imp b fun x hx => h x (List.mem_cons_of_mem _ hx))
theorem look_cn {n : Nat} {f : Str → D} : ∀ {zs : List Str} {ds : List D}, ds.map (cn n) = zs.map (fun z => cn n (f z)) → ∀ k ∈ zs, cn n (look zs ds k) = cn n (f k)
  | [], _, _, k, h => by cases h
  | z :: zs, [], e, _, _ => by cases e
  | z :: zs, d :: ds, e, k, h => by
    rw [List.map_cons, List.map_cons] at e
    injection e with e1 e2
    show cn n (if z = k then d else look zs ds k) = _
    by_cases q : z = k
    · rw [if_pos q, e1, q]
    · rw [if_neg q]
      exact look_cn e2 k ((List.mem_cons.mp h).resolve_left fun w => q w.symm)
theorem leaf_goal {n : Nat} {t : D} {y : Str} {tk : Tk} {v : V} (h : PcT y tk) (h1 : isMk 91 tk = false) (h2 : isMk 123 tk = false) (h3 : isMk 93 tk = false) (h4 : isMk 125 tk = false) (hl : leafK tk = some v) (ht : dOf v = t) (hnp : npN (n + 1) t = 1) : Goal (n + 1) t [y] := by
  refine ⟨[tk], .cons h .nil, trivial, ⟨tk, [], rfl, h3, h4⟩, fun ts pos m hat _ hm => ⟨t, ?_, rfl⟩⟩
  have h0 := (AtT.cons hat).1
  rw [hnp] at hm ⊢
  unfold partA
  rw [if_neg (by omega), h0, h1, if_neg Bool.false_ne_true, h2, if_neg Bool.false_ne_true, hl]
  dsimp only
  rw [ht]
  rfl
theorem parse : ∀ (n : Nat) (t : D) (ys : List Str), Gd n t → WrP n t ys → Goal n t ys := by
  intro n
  induction n with
  | zero => intro t ys h; cases t <;> exact h.elim
  | succ n ih =>
    intro t ys hg hw
    cases t with
    | non =>
      have hw : ys = [lfS .non] := hw
      rw [hw]
      exact leaf_goal (v := .non) (.word "null" (by decide +kernel)) rfl rfl rfl rfl (by decide +kernel) rfl rfl
    | bl b =>
      have hw : ys = [lfS (.bl b)] := hw
      rw [hw]
      cases b with
      | true => exact leaf_goal (v := .bl true) (.word "yes" (by decide +kernel)) rfl rfl rfl rfl (by decide +kernel) rfl rfl
      | false => exact leaf_goal (v := .bl false) (.word "no" (by decide +kernel)) rfl rfl rfl rfl (by decide +kernel) rfl rfl
    | int i =>
      have hw : ys = [lfS (.int i)] := hw
      rw [hw]
      exact leaf_goal (v := .int i) (.num i hg) rfl rfl rfl rfl rfl rfl rfl
    | str x =>
      have hw : ys = [lfS (.str x)] := hw
      rw [hw]
      exact leaf_goal (v := .str x) (.str x hg) rfl rfl rfl rfl rfl rfl rfl
    | lst ds =>
      obtain ⟨yss, hp, rfl⟩ := hw
      obtain ⟨r, e1, e2, e3⟩ := gather_l (paired_imp hp fun d hd y h => ih d y (hg d hd) h)
      refine ⟨Tk.mark 91 :: (rowT (r.map Prod.snd) ++ [Tk.mark 93]), .cons (pc_mark 91 (by decide +kernel) (by decide)) (paired_app (pcp_row e2) (.cons (pc_mark 93 (by decide +kernel) (by decide)) .nil)),
        sep_cons rfl (sep_app (sep_row fun z hz => ?_) trivial (fun x l e => by cases e; rfl)), ⟨_, _, rfl, rfl, rfl⟩, fun ts pos m hat hlen hm => ?_⟩
      · obtain ⟨e, he, rfl⟩ := List.mem_map.mp hz
        exact (e3 e he).1
      obtain ⟨h0, h1⟩ := AtT.cons hat
      rw [List.length_cons, List.length_append, List.length_singleton] at hlen
      obtain ⟨l1, l2⟩ := row_len (r := r.map Prod.snd)
      rw [List.length_map] at l1
      have hnp : npN (n + 1) (.lst ds) = 1 + sumE n r := by
        show 1 + (ds.map (npN n)).sum = _
        unfold sumE
        rw [← e1, List.map_map]
        rfl
      rw [hnp] at hm ⊢
      obtain ⟨ds', q1, q2⟩ := loopL_run (n := n) (ts := ts) r (ts.length + 1) (pos + 1) (m + 1) (fun e he => ⟨(e3 e he).2.2, by have := l2 e.2 (List.mem_map_of_mem he); omega⟩) (fun e he => (e3 e he).2.1) h1 (by omega) (by omega)
      refine ⟨.lst ds', ?_, ?_⟩
      · unfold partA
        rw [if_neg (by omega), h0, mk_self, if_pos rfl, q1]
        simp only [List.length_cons, List.length_append, List.length_singleton, List.length_nil]
        congr 1 <;> omega
      · show D.lst (ds'.map (cn n)) = D.lst (ds.map (cn n))
        rw [q2, ← e1, List.map_map]
        rfl
    | dct ks ds =>
      obtain ⟨zs, yss, pm, hp, rfl⟩ := hw
      obtain ⟨hl, hnd, hk, hd⟩ := hg
      have hmem : ∀ z ∈ zs, z ∈ ks := fun z hz => pm.mem_iff.mp hz
      obtain ⟨r, e1, e2, e3⟩ := gather_d (f := fun z => look ks ds z) (fun z hz => hk z (hmem z hz)) (paired_imp hp fun z hz y h => by
        obtain ⟨y1, w1, w2⟩ := h
        exact ⟨y1, ih _ _ (hd _ (look_mem hl (hmem z hz))) w1, w2⟩)
      refine ⟨Tk.mark 123 :: (rowT (r.map edT) ++ [Tk.mark 125]), .cons (pc_mark 123 (by decide +kernel) (by decide)) (paired_app (pcp_row e2) (.cons (pc_mark 125 (by decide +kernel) (by decide)) .nil)),
        sep_cons rfl (sep_app (sep_row fun z hz => ?_) trivial (fun x l e => by cases e; rfl)), ⟨_, _, rfl, rfl, rfl⟩, fun ts pos m hat hlen hm => ?_⟩
      · obtain ⟨e, he, rfl⟩ := List.mem_map.mp hz
        exact ⟨fun _ => rfl, sep_cons rfl (e3 e he).2.1⟩
      obtain ⟨h0, h1⟩ := AtT.cons hat
      rw [List.length_cons, List.length_append, List.length_singleton] at hlen
      obtain ⟨l1, l2⟩ := row_len (r := r.map edT)
      rw [List.length_map] at l1
      have hfst : r.map (fun e => e.2.1) = zs.map fun z => look ks ds z := by
        rw [← e1, List.map_map]
        exact List.map_congr_left fun e he => (e3 e he).1
      have hnp : npN (n + 1) (.dct ks ds) = 1 + sumD n r := by
        show 1 + (ds.map (npN n)).sum = _
        unfold sumD
        rw [← look_sum (npN n) ks ds hl hnd, ← sum_perm _ pm, ← e1, List.map_map]
        exact congrArg (1 + ·) (congrArg List.sum (List.map_congr_left fun e he => by
          show npN n (look ks ds e.1) = npN n e.2.1
          rw [(e3 e he).1]))
      rw [hnp] at hm ⊢
      obtain ⟨ds', q1, q2⟩ := loopD_run (n := n) (ts := ts) r (ts.length + 1) (pos + 1) (m + 1) (by rw [e1]; exact pm.nodup_iff.mpr hnd) (fun e he => ⟨(e3 e he).2.2, by
        have z := l2 (edT e) (List.mem_map_of_mem he)
        have : (edT e).length = e.2.2.length + 2 := rfl
        omega⟩) h1 (by omega) (by omega)
      refine ⟨.dct zs ds', ?_, ?_⟩
      · unfold partA
        rw [if_neg (by omega), h0, if_neg (by decide), mk_self, if_pos rfl, q1, e1]
        simp only [List.length_cons, List.length_append, List.length_singleton, List.length_nil]
        congr 1 <;> omega
      · show D.dct (skeys zs) ((skeys zs).map fun k => cn n (look zs ds' k)) = D.dct (skeys ks) ((skeys ks).map fun k => cn n (look ks ds k))
        rw [skeys_same pm]
        congr 1
        refine List.map_congr_left fun k hk' => look_cn (f := fun z => look ks ds z) ?_ k ?_
        · rw [q2, ← e1, List.map_map]
          exact List.map_congr_left fun e he => by
            show cn n e.2.1 = cn n (look ks ds e.1)
            rw [(e3 e he).1]
        · rw [← skeys_same pm] at hk'
          exact (skeys_perm zs).mem_iff.mp hk'
/-- a datum's pieces, laid in any way, are read as the datum -/
theorem read_laid {t : D} {ys : List Str} {l : List Nat} (hg : Gd 60 t) (hw : WrP 60 t ys) (hn : npN 60 t ≤ 1000) (h : LaidT ys l) : ∃ t' n m, datumA (rowA l) = .ok t' n m ∧ cn 60 t' = cn 60 t := by
  obtain ⟨tks, p1, p2, _, p4⟩ := parse 60 t ys hg hw
  have e := row_laid p1 p2 h
  have hlen : (rowA l).length = tks.length + 1 := by
    have z := congrArg List.length e
    rw [List.length_map, List.length_append, List.length_singleton] at z
    exact z
  have at0 : ∀ j tk, (tks ++ [Tk.fin])[j]? = some tk → tkA (rowA l) j = tk := fun j tk z => by
    rw [← e, List.getElem?_map] at z
    unfold tkA
    cases q : (rowA l)[j]? with
    | none => rw [q] at z; cases z
    | some p => rw [q] at z; exact Option.some.inj z
  have hat : AtT (rowA l) 0 tks := fun j tk z => by
    rw [Nat.zero_add]
    exact at0 j tk (by rw [List.getElem?_append_left (List.getElem?_eq_some_iff.mp z).1]; exact z)
  obtain ⟨t', q1, q2⟩ := p4 (rowA l) 0 0 hat (by omega) (by omega)
  refine ⟨t', 0 + tks.length, 0 + npN 60 t, ?_, q2⟩
  have hf : tkA (rowA l) (0 + tks.length) = .fin := by
    rw [Nat.zero_add]
    exact at0 tks.length .fin (by rw [List.getElem?_append_right (Nat.le_refl _), Nat.sub_self]; rfl)
  rw [datum_ok q1, hf]
  rfl
end Toy


namespace Toy
open PySem PySem.Spec L2 PyProof.Rows PySem.W CwR
/-! ### the program's writer: keys, rows, leaves -/
abbrev sStp : Stmt := top 12
abbrev sLis : Stmt := top 34
abbrev sLfp : Stmt := top 35
theorem scStp : FnScope ["datum"] ["datum"] (defScope sStp) := ⟨rfl, rfl, rfl, by decide +kernel, rfl, by decide +kernel, by decide +kernel⟩
abbrev NLis : List Str := ["rows", "found", "row"]
theorem scLis : FnScope NLis ["rows"] (defScope sLis) := ⟨rfl, rfl, rfl, by decide +kernel, rfl, by decide +kernel, by decide +kernel⟩
theorem scLfp : FnScope ["leaf", "escaped"] ["leaf"] (defScope sLfp) := ⟨rfl, rfl, rfl, by decide +kernel, rfl, by decide +kernel, by decide +kernel⟩
def spStp : Sp := fun vs H Q _ => ∃ (a : Addr) (ks : List Str) (us : List V), vs = [.ref a] ∧ H a = some (.dK (kvOf ks us)) ∧ us.length = ks.length ∧ ks.length ≤ 1000 ∧ ∀ H' p, Same H H' → H p = none → H' p = some (.lst ((skeys ks).map V.str)) → Q (.ref p) H'
def TxL (H : Hp) (p : Addr) (ys : List Str) : Prop := H p = some (.lst (ys.map V.str))
def RowAt (H : Hp) (v : V) (ys : List Str) : Prop := ∃ p, v = .ref p ∧ TxL H p ys
/-- rows joined: as many as a thousand -/
def spLis : Sp := fun vs H Q _ => ∃ (a : Addr) (rs : List V) (yss : List (List Str)), vs = [.ref a] ∧ H a = some (.lst rs) ∧ Paired (RowAt H) rs yss ∧ (∀ ys ∈ yss, ys ≠ []) ∧ (yss.map fun ys => ys.length + 1).sum ≤ 1000000 ∧
  ∀ H' r, Same H H' → H r = none → TxL H' r (rowS yss) → Q (.ref r) H'
theorem rowS_len : ∀ yss : List (List Str), (rowS yss).length ≤ (yss.map fun ys => ys.length + 1).sum
  | [] => Nat.le_refl _
  | y :: r => by
    have h : ∀ r : List (List Str), (r.flatMap fun z => (";" : Str) :: z).length ≤ (r.map fun ys => ys.length + 1).sum := by
      intro r
      induction r with
      | nil => exact Nat.le_refl _
      | cons z r ih =>
        rw [List.flatMap_cons, List.length_append, List.map_cons, List.sum_cons, List.length_cons]
        omega
    have := h r
    show (y ++ r.flatMap _).length ≤ _
    rw [List.length_append, List.map_cons, List.sum_cons]
    omega
theorem take_sum {f : List Str → Nat} (l : List (List Str)) (i : Nat) : ((l.take i).map f).sum ≤ (l.map f).sum := by
  have e : (l.map f).sum = ((l.take i).map f).sum + ((l.drop i).map f).sum := by
    rw [← List.sum_append, ← List.map_append, List.take_append_drop]
  omega
theorem few2 {n : Nat} (h : n ≤ 1000001) : n ≤ sizeLine := Nat.le_trans h (by decide)
section
variable {P : Program} {w : World} {K : PySem.W.Frag} {mg : Str → Option Value} {base : Heap}
theorem ok_stp {f : Addr} {fd : FuncData} (F : Fun K "steps_into" "steps_into" sStp f fd) (mI : mg "isinstance" = none) (mL : mg "list" = none) (mD : mg "dict" = none) (mR : mg "range" = none) (mLen : mg "len" = none) (mS : mg "sorted" = none) : FnOk P w K mg base CX0 1 f fd ["datum"] spStp := by
  refine F.ok scStp (fun vs H Q E h => ?_) (fun cdv A outer s H vs Q E hr h => ?_)
  · obtain ⟨a, ks, us, rfl, _⟩ := h
    rfl
  · obtain ⟨a, ks, us, rfl, ha, hlu, hk, q⟩ := h
    refine ⟨_, pss_cons (ps_if (pt_val (pe_callB call_isi (by rfl) mI PyProof.Rows.boot_isinstance (pa_cons (pv 0) (pa_cons (pe_bltn (v := .ty "list") (by rfl) mL (by decide +kernel) rfl) pa_nil))))
        (pss_one (ps_ret (pe_listRg (by rfl) (by rfl) mL (prg_1 (by rfl) mR (pe_callB call_len_seq (by rfl) mLen PySem.boot_len (pa_cons (pv 0) pa_nil)))))) pss_nil)
      (pss_one (ps_ret (pe_ifExp (pt_val (pe_callB call_isi (by rfl) mI PyProof.Rows.boot_isinstance (pa_cons (pv 0) (pa_cons (pe_bltn (v := .ty "dict") (by rfl) mD (by decide +kernel) rfl) pa_nil)))) (pe_callB (call_sortedT rfl) (by rfl) mS (by decide +kernel) (pa_cons (pv 0) pa_nil)) (pe_lst pa_nil)))), ?_⟩
    refine ⟨_, rfl, _, _, _, _, false, rfl, .ty _, .base (.dK ha), kit_ty (by decide +kernel), _, rfl, iteF (nx_run ?_)⟩
    dsimp only
    refine ret_run ?_
    refine ⟨_, rfl, _, _, _, _, true, rfl, .ty _, .base (.dK ha), kit_ty (by decide +kernel), _, rfl, iteT ?_⟩
    refine ⟨_, rfl, a, kvOf ks us, ks, rfl, .inl ha, kv_keys hlu, by have e16 : sizeLine = 16777216 := (by decide); omega, fun ys p pm ss np => ?_⟩
    have eys := skeys_uniq pm ss
    subst eys
    exact q _ p (same_new same_id np) np upd_same
theorem ok_lis {f : Addr} {fd : FuncData} (F : Fun K "_listed" "_listed" sLis f fd) : FnOk P w K mg base CX0 1 f fd ["rows"] spLis := by
  refine F.ok scLis (fun vs H Q E h => ?_) (fun cdv A outer s H vs Q E hr h => ?_)
  · obtain ⟨a, rs, yss, rfl, _⟩ := h
    rfl
  · obtain ⟨a, rs, yss, rfl, ha, hp, hne, hsum, q⟩ := h
    refine ⟨_, pss_cons (ps_set (i := 1) scLis.nd rfl (Or.inl rfl) (pe_lst pa_nil))
      (pss_cons (ps_for PassesOwn.never rfl (pi_list (pv 0)) (pg_name (i := 2) scLis.nd rfl (Or.inl rfl))
        (pss_one (ps_expr (pe_bm PySem.F.plainAttrs_list PySem.F.slot_list_extend PySem.F.type_list_extend mt_extend (pv 1) (pa_cons (pe_ifExp (pt_truth (pv 1) (by intro _; rfl)) (pe_lst (pa_cons pe_str (StX.pa_star (pv 2) pa_nil))) (pv 2)) pa_nil)))))
      (pss_one (ps_ret (pv 1)))), ?_⟩
    refine asg_run (g := gName 1) ?_
    refine ⟨few (by show 0 ≤ 1000; decide), fun L nL => ?_⟩
    have naL : a ≠ L := ne_of_none ha nL
    have e16 : sizeLine = 16777216 := by decide
    have s0 : Same H (upd H L (.lst [])) := same_new same_id nL
    refine ⟨_, rfl, a, rfl, ⟨_, SqL.of (s0 _ _ ha)⟩, ?_⟩
    refine for_list (K := K) (a := a) (xs := rs) (fun i σ H' => ∃ o : Option V, σ = [some (.ref a), some (.ref L), o] ∧ Same H H' ∧ H' L = some (.lst ((rowS (yss.take i)).map V.str)))
      ⟨none, rfl, s0, upd_same⟩ ?_ ?_ ?_
    · rintro i σ H' _ ⟨_, _, s, _⟩
      exact SqL.of (s _ _ ha)
    · rintro i x σ H' hx ⟨o, rfl, s1, hL⟩
      obtain ⟨ys, hy, p, rfl, hpp⟩ := paired_get hp hx
      have hi := (List.getElem?_eq_some_iff.mp hy).1
      have hmem := List.mem_of_getElem? hy
      have etk : yss.take (i + 1) = yss.take i ++ [ys] := by
        rw [List.take_add_one, hy]
        rfl
      have hz1 : (rowS (yss.take i)).length + ys.length + 1 ≤ 1000000 := by
        have h1 := rowS_len (yss.take i)
        have h2 := take_sum (f := fun ys => ys.length + 1) yss (i + 1)
        rw [etk, List.map_append, List.sum_append] at h2
        simp only [List.map_cons, List.map_nil, List.sum_cons, List.sum_nil] at h2
        omega
      have hpp1 := s1 _ _ hpp
      have npL : p ≠ L := ne_of_none hpp nL
      by_cases h0 : i = 0
      · subst h0
        have hL0 : H' L = some (.lst []) := hL
        dsimp only [gName]
        refine ⟨_, rfl, .inl ⟨rfl, _, SqL.of hL0⟩, _, rfl, false, .inl ⟨_, SqL.of hL0, rfl⟩, iteF ⟨_, rfl, L, p, [], ys.map V.str, rfl, rfl, hL0, hpp1, ?_, ?_⟩⟩
        · rw [List.length_map]
          show 0 + ys.length ≤ _
          omega
        · refine ⟨_, rfl, fun b o e => ?_, ?_⟩
          · have nb : b ≠ L := ne_of_none e nL
            rw [upd_ne nb]
            exact s1 _ _ e
          · rw [upd_same, etk]
            show some (HO.lst ([] ++ ys.map V.str)) = some (HO.lst ((rowS [ys]).map V.str))
            rw [rowS_one]
            rfl
      · have hne2 : yss.take i ≠ [] := fun z => by
          have := congrArg List.length z
          rw [List.length_take, List.length_nil] at this
          omega
        have hrow : (rowS (yss.take i)).map V.str ≠ [] := fun z => by
          have z2 := List.map_eq_nil_iff.mp z
          cases hc : yss.take i with
          | nil => exact hne2 hc
          | cons y r =>
            rw [hc] at z2
            have : y = [] := (List.append_eq_nil_iff.mp z2).1
            exact hne y (List.mem_of_mem_take (by rw [hc]; exact List.mem_cons_self)) this
        dsimp only [gName]
        refine ⟨_, rfl, .inl ⟨rfl, _, SqL.of hL⟩, _, rfl, true, ?_, iteT ?_⟩
        · exact .inl ⟨_, SqL.of hL, by cases hc : (rowS (yss.take i)).map V.str with | nil => exact absurd hc hrow | cons => rfl⟩
        · refine ⟨_, rfl, p, ys.map V.str, rfl, .inr (SqL.of hpp1), ?_⟩
          refine ⟨few2 ?_, fun p2 n2 => ?_⟩
          · rw [List.append_nil, List.length_cons, List.length_map]
            omega
          have s2 := same_new (u := .lst (V.str ";" :: (ys.map V.str ++ []))) (same_id (H := H')) n2
          have n2L : L ≠ p2 := ne_of_none hL n2
          refine ⟨L, p2, (rowS (yss.take i)).map V.str, V.str ";" :: (ys.map V.str ++ []), rfl, rfl, (upd_ne n2L).trans hL, upd_same, ?_, ?_⟩
          · rw [List.append_nil, List.length_cons, List.length_map, List.length_map]
            omega
          · refine ⟨_, rfl, fun b o e => ?_, ?_⟩
            · have nb : b ≠ L := ne_of_none e nL
              rw [upd_ne nb]
              exact s2 _ _ (s1 _ _ e)
            · rw [upd_same, etk, rowS_snoc hne2, List.append_nil, List.map_append, List.map_cons]
    · rintro σ H' ⟨o, rfl, s1, hL⟩
      rw [List.take_of_length_le (by rw [paired_len hp]; exact Nat.le_refl _)] at hL
      dsimp only
      refine ret_run ?_
      exact ⟨_, rfl, q H' L s1 nL hL⟩
end
end Toy


namespace Toy
open PySem PySem.Spec L2 PyProof.Rows PySem.W CwR TK PySem.StrLaws
/-! ### the program's writer: a leaf -/
theorem pst_set {X : Cx} {i : Nat} {x : Str} {e : Expr} {te : TE} {pos pos' : Pos} (hN : X.N.Nodup) (hi : X.N[i]? = some x) (hx : Loc X.env.scope x) (he : PET X e te) (hs : swapsWith e (some (.Name x pos')) pos.line X.env = pure false := by rfl) (hf : X.fn x = true ∨ X.env.scope.names.lookup x = some .local := by first | exact .inl rfl | exact .inr rfl | assumption) :
    PST X (.Assign [.Name x pos'] e pos) (tAsg te (gName i)) := by
  intro pins s σ H D h0 I h
  exact wpAny_Assign_Name (thn (he pins s σ H _ h0 I h) fun v s1 ⟨y, H1, I1, r1, q1⟩ => store_ok I1 hN hi hx r1 (fun s2 I2 => ⟨_, H1, I2, q1⟩) hf) hs
theorem replL_esc1 : ∀ l : List Nat, replL [92] [92, 92] l = l.flatMap fun c => if c = 92 then [92, 92] else [c]
  | [] => replL_nil
  | c :: r => by
    rw [List.flatMap_cons, ← replL_esc1 r]
    by_cases h : c = 92
    · rw [replL_hit (by decide) (by rw [h]; rfl), if_pos h]
      rfl
    · rw [replL_miss (y := [92]) (z := [92, 92]) (fun w => h (by have w2 : [c] = [92] := w; exact (List.cons.inj w2).1)), if_neg h]
      rfl
theorem replL_esc2 : ∀ l : List Nat, replL [34] [92, 34] l = l.flatMap fun c => if c = 34 then [92, 34] else [c]
  | [] => replL_nil
  | c :: r => by
    rw [List.flatMap_cons, ← replL_esc2 r]
    by_cases h : c = 34
    · rw [replL_hit (by decide) (by rw [h]; rfl), if_pos h]
      rfl
    · rw [replL_miss (y := [34]) (z := [92, 34]) (fun w => h (by have w2 : [c] = [34] := w; exact (List.cons.inj w2).1)), if_neg h]
      rfl
theorem esc_two (l : List Nat) : replL [34] [92, 34] (replL [92] [92, 92] l) = escL l := by
  rw [replL_esc1, replL_esc2, List.flatMap_assoc]
  unfold escL
  congr 1
  funext c
  unfold escC
  by_cases h : c = 92
  · subst h
    rfl
  · rw [if_neg h]
    by_cases h2 : c = 34
    · subst h2
      rfl
    · rw [if_neg (by rintro (z | z); exact h2 z; exact h z)]
      simp [h2]
theorem esc_text (x : Str) : ("\"" ++ Txt.replace (Txt.replace x "\\" "\\\\") "\"" "\\\"") ++ "\"" = escS x := by
  refine str_ext ?_
  have e1 := replace_list (x := x) (y := ("\\" : Str)) (z := ("\\\\" : Str)) (by decide)
  have e2 := replace_list (x := Txt.replace x "\\" "\\\\") (y := ("\"" : Str)) (z := ("\\\"" : Str)) (by decide)
  rw [e1] at e2
  have el : ∀ a b : Str, (a ++ b).cps.toList = a.cps.toList ++ b.cps.toList := fun a b => Array.toList_append
  rw [el, el, e2, escS_list]
  rw [show replL ("\"" : Str).cps.toList ("\\\"" : Str).cps.toList (replL ("\\" : Str).cps.toList ("\\\\" : Str).cps.toList x.cps.toList) = escL x.cps.toList from esc_two x.cps.toList]
  rfl
theorem log_small2 {i : Int} (h : i.natAbs ≤ 10 ^ 30) : i.natAbs.log2 < 1920 := Nat.lt_trans (log_small h) (by decide)
/-- a leaf, as the value it is -/
def LfOf : D → V → Prop
  | .non, v => v = .non
  | .bl b, v => v = .bl b
  | .int i, v => v = .int i ∧ i.natAbs ≤ 10 ^ 30
  | .str x, v => v = .str x ∧ x.length ≤ 1000
  | _, _ => False
def spLfp : Sp := fun vs H Q _ => ∃ (v : V) (t : D), vs = [v] ∧ LfOf t v ∧ Q (.str (lfS t)) H
section
variable {P : Program} {w : World} {K : PySem.W.Frag} {mg : Str → Option Value} {base : Heap}
theorem Fun.okT {x qual : Str} {st : Stmt} {f : Addr} {fd : FuncData} {N ps : List Str} {k : Nat} {sp : Sp} (F : L2.Fun K x qual st f fd) (S : FnScope N ps (defScope st)) (hnc : ∀ y ∈ (defScope st).names, y.2 ≠ .cell) (hps : 1 ≤ ps.length) (len : ∀ vs H Q E, sp vs H Q E → vs.length = ps.length)
    (hbody : ∀ (cdv : Value) (A : Around) (outer : List Env) (s : Shared) (H : Hp) (vs : List V) (Q : VK) (E : XK), Room k (A.deeper (envOfC qual (defScope st) s.heap.objs.size f cdv)) → sp vs H Q E →
      ∃ t, PSsT (cxOf CX0 P w K mg base N qual (defScope st) f cdv A outer s H E) (defBody st) t ∧ t { nx := fun _ H' => Q .non H', rt := Q } (start N vs) H) : FnOk P w K mg base CX0 (k + 1) f fd ps sp := by
  obtain ⟨oc, od, kV, doc, pm, an, cdv, ct, osl, rfl, lk, hcd⟩ := F.ex
  exact fn_ofT lk hcd S hnc hps len fun A outer s H vs Q E hr hsp => hbody cdv A outer s H vs Q E hr hsp
theorem ok_lfp {f : Addr} {fd : FuncData} (F : L2.Fun K "leaf_piece" "leaf_piece" sLfp f fd) (mI : mg "isinstance" = none) (mB : mg "bool" = none) (mS : mg "str" = none) : FnOk P w K mg base CX0 1 f fd ["leaf"] spLfp := by
  refine Fun.okT F scLfp (by decide +kernel) (by decide) (fun vs H Q E h => ?_) (fun cdv A outer s H vs Q E hr h => ?_)
  · obtain ⟨v, t, rfl, _⟩ := h
    rfl
  · obtain ⟨v, t, rfl, ht, q⟩ := h
    refine ⟨_, psst_cons (pst_if (pt_val (pe_callB call_isi (by rfl) mI PyProof.Rows.boot_isinstance (pa_cons (pv 0) (pa_cons (pe_bltn (v := .ty "str") (by rfl) mS (by decide +kernel) rfl) pa_nil))))
        (psst_cons (pst_set (i := 1) scLfp.nd rfl (Or.inl rfl) (pet_replT (pet_replC (pv 0)))) (psst_one (PST.of (ps_ret (pe_op op_add_str (pe_op op_add_str pe_str (pv 1)) pe_str))))) psst_nil)
      (PSsT.of (pss_cons (ps_if (pt_cmpR op_isN (pv 0) pe_non (nomark _)) (pss_one (ps_ret pe_str)) pss_nil)
      (pss_cons (ps_if (pt_val (pe_callB call_isi (by rfl) mI PyProof.Rows.boot_isinstance (pa_cons (pv 0) (pa_cons (pe_bltn (v := .ty "bool") (by rfl) mB (by decide +kernel) rfl) pa_nil)))) (pss_one (ps_ret (pe_ifExp (pt_val (pv 0)) pe_str pe_str))) pss_nil)
      (pss_one (ps_ret (pe_callTy call_str_int (by rfl) mS (by decide +kernel) (pa_cons (pv 0) pa_nil))))))), ?_⟩
    cases t with
    | lst _ => exact ht.elim
    | dct _ _ => exact ht.elim
    | non =>
      have hv : v = .non := ht
      subst hv
      refine ⟨_, rfl, _, _, _, _, false, rfl, .ty _, .base .non, kit_ty (by decide +kernel), _, rfl, iteF ?_⟩
      dsimp only [tNext]
      exact ⟨_, rfl, rfl, _, rfl, iteT q⟩
    | bl b =>
      have hv : v = .bl b := ht
      subst hv
      refine ⟨_, rfl, _, _, _, _, false, rfl, .ty _, .base (.bl b), kit_ty (by decide +kernel), _, rfl, iteF ?_⟩
      dsimp only [tNext]
      refine ⟨_, rfl, rfl, _, rfl, iteF ?_⟩
      dsimp only [tNext]
      refine ⟨_, rfl, _, _, _, _, true, rfl, .ty _, .base (.bl b), kit_ty (by decide +kernel), _, rfl, iteT ?_⟩
      cases b with
      | true => exact ⟨_, rfl, _, rfl, iteT q⟩
      | false => exact ⟨_, rfl, _, rfl, iteF q⟩
    | int i =>
      obtain ⟨hv, hi⟩ : v = .int i ∧ i.natAbs ≤ 10 ^ 30 := ht
      subst hv
      refine ⟨_, rfl, _, _, _, _, false, rfl, .ty _, .base (.int i), kit_ty (by decide +kernel), _, rfl, iteF ?_⟩
      dsimp only [tNext]
      refine ⟨_, rfl, rfl, _, rfl, iteF ?_⟩
      dsimp only [tNext]
      refine ⟨_, rfl, _, _, _, _, false, rfl, .ty _, .base (.int i), kit_ty (by decide +kernel), _, rfl, iteF ?_⟩
      dsimp only [tNext]
      exact ⟨_, rfl, i, rfl, log_small2 hi, q⟩
    | str x =>
      obtain ⟨hv, hx⟩ : v = .str x ∧ x.length ≤ 1000 := ht
      subst hv
      refine ⟨_, rfl, _, _, _, _, true, rfl, .ty _, .base (.str x), kit_ty (by decide +kernel), _, rfl, iteT ?_⟩
      have l1 := TK.replace_len x "\\" "\\\\"
      have l2 := TK.replace_len (Txt.replace x "\\" "\\\\") "\"" "\\\""
      have z1 : ("\\\\" : Str).length = 2 := rfl
      have z2 : ("\\\"" : Str).length = 2 := rfl
      have z3 : ("\"" : Str).length = 1 := rfl
      have e16 : sizeLine = 16777216 := by decide
      rw [z1] at l1
      rw [z2] at l2
      refine ⟨_, rfl, x, rfl, by rw [z1]; omega, _, rfl, by rw [z2]; omega, ?_⟩
      dsimp only [gName]
      refine ret_run ?_
      refine ⟨_, rfl, _, _, rfl, rfl, ?_, _, _, rfl, rfl, ?_, ?_⟩
      · rw [z3]; omega
      · rw [len_app, z3]; omega
      rw [esc_text]
      exact q
end
end Toy


namespace Toy
open PySem PySem.Spec L2 PyProof.Rows PySem.W
/-! ### sizes of what is written -/
def StL (c : Nat) : Nat → D → Prop
  | _, .str x => x.length ≤ c
  | n + 1, .lst ds => ∀ d ∈ ds, StL c n d
  | n + 1, .dct _ ds => ∀ d ∈ ds, StL c n d
  | _, _ => True
def Short (B : Nat) (ys : List Str) : Prop := ∀ y ∈ ys, y.length ≤ B
theorem Short.app {B : Nat} {a b : List Str} (ha : Short B a) (hb : Short B b) : Short B (a ++ b) := fun y hy => (List.mem_append.mp hy).elim (ha y) (hb y)
theorem Short.cons {B : Nat} {a : Str} {b : List Str} (ha : a.length ≤ B) (hb : Short B b) : Short B (a :: b) := fun y hy => (List.mem_cons.mp hy).elim (fun e => by rw [e]; exact ha) (hb y)
theorem short_row {B : Nat} (hB : 1 ≤ B) {yss : List (List Str)} (h : ∀ ys ∈ yss, Short B ys) : Short B (rowS yss) := by
  cases yss with
  | nil => exact fun y hy => (by cases hy)
  | cons x r =>
    refine (h x List.mem_cons_self).app fun y hy => ?_
    obtain ⟨z, hz, hy⟩ := List.mem_flatMap.mp hy
    rcases List.mem_cons.mp hy with rfl | hy
    · exact hB
    · exact h z (List.mem_cons_of_mem _ hz) y hy
theorem paired_sum {α : Type} {F : α → List Str → Prop} {g : α → Nat} : ∀ {l : List α} {yss : List (List Str)}, Paired F l yss → (∀ a ∈ l, ∀ ys, F a ys → ys.length + 1 ≤ g a) → (yss.map fun ys => ys.length + 1).sum ≤ (l.map g).sum
  | [], [], .nil, _ => Nat.le_refl _
  | a :: l, y :: yss, .cons h r, k => by
    have ih := paired_sum r fun b hb => k b (List.mem_cons_of_mem _ hb)
    have := k a List.mem_cons_self y h
    rw [List.map_cons, List.sum_cons, List.map_cons, List.sum_cons]
    omega
theorem paired_all {α β : Type} {F : α → β → Prop} {G : β → Prop} : ∀ {l : List α} {ys : List β}, Paired F l ys → (∀ a ∈ l, ∀ y, F a y → G y) → ∀ y ∈ ys, G y
  | [], [], .nil, _, y, h => by cases h
  | a :: l, y :: ys, .cons h r, k, z, hz => by
    rcases List.mem_cons.mp hz with rfl | hz
    · exact k a List.mem_cons_self _ h
    · exact paired_all r (fun b hb => k b (List.mem_cons_of_mem _ hb)) z hz
theorem sum_five (f : D → Nat) : ∀ l : List D, (l.map fun d => 5 * f d).sum = 5 * (l.map f).sum
  | [] => rfl
  | d :: l => by
    rw [List.map_cons, List.sum_cons, List.map_cons, List.sum_cons, sum_five f l]
    omega
theorem wrp_size {c : Nat} : ∀ (n : Nat) (t : D) (ys : List Str), Gd n t → StL c n t → WrP n t ys → ys.length + 3 ≤ 5 * npN n t ∧ ys ≠ [] ∧ Short (2 * c + 34) ys := by
  have one : ∀ (n : Nat) (t : D) (y : Str), npN n t = 1 → y.length ≤ 2 * c + 34 → [y].length + 3 ≤ 5 * npN n t ∧ [y] ≠ [] ∧ Short (2 * c + 34) [y] := fun n t y e h => by
    rw [e]
    exact ⟨by show 1 + 3 ≤ 5 * 1; decide, by simp, Short.cons h fun y hy => (by cases hy)⟩
  intro n
  induction n with
  | zero => intro t ys h; cases t <;> exact h.elim
  | succ n ih =>
    intro t ys hg hst hw
    cases t with
    | non =>
      have hw : ys = [lfS .non] := hw
      rw [hw]
      exact one _ _ _ rfl (by show 4 ≤ _; omega)
    | bl b =>
      have hw : ys = [lfS (.bl b)] := hw
      rw [hw]
      exact one _ _ _ rfl (by cases b <;> (show _ ≤ _; first | (show 3 ≤ _; omega) | (show 2 ≤ _; omega)))
    | int i =>
      have hw : ys = [lfS (.int i)] := hw
      rw [hw]
      have h := numL_len hg
      rw [← numS_list, tl_len] at h
      exact one _ _ _ rfl (by show (numS i).length ≤ _; omega)
    | str x =>
      have hw : ys = [lfS (.str x)] := hw
      rw [hw]
      have h := escS_len x
      have hx : x.length ≤ c := hst
      exact one _ _ _ rfl (by show (escS x).length ≤ _; omega)
    | lst ds =>
      obtain ⟨yss, hp, rfl⟩ := hw
      have h1 := paired_sum (g := fun d => 5 * npN n d) hp fun d hd ys hy => by have := (ih d ys (hg d hd) (hst d hd) hy).1; omega
      rw [sum_five] at h1
      have h2 := rowS_len yss
      have e : npN (n + 1) (.lst ds) = 1 + (ds.map (npN n)).sum := rfl
      refine ⟨?_, by simp, Short.cons (by show 1 ≤ _; omega) (Short.app (short_row (by omega) (paired_all hp fun d hd y hy => (ih d y (hg d hd) (hst d hd) hy).2.2)) (Short.cons (by show 1 ≤ _; omega) fun y hy => (by cases hy)))⟩
      rw [e, List.length_cons, List.length_append, List.length_singleton]
      omega
    | dct ks ds =>
      obtain ⟨zs, yss, pm, hp, rfl⟩ := hw
      obtain ⟨hl, hnd, hk, hd⟩ := hg
      have hmem : ∀ z ∈ zs, z ∈ ks := fun z hz => pm.mem_iff.mp hz
      have key : ∀ z ∈ zs, ∀ ys, (∃ y1, WrP n (look ks ds z) y1 ∧ ys = z :: ((":" : Str) :: y1)) → ys.length + 1 ≤ 5 * npN n (look ks ds z) ∧ Short (2 * c + 34) ys := fun z hz ys ⟨y1, w1, w2⟩ => by
        obtain ⟨a1, _, a3⟩ := ih _ _ (hd _ (look_mem hl (hmem z hz))) (hst _ (look_mem hl (hmem z hz))) w1
        have hkz := hk z (hmem z hz)
        unfold isKey at hkz
        rw [Bool.and_eq_true, decide_eq_true_eq] at hkz
        rw [w2]
        exact ⟨by rw [List.length_cons, List.length_cons]; omega, Short.cons (by omega) (Short.cons (by show 1 ≤ _; omega) a3)⟩
      have h1 := paired_sum (g := fun z => 5 * npN n (look ks ds z)) hp fun z hz ys hy => (key z hz ys hy).1
      have h3 : (zs.map fun z => 5 * npN n (look ks ds z)).sum = 5 * (ds.map (npN n)).sum := by
        rw [sum_perm _ pm, look_sum (fun d => 5 * npN n d) ks ds hl hnd, sum_five]
      rw [h3] at h1
      have h2 := rowS_len yss
      have e : npN (n + 1) (.dct ks ds) = 1 + (ds.map (npN n)).sum := rfl
      refine ⟨?_, by simp, Short.cons (by show 1 ≤ _; omega) (Short.app (short_row (by omega) (paired_all hp fun z hz y hy => (key z hz y hy).2)) (Short.cons (by show 1 ≤ _; omega) fun y hy => (by cases hy)))⟩
      rw [e, List.length_cons, List.length_append, List.length_singleton]
      omega
theorem wr_size {c n : Nat} {t : D} (hg : Gd n t) (hs : StL c n t) : (wrN n t).length + 3 ≤ 5 * npN n t ∧ wrN n t ≠ [] ∧ Short (2 * c + 34) (wrN n t) := wrp_size n t _ hg hs (wr_wrP n t)
theorem gd_stl : ∀ (n : Nat) (t : D), Gd n t → StL 200 n t := by
  intro n
  induction n with
  | zero => intro t h; cases t <;> exact h.elim
  | succ n ih =>
    intro t h
    cases t with
    | non => trivial
    | bl b => trivial
    | int i => trivial
    | str x => exact (leafT_pr h).1
    | lst ds => exact fun d hd => ih d (h d hd)
    | dct ks ds => exact fun d hd => ih d (h.2.2.2 d hd)
theorem np_mem {n : Nat} {ds : List D} {d : D} (h : d ∈ ds) : npN n d + 1 ≤ 1 + (ds.map (npN n)).sum := by
  have := mem_sum (f := npN n) h
  omega
theorem np_pos (n : Nat) (t : D) : 1 ≤ npN n t := by
  cases n <;> cases t <;> simp [npN]
theorem len_np {n : Nat} : ∀ ds : List D, ds.length ≤ (ds.map (npN n)).sum
  | [] => Nat.le_refl _
  | d :: ds => by
    have := len_np (n := n) ds
    have := np_pos n d
    rw [List.length_cons, List.map_cons, List.sum_cons]
    omega
theorem lfv_of {n : Nat} {H : Hp} {v : V} {t : D} (hv : Dv n H v t) (hg : Gd n t) (n1 : ∀ ds, t ≠ .lst ds) (n2 : ∀ ks ds, t ≠ .dct ks ds) : LfOf t v := by
  cases n with
  | zero => cases t <;> exact hg.elim
  | succ n =>
    cases t with
    | lst ds => exact absurd rfl (n1 ds)
    | dct ks ds => exact absurd rfl (n2 ks ds)
    | non => exact (by simpa [Dv] using hv : v = .non)
    | bl b => exact (by simpa [Dv] using hv : v = .bl b)
    | int i => exact ⟨(by simpa [Dv] using hv : v = .int i), hg⟩
    | str x =>
      have h := (leafT_pr (show leafT x = true from hg)).1
      exact ⟨(by simpa [Dv] using hv : v = .str x), by omega⟩
end Toy


namespace Toy
open PySem PySem.Spec L2 PyProof.Rows PySem.W
/-! ### the program's writer: data -/
abbrev sPd : Stmt := top 36
abbrev sWd : Stmt := top 38
abbrev NPd : List Str := ["datum", "part", "key"]
theorem scPd : FnScope NPd ["datum"] (defScope sPd) := ⟨rfl, rfl, rfl, by decide +kernel, rfl, by decide +kernel, by decide +kernel⟩
theorem scWd : FnScope ["datum"] ["datum"] (defScope sWd) := ⟨rfl, rfl, rfl, by decide +kernel, rfl, by decide +kernel, by decide +kernel⟩
/-- a datum and what it holds -/
def It (k : Nat) (H : Hp) (v : V) (t : D) : Prop := Dv k H v t ∧ Gd k t ∧ npN k t ≤ 1000
theorem It.up {k : Nat} {H H' : Hp} {v : V} {t : D} (h : It k H v t) (s : ∀ b o, H b = some o → H' b = some o) : It k H' v t := ⟨h.1.mono (fun b o _ e => s b o e) (Nat.le_refl _), h.2⟩
def spPd (j : Nat) : Sp := fun vs H Q _ => ∃ (v : V) (t : D) (k : Nat), vs = [v] ∧ k ≤ j ∧ It k H v t ∧ ∀ H' r, Same H H' → H r = none → TxL H' r (wrN k t) → Q (.ref r) H'
def spWd : Sp := fun vs H Q _ => ∃ (v : V) (t : D), vs = [v] ∧ It 60 H v t ∧ ((wrN 60 t).map (·.length)).sum ≤ 10000000 ∧ ∀ H', Same H H' → Q (.str (Txt.join " " (wrN 60 t))) H'
/-- rows beside the list D of them -/
def RowD (D : Addr) (H : Hp) (v : V) (ys : List Str) : Prop := ∃ p, v = .ref p ∧ p ≠ D ∧ TxL H p ys
theorem rowD_up {D : Addr} {H3 H4 : Hp} {u : HO} {rs : List V} {yss : List (List Str)} (hp : Paired (RowD D H3) rs yss) (b : Same H3 H4) : Paired (RowD D (upd H4 D u)) rs yss := L2.Paired.mapP hp fun v ys h => by
  obtain ⟨p, e, h1, h2⟩ := h
  exact ⟨p, e, h1, (upd_ne h1).trans (b _ _ h2)⟩
theorem paired_take {α β : Type} {F : α → β → Prop} {f : α → β} {l : List α} {i : Nat} {x : α} {rs : List V} {G : V → β → Prop} (hx : l[i]? = some x) (h : Paired G rs ((l.take i).map f)) {r : V} (hr : G r (f x)) : Paired G (rs ++ [r]) ((l.take (i + 1)).map f) := by
  rw [List.take_add_one, hx, List.map_append]
  exact paired_app h (.cons hr .nil)
section
variable {P : Program} {w : World} {K : PySem.W.Frag} {mg : Str → Option Value} {base : Heap}
theorem ok_pdS {f fL fS fP : Addr} {fd dL dS dP : FuncData} {j : Nat} {sp : Sp} (F : L2.Fun K "datum_pieces" "datum_pieces" sPd f fd)
    (GL : FnOk P w K mg base CX0 1 fL dL ["rows"] spLis) (mLis : mg "_listed" = some (.ref fL)) (kL : PySem.W.keepIn K (.ref fL) = true) (bL : Binds K dL ["rows"] [])
    (GS : FnOk P w K mg base CX0 1 fS dS ["datum"] spStp) (mS : mg "steps_into" = some (.ref fS)) (kS : PySem.W.keepIn K (.ref fS) = true) (bS : Binds K dS ["datum"] [])
    (GP : FnOk P w K mg base CX0 1 fP dP ["leaf"] spLfp) (mP : mg "leaf_piece" = some (.ref fP)) (kP : PySem.W.keepIn K (.ref fP) = true) (bP : Binds K dP ["leaf"] [])
    (GR : FnOk P w K mg base CX0 (1 + j) f fd ["datum"] sp) (hsp : ∀ i, j = i + 1 → sp = spPd i) (mF : mg "datum_pieces" = some (.ref f)) (kF : PySem.W.keepIn K (.ref f) = true) (bF : Binds K fd ["datum"] [])
    (mI : mg "isinstance" = none) (mL : mg "list" = none) (mD : mg "dict" = none) : FnOk P w K mg base CX0 (2 + j) f fd ["datum"] (spPd j) := by
  rw [show 2 + j = (1 + j) + 1 by omega]
  refine F.ok (k := 1 + j) scPd (fun vs H Q E h => ?_) (fun cdv A outer s H vs Q E hr h => ?_)
  · obtain ⟨v, t, k, rfl, _⟩ := h
    rfl
  · obtain ⟨v, t, k, rfl, hk, ⟨hv, hg, hn⟩, q⟩ := h
    have hu := hu_of hr
    have hr1 := hr.mono (show 1 ≤ 1 + j by omega)
    refine ⟨_, pss_cons (ps_if (pt_val (pe_callB call_isi (by rfl) mI PyProof.Rows.boot_isinstance (pa_cons (pv 0) (pa_cons (pe_bltn (v := .ty "list") (by rfl) mL (by decide +kernel) rfl) pa_nil))))
        (pss_one (ps_ret (pe_lst (pa_cons pe_str (StX.pa_star (pe_call GL hr1 (by rfl) mLis kL bL .nil pass0 (pa_cons (pe_lc (own := [("part", 1)]) (g := gName 1) (by rfl) scPd.nd (pi_list (pv 0))
          (blkOk_by (own := [("part", 1)]) (N := NPd) (sc := defScope sPd) (by decide +kernel)) (fun _ _ _ _ _ => pg_name (i := 1) scPd.nd rfl (Or.inl rfl)) (fun _ _ _ _ _ => pts_nil)
          (fun _ _ _ _ _ => pe_call GR hr (by rfl) mF kF bF .nil pass0 (pa_cons (pv 1) pa_nil))) pa_nil)) (pa_cons pe_str pa_nil)))))) pss_nil)
      (pss_cons (ps_if (pt_val (pe_callB call_isi (by rfl) mI PyProof.Rows.boot_isinstance (pa_cons (pv 0) (pa_cons (pe_bltn (v := .ty "dict") (by rfl) mD (by decide +kernel) rfl) pa_nil))))
        (pss_one (ps_ret (pe_lst (pa_cons pe_str (StX.pa_star (pe_call GL hr1 (by rfl) mLis kL bL .nil pass0 (pa_cons (pe_lc (own := [("key", 2)]) (g := gName 2) (te := tLst (tCons (tVar 2) (tCons (tC (V.str ":")) (StX.tStar K (tCall sp [] E0 (tCons (tDGet (tVar 0) (tVar 2)) tNil)) tNil)))) (by rfl) scPd.nd (pi_list (pe_call GS hr1 (by rfl) mS kS bS .nil pass0 (pa_cons (pv 0) pa_nil)))
          (blkOk_by (own := [("key", 2)]) (N := NPd) (sc := defScope sPd) (by decide +kernel)) (fun _ _ _ _ _ => pg_name (i := 2) scPd.nd rfl (Or.inl rfl)) (fun _ _ _ _ _ => pts_nil)
          (fun _ _ _ _ _ => by exact pe_lst (pa_cons (pv 2) (pa_cons pe_str (StX.pa_star (pe_call GR hr (by rfl) mF kF bF .nil pass0 (pa_cons (pe_dget hu (pv 0) (pv 2) (fun _ _ => rfl)) pa_nil)) pa_nil))))) pa_nil)) (pa_cons pe_str pa_nil)))))) pss_nil)
      (pss_one (ps_ret (pe_lst (pa_cons (pe_call GP hr1 (by rfl) mP kP bP .nil pass0 (pa_cons (pv 0) pa_nil)) pa_nil))))), ?_⟩
    have e16 : sizeLine = 16777216 := by decide
    have ty := ty_dv (K := K) hv
    have hsz := (wr_size hg (gd_stl k t hg)).1
    have leaf : (∀ ds, t ≠ .lst ds) → (∀ ks ds, t ≠ .dct ks ds) → wrN k t = [lfS t] → tRet (tLst (tCons (tCall spLfp [] E0 (tCons (tVar 0) tNil)) tNil)) { nx := fun x H' => Q V.non H', rt := Q } [some v, none, none] H := fun n1 n2 he =>
      ret_run ⟨_, rfl, v, t, rfl, lfv_of hv hg n1 n2, few2 (by show 1 ≤ _; decide), fun p np => q _ p (same_new same_id np) np (by rw [he]; exact upd_same)⟩
    have fin : ∀ (o c : Str) (σ : L2.St) (H5 : Hp) (r5 : Addr) (zs : List Str), Same H H5 → TxL H5 r5 zs → zs.length ≤ 10000 → wrN k t = o :: (zs ++ [c]) → H5 r5 = some (.lst (zs.map V.str)) →
        tCons (tC (V.str c)) tNil σ H5 (fun ys H6 => (fun xs H7 => xs.length ≤ sizeLine ∧ ∀ p, H7 p = none → Q (.ref p) (upd H7 p (.lst xs))) (V.str o :: (zs.map V.str ++ ys)) H6) := by
      intro o c σ H5 r5 zs s5 tx hl he _
      refine ⟨few2 (by rw [List.length_cons, List.length_append, List.length_map]; show zs.length + 1 + 1 ≤ _; omega), fun p np => q _ p (s5.trans (same_new same_id np)) (none_back s5 np) ?_⟩
      unfold TxL
      rw [upd_same, he, List.map_cons, List.map_append]
      rfl
    cases t with
    | non =>
      have ty : TyX K H v (.type "NoneType") := ty
      refine ⟨_, rfl, _, _, _, _, false, rfl, .ty _, ty, kit_ty (by decide +kernel), _, rfl, iteF (nx_run ?_)⟩
      refine ⟨_, rfl, _, _, _, _, false, rfl, .ty _, ty, kit_ty (by decide +kernel), _, rfl, iteF (nx_run ?_)⟩
      exact leaf (fun _ z => by cases z) (fun _ _ z => by cases z) (by cases k <;> rfl)
    | bl b =>
      have ty : TyX K H v (.type "bool") := ty
      refine ⟨_, rfl, _, _, _, _, false, rfl, .ty _, ty, kit_ty (by decide +kernel), _, rfl, iteF (nx_run ?_)⟩
      refine ⟨_, rfl, _, _, _, _, false, rfl, .ty _, ty, kit_ty (by decide +kernel), _, rfl, iteF (nx_run ?_)⟩
      exact leaf (fun _ z => by cases z) (fun _ _ z => by cases z) (by cases k <;> rfl)
    | int i =>
      have ty : TyX K H v (.type "int") := ty
      refine ⟨_, rfl, _, _, _, _, false, rfl, .ty _, ty, kit_ty (by decide +kernel), _, rfl, iteF (nx_run ?_)⟩
      refine ⟨_, rfl, _, _, _, _, false, rfl, .ty _, ty, kit_ty (by decide +kernel), _, rfl, iteF (nx_run ?_)⟩
      exact leaf (fun _ z => by cases z) (fun _ _ z => by cases z) (by cases k <;> rfl)
    | str x =>
      have ty : TyX K H v (.type "str") := ty
      refine ⟨_, rfl, _, _, _, _, false, rfl, .ty _, ty, kit_ty (by decide +kernel), _, rfl, iteF (nx_run ?_)⟩
      refine ⟨_, rfl, _, _, _, _, false, rfl, .ty _, ty, kit_ty (by decide +kernel), _, rfl, iteF (nx_run ?_)⟩
      exact leaf (fun _ z => by cases z) (fun _ _ z => by cases z) (by cases k <;> rfl)
    | lst ds =>
      clear leaf
      have ty : TyX K H v (.type "list") := ty
      refine ⟨_, rfl, _, _, _, _, true, rfl, .ty _, ty, kit_ty (by decide +kernel), _, rfl, iteT ?_⟩
      obtain ⟨k, rfl⟩ : ∃ i, k = i + 1 := by
        cases k with
        | zero => exact hg.elim
        | succ k => exact ⟨k, rfl⟩
      obtain ⟨i, rfl⟩ : ∃ i, j = i + 1 := ⟨j - 1, by omega⟩
      have := hsp i rfl
      subst this
      simp only [Dv] at hv
      obtain ⟨a, xs, rfl, hx, hp⟩ := hv
      have hgd : ∀ d ∈ ds, Gd k d := hg
      have hnp : 1 + (ds.map (npN k)).sum ≤ 1000 := hn
      have hlen : xs.length = ds.length := paired_len hp
      refine ret_run ⟨_, rfl, a, rfl, ⟨_, SqL.of hx⟩, fun D nD => ?_⟩
      have naD : a ≠ D := ne_of_none hx nD
      refine lc_list (K := K) (a := a) (xs := xs) (fun i H' => ∃ (rs : List V), H' D = some (.lst rs) ∧ rs.length = i ∧ Same H H' ∧ Paired (RowD D H') rs ((ds.take i).map (wrN k)))
        ⟨[], upd_same, rfl, same_new same_id nD, .nil⟩ ?_ ?_ ?_
      · rintro i H' _ ⟨_, _, _, s', _⟩
        exact SqL.of (s' _ _ hx)
      · rintro i x H3 hx3 ⟨rs, hD3, lrs, s3, pr⟩
        obtain ⟨d, hd, hdx⟩ := paired_get hp hx3
        have hmem := List.mem_of_getElem? hd
        have hi := (List.getElem?_eq_some_iff.mp hd).1
        have hnd := np_mem (n := k) hmem
        have hl := len_np (n := k) ds
        refine ⟨rfl, _, rfl, x, d, k, rfl, by omega, ⟨hdx.mono (fun b o _ e => s3 _ _ e) (Nat.le_refl _), hgd d hmem, by omega⟩, fun H4 r s4 nr tx => ?_⟩
        have nrD : r ≠ D := fun z => by rw [z, hD3] at nr; cases nr
        refine ⟨rs, s4 _ _ hD3, lines (by omega), rs ++ [.ref r], upd_same, by rw [List.length_append, lrs]; rfl, fun b o e => ?_, paired_take (F := fun _ _ => True) hd (rowD_up pr s4) ⟨r, rfl, nrD, (upd_ne nrD).trans tx⟩⟩
        rw [upd_ne (ne_of_none e nD)]
        exact s4 _ _ (s3 _ _ e)
      · rintro H3 ⟨rs, hD3, lrs, s3, pr⟩
        rw [List.take_of_length_le (by rw [hlen]; exact Nat.le_refl _)] at pr
        have hrs := paired_sum (g := fun d => 5 * npN k d) (paired_map (F := fun d ys => ys = wrN k d) (f := wrN k) (fun _ => rfl) ds) fun d hd ys e => by
          have := (wr_size (hgd d hd) (gd_stl k d (hgd d hd))).1
          rw [e]
          omega
        rw [sum_five] at hrs
        have hr2 := rowS_len (ds.map (wrN k))
        refine ⟨D, rs, ds.map (wrN k), rfl, hD3, L2.Paired.mapP pr fun _ _ h => (by obtain ⟨p, e, _, h2⟩ := h; exact ⟨p, e, h2⟩), fun ys hy => ?_, by omega, fun H5 r5 s5 _ tx5 => ?_⟩
        · obtain ⟨d, hd, rfl⟩ := List.mem_map.mp hy
          exact (wr_size (hgd d hd) (gd_stl k d (hgd d hd))).2.1
        · exact ⟨r5, _, rfl, .inr (SqL.of tx5), fin "[" "]" _ H5 r5 _ (s3.trans s5) tx5 (by omega) rfl tx5⟩
    | dct ks ds =>
      clear leaf
      have ty : TyX K H v (.type "dict") := ty
      refine ⟨_, rfl, _, _, _, _, false, rfl, .ty _, ty, kit_ty (by decide +kernel), _, rfl, iteF (nx_run ?_)⟩
      refine ⟨_, rfl, _, _, _, _, true, rfl, .ty _, ty, kit_ty (by decide +kernel), _, rfl, iteT ?_⟩
      obtain ⟨k, rfl⟩ : ∃ i, k = i + 1 := by
        cases k with
        | zero => exact hg.elim
        | succ k => exact ⟨k, rfl⟩
      obtain ⟨i, rfl⟩ : ∃ i, j = i + 1 := ⟨j - 1, by omega⟩
      have := hsp i rfl
      subst this
      simp only [Dv] at hv
      obtain ⟨a, us, rfl, hx, hlu, hnd, hp⟩ := hv
      obtain ⟨hl, _, hks, hgd⟩ := (show ds.length = ks.length ∧ ks.Nodup ∧ (∀ k ∈ ks, isKey k = true) ∧ ∀ d ∈ ds, Gd k d from hg)
      have hnp : 1 + (ds.map (npN k)).sum ≤ 1000 := hn
      have hlen := len_np (n := k) ds
      have pm0 := skeys_perm ks
      have hkl : (skeys ks).length = ks.length := pm0.length_eq
      refine ret_run ⟨_, rfl, a, ks, us, rfl, hx, hlu, by omega, fun H0 p s0 np hp0 => ?_⟩
      refine ⟨p, rfl, ⟨_, SqL.of hp0⟩, fun D nD => ?_⟩
      have npD : p ≠ D := ne_of_none hp0 nD
      have nD0 := none_back s0 nD
      let g : Str → List Str := fun x => x :: ((":" : Str) :: wrN k (look ks ds x))
      have hsg : ∀ x ∈ ks, (g x).length + 1 ≤ 5 * npN k (look ks ds x) := fun x hxk => by
        have hd := hgd _ (look_mem hl hxk)
        have := (wr_size hd (gd_stl k _ hd)).1
        show (wrN k (look ks ds x)).length + 1 + 1 + 1 ≤ _
        omega
      refine lc_list (K := K) (a := p) (xs := (skeys ks).map V.str) (fun i H' => ∃ (rs : List V), H' D = some (.lst rs) ∧ rs.length = i ∧ Same H0 H' ∧ Paired (RowD D H') rs (((skeys ks).take i).map g))
        ⟨[], upd_same, rfl, same_new same_id nD, .nil⟩ ?_ ?_ ?_
      · rintro i H' _ ⟨_, _, _, s', _⟩
        exact SqL.of (s' _ _ hp0)
      · rintro i x H3 hx3 ⟨rs, hD3, lrs, s3, pr⟩
        obtain ⟨key, hk1, rfl⟩ : ∃ key, (skeys ks)[i]? = some key ∧ V.str key = x := by simpa using hx3
        have hmem : key ∈ ks := pm0.mem_iff.mp (List.mem_of_getElem? hk1)
        have hi := (List.getElem?_eq_some_iff.mp hk1).1
        obtain ⟨u, hu1, hu2⟩ := look_at hlu hp hmem
        have hx4 : H3 a = some (.dK (kvOf ks us)) := s3 _ _ (s0 _ _ hx)
        have dg : DGet H3 a (.str key) (some u) := by
          have z := DGet.k (k := Sum.inr key) hx4
          rw [hu1] at z
          exact z
        have hdm := look_mem hl hmem
        have hnd2 := np_mem (n := k) hdm
        have hgk := hsg key hmem
        refine ⟨rfl, _, rfl, _, rfl, _, rfl, a, u, rfl, dg, u, look ks ds key, k, rfl, by omega, ⟨hu2.mono (fun b o _ e => s3 _ _ (s0 _ _ e)) (Nat.le_refl _), hgd _ hdm, by omega⟩, fun H4 r s4 nr tx => ?_⟩
        refine ⟨r, _, rfl, .inr (SqL.of tx), few2 ?_, fun p2 n2 => ?_⟩
        · rw [List.append_nil, List.length_cons, List.length_cons, List.length_map]
          have : (g key).length = (wrN k (look ks ds key)).length + 1 + 1 := rfl
          omega
        have hD4 := s4 _ _ hD3
        have n2D : p2 ≠ D := fun z => by rw [z, hD4] at n2; cases n2
        have s5 := same_new (u := .lst (V.str key :: V.str ":" :: ((wrN k (look ks ds key)).map V.str ++ []))) (same_id (H := H4)) n2
        refine ⟨rs, s5 _ _ hD4, lines (by omega), rs ++ [.ref p2], upd_same, by rw [List.length_append, lrs]; rfl, fun b o e => ?_, paired_take (F := fun _ _ => True) hk1 (rowD_up pr (s4.trans s5)) ⟨p2, rfl, n2D, (upd_ne n2D).trans ?_⟩⟩
        · rw [upd_ne (ne_of_none e nD)]
          exact s5 _ _ (s4 _ _ (s3 _ _ e))
        · rw [upd_same, List.append_nil]
          rfl
      · rintro H3 ⟨rs, hD3, lrs, s3, pr⟩
        rw [List.length_map, List.take_of_length_le (Nat.le_refl _)] at pr
        have hrs := paired_sum (g := fun z => 5 * npN k (look ks ds z)) (paired_map (F := fun z ys => ys = g z) (f := g) (fun _ => rfl) (skeys ks)) fun z hz ys e => by
          rw [e]
          exact hsg z (pm0.mem_iff.mp hz)
        have h3 : ((skeys ks).map fun z => 5 * npN k (look ks ds z)).sum = 5 * (ds.map (npN k)).sum := by
          rw [sum_perm _ pm0, look_sum (fun d => 5 * npN k d) ks ds hl hnd, sum_five]
        rw [h3] at hrs
        have hr2 := rowS_len ((skeys ks).map g)
        refine ⟨D, rs, (skeys ks).map g, rfl, hD3, L2.Paired.mapP pr fun _ _ h => (by obtain ⟨p, e, _, h2⟩ := h; exact ⟨p, e, h2⟩), fun ys hy => ?_, by omega, fun H5 r5 s5 _ tx5 => ?_⟩
        · obtain ⟨z, _, rfl⟩ := List.mem_map.mp hy
          exact List.cons_ne_nil _ _
        · exact ⟨r5, _, rfl, .inr (SqL.of tx5), fin "{" "}" _ H5 r5 _ (s0.trans (s3.trans s5)) tx5 (by omega) rfl tx5⟩
theorem ok_pd {f fL fS fP : Addr} {fd dL dS dP : FuncData} (F : L2.Fun K "datum_pieces" "datum_pieces" sPd f fd)
    (GL : FnOk P w K mg base CX0 1 fL dL ["rows"] spLis) (mLis : mg "_listed" = some (.ref fL)) (kL : PySem.W.keepIn K (.ref fL) = true) (bL : Binds K dL ["rows"] [])
    (GS : FnOk P w K mg base CX0 1 fS dS ["datum"] spStp) (mS : mg "steps_into" = some (.ref fS)) (kS : PySem.W.keepIn K (.ref fS) = true) (bS : Binds K dS ["datum"] [])
    (GP : FnOk P w K mg base CX0 1 fP dP ["leaf"] spLfp) (mP : mg "leaf_piece" = some (.ref fP)) (kP : PySem.W.keepIn K (.ref fP) = true) (bP : Binds K dP ["leaf"] [])
    (mF : mg "datum_pieces" = some (.ref f)) (kF : PySem.W.keepIn K (.ref f) = true) (bF : Binds K fd ["datum"] [])
    (mI : mg "isinstance" = none) (mL : mg "list" = none) (mD : mg "dict" = none) : ∀ j, FnOk P w K mg base CX0 (2 + j) f fd ["datum"] (spPd j)
  | 0 => ok_pdS (sp := fun _ _ _ _ => False) F GL mLis kL bL GS mS kS bS GP mP kP bP (fn_none fun _ _ _ _ h => h) (fun i h => by cases h) mF kF bF mI mL mD
  | j + 1 => ok_pdS F GL mLis kL bL GS mS kS bS GP mP kP bP (by rw [show 1 + (j + 1) = 2 + j by omega]; exact ok_pd F GL mLis kL bL GS mS kS bS GP mP kP bP mF kF bF mI mL mD j) (fun i h => by cases h; rfl) mF kF bF mI mL mD
theorem ok_wd {f fP : Addr} {fd dP : FuncData} (F : L2.Fun K "write_datum" "write_datum" sWd f fd)
    (GP : FnOk P w K mg base CX0 62 fP dP ["datum"] (spPd 60)) (mP : mg "datum_pieces" = some (.ref fP)) (kP : PySem.W.keepIn K (.ref fP) = true) (bP : Binds K dP ["datum"] []) : FnOk P w K mg base CX0 63 f fd ["datum"] spWd := by
  refine F.ok (k := 62) scWd (fun vs H Q E h => ?_) (fun cdv A outer s H vs Q E hr h => ?_)
  · obtain ⟨v, t, rfl, _⟩ := h
    rfl
  · obtain ⟨v, t, rfl, hi, hz, q⟩ := h
    refine ⟨_, pss_one (ps_ret (pe_bm PySem.F.plainAttrs_str PySem.F.slot_str_join PySem.F.type_str_join mt_join pe_str (pa_cons (pe_call GP hr (by rfl) mP kP bP .nil pass0 (pa_cons (pv 0) pa_nil)) pa_nil))), ?_⟩
    have hsz := (wr_size hi.2.1 (gd_stl 60 t hi.2.1)).1
    have hn := hi.2.2
    refine ⟨rfl, _, rfl, v, t, 60, rfl, Nat.le_refl _, hi, fun H1 r s1 _ tx => ⟨" ", r, wrN 60 t, rfl, rfl, .inl (SqL.of tx), ?_, q H1 s1⟩⟩
    have : (" " : Str).length = 1 := rfl
    rw [this]
    omega
end
end Toy


namespace Toy
end Toy


namespace Toy
open PySem PySem.Spec L2 PyProof.Rows PySem.W
/-! ### drawing: a sign of a text, gaps, what stands apart -/
abbrev sGp : Stmt := top 52
abbrev sAp : Stmt := top 53
def spPickS : Sp := fun vs H Q _ => ∃ (d l : Addr) (n : Nat) (z : Str), vs = [.ref d, .str z] ∧ Tape H d l n ∧ n ≤ 1000000 ∧ 0 < z.length ∧ z.length < 1000000 ∧
  ∀ H' c, But d H H' → Tape H' d l (n + 1) → c ∈ z.cps.toList → Q (.str ⟨#[c]⟩) H'
/-- what is drawn: k draws at most -/
def After (d l : Addr) (n k : Nat) (H H' : Hp) : Prop := But d H H' ∧ Tape H' d l (n + k)
theorem After.refl {d l : Addr} {n : Nat} {H : Hp} (h : Tape H d l n) : After d l n 0 H H := ⟨But.refl, h⟩
theorem After.trans {d l : Addr} {n k j : Nat} {H H1 H2 : Hp} (a : After d l n k H H1) (b : After d l (n + k) j H1 H2) : After d l n (k + j) H H2 := ⟨a.1.trans b.1, by rw [← Nat.add_assoc]; exact b.2⟩
theorem After.same {d l : Addr} {n k : Nat} {H H1 H2 : Hp} (a : After d l n k H H1) (s : Same H1 H2) : After d l n k H H2 := ⟨a.1.trans (Same.but s d), a.2.same s⟩
theorem After.more {d l : Addr} {n k j : Nat} {H H1 : Hp} (a : After d l n k H H1) (h : k ≤ j) : After d l n j H H1 := ⟨a.1, a.2.more (by omega)⟩
theorem gapc_of {g : List Nat} (h : IsGap g) (b : Blank g) : GapC g := ⟨h, b⟩
theorem gap_s0 : GapC ("" : Str).cps.toList := ⟨gap_nil, fun c e => by cases e⟩
theorem gap_s1 : GapC (" " : Str).cps.toList := by
  rw [show (" " : Str).cps.toList = [32] by decide +kernel]
  exact ⟨gap_sp (.inl rfl) gap_nil, fun c e => by cases e; exact .inl rfl⟩
theorem gap_s2 : GapC ("  " : Str).cps.toList := by
  rw [show ("  " : Str).cps.toList = [32, 32] by decide +kernel]
  exact ⟨gap_sp (.inl rfl) (gap_sp (.inl rfl) gap_nil), fun c e => by cases e; exact .inl rfl⟩
theorem gap_s3 : GapC ("\n" : Str).cps.toList := by
  rw [show ("\n" : Str).cps.toList = [10] by decide +kernel]
  exact ⟨gap_sp (.inr rfl) gap_nil, fun c e => by cases e; exact .inr (.inl rfl)⟩
theorem gap_s4 : GapC ("\n \n" : Str).cps.toList := by
  rw [show ("\n \n" : Str).cps.toList = [10, 32, 10] by decide +kernel]
  exact ⟨gap_sp (.inr rfl) (gap_sp (.inl rfl) (gap_sp (.inr rfl) gap_nil)), fun c e => by cases e; exact .inr (.inl rfl)⟩
theorem gap_s5 : GapC (" # a ( \" each\n" : Str).cps.toList := by
  rw [show (" # a ( \" each\n" : Str).cps.toList = 32 :: 35 :: ([32, 97, 32, 40, 32, 34, 32, 101, 97, 99, 104] ++ 10 :: []) by decide +kernel]
  exact ⟨gap_sp (.inl rfl) (gap_cm (by decide) gap_nil), fun c e => by cases e; exact .inl rfl⟩
theorem gap_s6 : GapC ("#\n" : Str).cps.toList := by
  rw [show ("#\n" : Str).cps.toList = 35 :: ([] ++ 10 :: []) by decide +kernel]
  exact ⟨gap_cm (by decide) gap_nil, fun c e => by cases e; exact .inr (.inr rfl)⟩
theorem tail_s0 : TailC ("" : Str).cps.toList := ⟨gap_s0.1.tail, gap_s0.2⟩
theorem tail_s1 : TailC (" " : Str).cps.toList := ⟨gap_s1.1.tail, gap_s1.2⟩
theorem tail_s2 : TailC ("\n" : Str).cps.toList := ⟨gap_s3.1.tail, gap_s3.2⟩
theorem tail_s3 : TailC ("# end" : Str).cps.toList := by
  rw [show ("# end" : Str).cps.toList = 35 :: [32, 101, 110, 100] by decide +kernel]
  exact ⟨tail_cm (by decide), fun c e => by cases e; exact .inr (.inr rfl)⟩
theorem tail_s4 : TailC (" # ) \n#" : Str).cps.toList := by
  rw [show (" # ) \n#" : Str).cps.toList = 32 :: 35 :: ([32, 41, 32] ++ 10 :: (35 :: [])) by decide +kernel]
  exact ⟨tail_sp (.inl rfl) (tail_cg (by decide) (tail_cm (by decide))), fun c e => by cases e; exact .inl rfl⟩
def spGp : Sp := fun vs H Q _ => ∃ (d l : Addr) (n : Nat) (b : Bool), vs = [.ref d, .bl b] ∧ Tape H d l n ∧ n ≤ 1000000 ∧ ∀ H' z, After d l n 1 H H' → z.length ≤ 20 → GapC z.cps.toList → Q (.str z) H'
def spAp : Sp := fun vs H Q _ => ∃ a b : Str, vs = [.str a, .str b] ∧ a.length ≤ 100000 ∧ b.length ≤ 100000 ∧ ∀ r, Q (.bl r) H
def AnyB (te : TE) (σ : L2.St) (H : Hp) : Prop := ∀ R : VK, (∀ r, R (.bl r) H) → te σ H R
theorem anyB_or {ta tb : TE} {σ : L2.St} {H : Hp} (h1 : AnyB ta σ H) (h2 : AnyB tb σ H) : AnyB (tOrV ta tb) σ H := fun R h => h1 _ fun r => ⟨r, rfl, by
  cases r with
  | true => exact iteT (h _)
  | false => exact iteF (h2 _ h)⟩
theorem anyB_and {ta tb : TE} {σ : L2.St} {H : Hp} (h1 : AnyB ta σ H) (h2 : AnyB tb σ H) : AnyB (tAndV ta tb) σ H := fun R h => h1 _ fun r => ⟨r, rfl, by
  cases r with
  | true => exact iteT (h2 _ h)
  | false => exact iteF (h _)⟩
theorem anyB_not {ta : TE} {σ : L2.St} {H : Hp} (h1 : AnyB ta σ H) : AnyB (tNotV ta) σ H := fun R h => h1 _ fun r => ⟨r, rfl, h _⟩
theorem scGp : FnScope ["_law_tape", "_law_is_needed", "_law_some"] ["_law_tape", "_law_is_needed"] (defScope sGp) := ⟨rfl, rfl, rfl, by decide +kernel, rfl, by decide +kernel, by decide +kernel⟩
theorem scAp : FnScope ["_law_one", "_law_other", "_law_signs"] ["_law_one", "_law_other"] (defScope sAp) := ⟨rfl, rfl, rfl, by decide +kernel, rfl, by decide +kernel, by decide +kernel⟩
theorem tape_ne {H : Hp} {d l p : Addr} {n : Nat} {xs : List V} (h : Tape H d l n) (hp : H p = some (.lst xs)) : p ≠ d := by
  obtain ⟨ns, a, f, hd, _⟩ := h
  exact ne_of hp hd (by intro z; cases z)
theorem at0 {z : Str} (h : 0 < z.length) : ∃ c, z.cps.toList[0]? = some c := by
  have hl : z.cps.toList.length = z.length := by rw [Array.length_toList]; rfl
  exact ⟨_, List.getElem?_eq_getElem (by omega)⟩
theorem atL {z : Str} (h : 0 < z.length) : ∃ c, atI z.cps.toList (-1) = some c := by
  have hl : z.cps.toList.length = z.length := by rw [Array.length_toList]; rfl
  unfold atI
  have e : ixN z.cps.toList.length (-1) = some (z.cps.toList.length - 1) := by
    unfold ixN
    rw [if_neg (by decide), if_pos (by omega)]
    congr 1
    omega
  rw [e]
  exact ⟨_, List.getElem?_eq_getElem (by omega)⟩
section
variable {P : Program} {w : World} {K : PySem.W.Frag} {mg : Str → Option Value} {base : Heap}
theorem ok_pickS {f fD : Addr} {fd fdD : FuncData} (F : Fun K "_law_pick" "_law_pick" sPick f fd) (GD : FnOk P w K mg base CX0 1 fD fdD ["_law_tape", "_law_many"] spDraw) (mD : mg "_law_draw" = some (.ref fD)) (kD : PySem.W.keepIn K (.ref fD) = true) (bD : Binds K fdD ["_law_tape", "_law_many"] []) (mLen : mg "len" = none) : FnOk P w K mg base CX0 2 f fd ["_law_tape", "_law_items"] spPickS := by
  refine F.ok scP (fun vs H Q E h => ?_) (fun cdv A outer s H vs Q E hr h => ?_)
  · obtain ⟨d, l, n, z, rfl, _⟩ := h
    rfl
  · obtain ⟨d, l, n, z, rfl, hT, hn, h0, hlen, q⟩ := h
    have hl : z.cps.toList.length = z.length := by rw [Array.length_toList]; rfl
    have hzs : z.length ≤ sizeLine := Nat.le_trans (Nat.le_of_lt hlen) (by decide)
    refine ⟨_, pss_one (ps_ret (pe_ix ix_str (pv 1) (pe_call GD hr rfl mD kD bD .nil pass0 (pa_cons (pv 0) (pa_cons (pe_callB call_len_str (by rfl) mLen PySem.boot_len (pa_cons (pv 1) pa_nil)) pa_nil))) (fun _ _ => rfl))), ?_⟩
    refine ⟨_, rfl, _, rfl, _, rfl, z, rfl, hzs, d, l, n, _, rfl, hT, hn, by omega, by omega, fun H1 r hb hT1 r0 r1 => ?_⟩
    obtain ⟨j, rfl⟩ : ∃ j : Nat, r = (j : Int) := ⟨r.toNat, by omega⟩
    have hj : z.cps.toList[j]? = some z.cps.toList[j] := List.getElem?_eq_getElem (by omega)
    exact ⟨z, _, _, rfl, rfl, hzs, atI_nat hj, q _ _ hb hT1 (List.getElem_mem _)⟩
theorem ok_gp {f fP : Addr} {fd fdP : FuncData} (F : Fun K "_law_gap" "_law_gap" sGp f fd) (GP : FnOk P w K mg base CX0 2 fP fdP ["_law_tape", "_law_items"] spPick) (mP : mg "_law_pick" = some (.ref fP)) (kP : PySem.W.keepIn K (.ref fP) = true) (bP : Binds K fdP ["_law_tape", "_law_items"] []) : FnOk P w K mg base CX0 3 f fd ["_law_tape", "_law_is_needed"] spGp := by
  refine F.ok (k := 2) scGp (fun vs H Q E h => ?_) (fun cdv A outer s H vs Q E hr h => ?_)
  · obtain ⟨d, l, n, b, rfl, _⟩ := h
    rfl
  · obtain ⟨d, l, n, b, rfl, hT, hn, q⟩ := h
    refine ⟨_, pss_cons (ps_set (i := 2) scGp.nd rfl (Or.inl rfl) (pe_lst (pa_cons (pe_ifExp (pt_not (pt_val (pv 1))) pe_str pe_str) (pa_cons pe_str (pa_cons pe_str (pa_cons pe_str (pa_cons pe_str (pa_cons pe_str (pa_cons pe_str (pa_cons pe_str pa_nil))))))))))
      (pss_one (ps_ret (pe_call GP hr (by rfl) mP kP bP .nil pass0 (pa_cons (pv 0) (pa_cons (pv 2) pa_nil))))), ?_⟩
    have fin : ∀ (x : Str), x.length ≤ 1 → GapC x.cps.toList → ∀ p, H p = none → (fun σ H' => tRet (tCall spPick [] E0 (tCons (tVar 0) (tCons (tVar 2) tNil))) { nx := fun x H' => Q V.non H', rt := Q } σ H') [some (.ref d), some (.bl b), some (.ref p)] (upd H p (.lst [.str x, .str " ", .str "  ", .str "\n", .str "\n \n", .str " # a ( \" each\n", .str "#\n", .str " "])) := fun x hx hg p np => by
      have s1 := same_new (u := .lst [V.str x, .str " ", .str "  ", .str "\n", .str "\n \n", .str " # a ( \" each\n", .str "#\n", .str " "]) (same_id (H := H)) np
      refine ret_run ⟨_, rfl, _, rfl, d, l, p, n, _, rfl, hT.same s1, hn, upd_same, by simp, by show 8 < 1000000; decide, fun H' v b' hT' hv => ?_⟩
      have : ∃ z : Str, v = .str z ∧ z.length ≤ 20 ∧ GapC z.cps.toList := by
        simp only [List.mem_cons, List.not_mem_nil, or_false] at hv
        rcases hv with e | e | e | e | e | e | e | e
        · exact ⟨x, e, by omega, hg⟩
        · exact ⟨_, e, by decide, gap_s1⟩
        · exact ⟨_, e, by decide, gap_s2⟩
        · exact ⟨_, e, by decide, gap_s3⟩
        · exact ⟨_, e, by decide, gap_s4⟩
        · exact ⟨_, e, by decide, gap_s5⟩
        · exact ⟨_, e, by decide, gap_s6⟩
        · exact ⟨_, e, by decide, gap_s1⟩
      obtain ⟨z, rfl, hz, hgz⟩ := this
      exact q H' z ⟨(Same.but s1 d).trans b', hT'⟩ hz hgz
    cases b with
    | true => exact asg_run ⟨_, rfl, _, rfl, iteF ⟨few (by show 8 ≤ 1000; decide), fun p np => fin " " (by decide) gap_s1 p np⟩⟩
    | false => exact asg_run ⟨_, rfl, _, rfl, iteT ⟨few (by show 8 ≤ 1000; decide), fun p np => fin "" (by decide) gap_s0 p np⟩⟩
theorem ok_ap {f : Addr} {fd : FuncData} (F : Fun K "_law_is_apart" "_law_is_apart" sAp f fd) (mLen : mg "len" = none) : FnOk P w K mg base CX0 1 f fd ["_law_one", "_law_other"] spAp := by
  refine F.ok scAp (fun vs H Q E h => ?_) (fun cdv A outer s H vs Q E hr h => ?_)
  · obtain ⟨a, b, rfl, _⟩ := h
    rfl
  · obtain ⟨a, b, rfl, ha, hb, q⟩ := h
    have has : a.length ≤ sizeLine := Nat.le_trans ha (by decide)
    have hbs : b.length ≤ sizeLine := Nat.le_trans hb (by decide)
    refine ⟨_, pss_cons (ps_set (i := 2) scAp.nd rfl (Or.inl rfl) pe_str)
      (pss_cons (ps_if (PW.pt (pw_or (pt_cmpR op_eq (pv 0) pe_str (nomark _)) (pw_or1 (pt_cmpR op_eq (pv 1) pe_str (nomark _))))) (pss_one (ps_ret pe_bl)) pss_nil)
      (pss_cons (ps_if (PW.pt (pw_and (pt_cmpR op_inS (pe_ix ix_str (pv 0) (pe_un un_neg pe_int) (fun _ _ => rfl)) (pv 2) (by rfl)) (pw_and1 (PW.pt (pw_or (pt_cmpR op_ne (pe_ix ix_str (pv 0) (pe_un un_neg pe_int) (fun _ _ => rfl)) pe_str (nomark _)) (pw_or1 (pt_cmpR op_gt (pe_callB call_len_str (by rfl) mLen PySem.boot_len (pa_cons (pv 0) pa_nil)) pe_int (nomark _))))))))
        (pss_one (ps_ret (pe_cmpR op_notIn_sign (pe_ix ix_str (pv 1) pe_int (fun _ _ => rfl)) (pv 2) (by rfl)))) pss_nil)
      (pss_cons (ps_if (PW.pt (pw_and (pt_cmpR op_inS (pe_ix ix_str (pv 0) (pe_un un_neg pe_int) (fun _ _ => rfl)) pe_str (by rfl)) (pw_and1 (pt_cmpR op_ne (pe_ix ix_str (pv 0) pe_int (fun _ _ => rfl)) pe_str (nomark _)))))
        (pss_one (ps_ret (pe_cmpR op_notIn_sign (pe_ix ix_str (pv 1) pe_int (fun _ _ => rfl)) pe_str (by rfl)))) pss_nil)
      (pss_one (ps_ret (pe_not (pe_or (pe_and (pe_cmpR op_eq (pv 0) pe_str (nomark _)) (pe_one (pe_cmpR op_inS (pe_ix ix_str (pv 1) pe_int (fun _ _ => rfl)) pe_str (by rfl)))) (pe_one (pe_and (pe_cmpR op_eq (pv 0) pe_str (nomark _)) (pe_one (pe_or (pe_cmpR op_inS (pe_ix ix_str (pv 1) pe_int (fun _ _ => rfl)) (pv 2) (by rfl)) (pe_one (pe_cmpR op_inS (pe_ix ix_str (pv 1) pe_int (fun _ _ => rfl)) pe_str (by rfl)))))))))))))), ?_⟩
    refine asg_run ?_
    refine ifs_val (v := decide (a = "") || decide (b = "")) (fun Q kk => tor_val (b := decide (a = "")) (c := decide (b = "")) (fun Q kk => ⟨_, rfl, rfl, _, rfl, by rw [dec_s]; exact kk⟩) (fun _ Q kk => ⟨_, rfl, rfl, _, rfl, by rw [dec_s]; exact kk⟩) kk) (fun _ => ret_run (q _)) (fun hb => nxt_run ?_)
    rw [Bool.or_eq_false_iff, decide_eq_false_iff_not, decide_eq_false_iff_not] at hb
    have pos : ∀ {z : Str}, z ≠ "" → 0 < z.length := fun {z} h => by
      by_cases e : z.length = 0
      · exfalso
        apply h
        refine str_ext ?_
        have hl : z.cps.toList.length = z.length := by rw [Array.length_toList]; rfl
        rw [List.eq_nil_of_length_eq_zero (hl.trans e)]
        rfl
      · omega
    obtain ⟨ca, hca⟩ := atL (pos hb.1)
    obtain ⟨c0, hc0⟩ := at0 (pos hb.1)
    obtain ⟨cb, hcb⟩ := at0 (pos hb.2)
    have hc0 : atI a.cps.toList (0 : Int) = some c0 := atI_nat hc0
    have hcb : atI b.cps.toList (0 : Int) = some cb := atI_nat hcb
    refine ifs_val (v := decide (ca ∈ letS.cps.toList) && (!decide (V.str ⟨#[ca]⟩ = V.str ("." : Str)) || decide ((1 : Int) < (a.length : Int)))) (fun Q kk => tand_val (b := decide (ca ∈ letS.cps.toList)) (c := !decide (V.str ⟨#[ca]⟩ = V.str ("." : Str)) || decide ((1 : Int) < (a.length : Int))) (fun Q kk => ⟨_, rfl, _, rfl, a, _, ca, rfl, rfl, has, hca, _, rfl, ca, letS, rfl, rfl, _, rfl, kk⟩)
        (fun _ Q kk => tor_val (b := !decide (V.str ⟨#[ca]⟩ = V.str ("." : Str))) (c := decide ((1 : Int) < (a.length : Int))) (fun Q kk => ⟨_, rfl, _, rfl, a, _, ca, rfl, rfl, has, hca, rfl, _, rfl, kk⟩) (fun _ Q kk => ⟨_, rfl, a, rfl, has, _, _, rfl, rfl, _, rfl, kk⟩) kk) kk)
      (fun _ => ret_run ⟨_, rfl, b, _, cb, rfl, rfl, hbs, hcb, _, rfl, cb, letS, rfl, rfl, q _⟩) (fun _ => nxt_run ?_)
    refine ifs_val (v := decide (ca ∈ digS.cps.toList) && !decide (V.str ⟨#[c0]⟩ = V.str ("\"" : Str))) (fun Q kk => tand_val (b := decide (ca ∈ digS.cps.toList)) (c := !decide (V.str ⟨#[c0]⟩ = V.str ("\"" : Str))) (fun Q kk => ⟨_, rfl, _, rfl, a, _, ca, rfl, rfl, has, hca, ca, digS, rfl, rfl, _, rfl, kk⟩)
        (fun _ Q kk => ⟨_, rfl, a, _, c0, rfl, rfl, has, hc0, rfl, _, rfl, kk⟩) kk)
      (fun _ => ret_run ⟨_, rfl, b, _, cb, rfl, rfl, hbs, hcb, cb, digS, rfl, rfl, q _⟩) (fun _ => nxt_run ?_)
    refine ret_run (anyB_not (anyB_or (anyB_and (fun R h => ⟨_, rfl, rfl, h _⟩) (fun R h => ⟨_, rfl, b, _, cb, rfl, rfl, hbs, hcb, cb, digS, rfl, rfl, h _⟩)) (anyB_and (fun R h => ⟨_, rfl, rfl, h _⟩) (anyB_or (fun R h => ⟨_, rfl, b, _, cb, rfl, rfl, hbs, hcb, _, rfl, cb, letS, rfl, rfl, h _⟩) (fun R h => ⟨_, rfl, b, _, cb, rfl, rfl, hbs, hcb, cb, digS, rfl, rfl, h _⟩)))) _ q)
end
end Toy


namespace Toy
open PySem PySem.Spec L2 PyProof.Rows PySem.W
abbrev sShuf : Stmt := top 44
/-! ### a row of texts in any order -/
theorem erase_perm {α : Type} : ∀ (l : List α) (j : Nat) (h : j < l.length), (l[j] :: l.eraseIdx j).Perm l
  | x :: l, 0, _ => List.Perm.refl _
  | x :: l, j + 1, h => (List.Perm.swap x _ _).trans (.cons x (erase_perm l j (Nat.lt_of_succ_lt_succ h)))
theorem erase_map {α β : Type} (f : α → β) : ∀ (l : List α) (j : Nat), (l.map f).eraseIdx j = (l.eraseIdx j).map f
  | [], _ => rfl
  | _ :: _, 0 => rfl
  | x :: l, j + 1 => congrArg (f x :: ·) (erase_map f l j)
/-- all that stood stands, but at d, at a list L and at a list G -/
def spShuf : Sp := fun vs H Q _ => ∃ (d l p : Addr) (n : Nat) (ks : List Str), vs = [.ref d, .ref p] ∧ Tape H d l n ∧ n ≤ 900000 ∧ H p = some (.lst (ks.map V.str)) ∧ ks.length ≤ 20 ∧
  ∀ H' R (ys : List Str), But d H H' → Tape H' d l (n + ks.length) → H R = none → H' R = some (.lst (ys.map V.str)) → ys.Perm ks → Q (.ref R) H'
section
variable {P : Program} {w : World} {K : PySem.W.Frag} {mg : Str → Option Value} {base : Heap}
theorem scSf : FnScope ["_law_tape", "_law_items", "_law_left", "_law_found"] ["_law_tape", "_law_items"] (defScope sShuf) := ⟨rfl, rfl, rfl, by decide +kernel, rfl, by decide +kernel, by decide +kernel⟩
theorem ok_shuf {f fD : Addr} {fd fdD : FuncData} (F : Fun K "_law_shuffled" "_law_shuffled" sShuf f fd) (GD : FnOk P w K mg base CX0 1 fD fdD ["_law_tape", "_law_many"] spDraw) (mD : mg "_law_draw" = some (.ref fD)) (kD : PySem.W.keepIn K (.ref fD) = true) (bD : Binds K fdD ["_law_tape", "_law_many"] []) (mLen : mg "len" = none) (mList : mg "list" = none) :
    FnOk P w K mg base CX0 2 f fd ["_law_tape", "_law_items"] spShuf := by
  refine F.ok scSf (fun vs H Q E h => ?_) (fun cdv A outer s H vs Q E hr h => ?_)
  · obtain ⟨d, l, p, n, ks, rfl, _⟩ := h
    rfl
  · obtain ⟨d, l, p, n, ks, rfl, hT, hn, hp, hlen, q⟩ := h
    refine ⟨_, pss_cons (ps_par (i := 2) (j := 3) rfl scSf.nd rfl rfl (by decide) rfl rfl (pa_cons (pe_callTy call_list_of (by rfl) mList (by decide +kernel) (pa_cons (pv 1) pa_nil)) (pa_cons (pe_lst pa_nil) pa_nil)) (by rfl))
      (pss_cons (ps_while PassesOwn.never (pt_cmpR (op_neE hr.units) (pv 2) (pe_lst pa_nil) (nomark _))
        (pss_one (ps_expr (pe_bm PySem.F.plainAttrs_list PySem.F.slot_list_append PySem.F.type_list_append mt_append (pv 3) (pa_cons (pe_bm PySem.F.plainAttrs_list PySem.F.slot_list_pop PySem.F.type_list_pop mt_popAt (pv 2)
          (pa_cons (pe_call GD hr (by rfl) mD kD bD .nil pass0 (pa_cons (pv 0) (pa_cons (pe_callB call_len_seq (by rfl) mLen PySem.boot_len (pa_cons (pv 2) pa_nil)) pa_nil))) pa_nil)) pa_nil)))))
      (pss_one (ps_ret (pv 3)))), ?_⟩
    refine ⟨_, rfl, p, _, rfl, .inl (SqL.of hp), fun L nL => ⟨Nat.zero_le _, fun G nG => ⟨_, _, rfl, ?_⟩⟩⟩
    have nLG : L ≠ G := ne_of_none upd_same nG
    have nG0 : H G = none := by rw [upd_ne nLG.symm] at nG; exact nG
    have hd0 : ∃ o, H d = some o := by
      obtain ⟨ns, a, f, h1, _⟩ := hT
      exact ⟨_, h1⟩
    obtain ⟨od, hd0⟩ := hd0
    have ndL : d ≠ L := ne_of_none hd0 nL
    have hl0 : ∃ o, H l = some o := by
      obtain ⟨ns, a, f, _, h1, _⟩ := hT
      exact ⟨_, h1⟩
    obtain ⟨ol, hl0⟩ := hl0
    have nlL : l ≠ L := ne_of_none hl0 nL
    have nlG : l ≠ G := ne_of_none hl0 nG0
    have ndG : d ≠ G := ne_of_none hd0 nG0
    refine ⟨fun m σ H' => ∃ xs ys : List Str, m = xs.length ∧ σ = [some (.ref d), some (.ref p), some (.ref L), some (.ref G)] ∧ (xs ++ ys).Perm ks ∧ Tape H' d l (n + ys.length) ∧ H' L = some (.lst (xs.map V.str)) ∧ H' G = some (.lst (ys.map V.str)) ∧ But d H H',
      ⟨_, ks, [], rfl, rfl, by rw [List.append_nil], (hT.same (same_new (same_new (fun _ _ z => z) nL) nG)), (upd_ne nLG).trans upd_same, upd_same, Same.but (same_new (same_new (fun _ _ z => z) nL) nG) d⟩, fun m σ H1 hW => ?_⟩
    obtain ⟨xs, ys, rfl, rfl, hpm, hT1, hL, hG, hb⟩ := hW
    have lens : xs.length + ys.length = ks.length := by rw [← List.length_append]; exact hpm.length_eq
    refine ⟨_, rfl, Nat.zero_le _, fun e ne => ⟨L, e, xs.map V.str, rfl, rfl, (upd_ne (ne_of_none hL ne)).trans hL, upd_same, _, rfl, ?_⟩⟩
    have s1 : Same H1 (upd H1 e (.lst [])) := same_new (fun _ _ z => z) ne
    cases xs with
    | nil =>
      have hq : (!(List.map V.str []).isEmpty) = false := rfl
      rw [hq]
      refine iteF ⟨_, rfl, q _ G ys (hb.trans (Same.but s1 d)) (hT1.same s1 |> fun t => by
        have e2 : ys.length = ks.length := by simpa using lens
        rw [e2] at t
        exact t) nG0 (s1 _ _ hG) (by simpa using hpm)⟩
    | cons x xs =>
      have hq : (!(List.map V.str (x :: xs)).isEmpty) = true := rfl
      rw [hq]
      refine iteT ?_
      have hL1 := s1 _ _ hL
      have hG1 := s1 _ _ hG
      have lp : (List.map V.str (x :: xs)).length = xs.length + 1 := by rw [List.length_map]; rfl
      refine ⟨fun σ' H' => ∃ xs' ys' : List Str, xs.length = xs'.length ∧ σ' = [some (.ref d), some (.ref p), some (.ref L), some (.ref G)] ∧ (xs' ++ ys').Perm ks ∧ Tape H' d l (n + ys'.length) ∧ H' L = some (.lst (xs'.map V.str)) ∧ H' G = some (.lst (ys'.map V.str)) ∧ But d H H',
        fun σ' H' ⟨xs', ys', h1, h2⟩ => ⟨xs.length, Nat.lt_succ_self _, xs', ys', h1, h2⟩, ?_⟩
      have lens' : xs.length + 1 + ys.length = ks.length := by simpa using lens
      refine ⟨_, rfl, .inl ⟨rfl, _, SqL.of hG1⟩, _, rfl, .inl ⟨rfl, _, SqL.of hL1⟩, _, rfl, _, rfl, L, _, rfl, .inl (SqL.of hL1), d, l, n + ys.length, _, rfl, hT1.same s1, by omega, by rw [lp]; omega, by rw [lp]; omega, fun H2 r b2 t2 r0 r1 => ?_⟩
      rw [lp] at r1
      obtain ⟨j, rfl⟩ : ∃ j : Nat, r = (j : Int) := ⟨r.toNat, by omega⟩
      have hj : j < (x :: xs).length := by simp only [List.length_cons]; omega
      have hL2 := b2 _ _ ndL.symm hL1
      have hG2 := b2 _ _ ndG.symm hG1
      have g1 : (List.map V.str (x :: xs))[j]? = some (.str (x :: xs)[j]) := by rw [List.getElem?_map, List.getElem?_eq_getElem hj]; rfl
      refine ⟨L, _, _, j, _, rfl, rfl, hL2, by omega, by omega, by rw [seqIndex_of (by omega) (by rw [lp]; omega)]; simp, g1, ?_⟩
      refine ⟨G, _, _, rfl, rfl, (upd_ne nLG.symm).trans hG2, small1000 (by rw [List.length_map]; omega), (x :: xs).eraseIdx j, ys ++ [(x :: xs)[j]], ?_, rfl, ?_, ?_, ?_, ?_, ?_⟩
      · rw [List.length_eraseIdx, if_pos hj]
        simp
      · refine List.Perm.trans ?_ hpm
        have z := erase_perm (x :: xs) j hj
        have z2 : ((x :: xs).eraseIdx j ++ (ys ++ [(x :: xs)[j]])).Perm ((x :: xs)[j] :: (x :: xs).eraseIdx j ++ ys) := by
          rw [← List.append_assoc]
          exact List.perm_append_comm.trans (by simp)
        exact z2.trans (List.Perm.append_right ys z)
      · rw [List.length_append]
        obtain ⟨ms, a, f', h1, h2, h3⟩ := t2
        exact ⟨ms, a, f', by rw [upd_ne ndG, upd_ne ndL]; exact h1, by rw [upd_ne nlG, upd_ne nlL]; exact h2, h3⟩
      · rw [upd_ne nLG, upd_same, erase_map]
      · rw [upd_same, List.map_append]
        rfl
      · intro b o hb0 ho
        have h2 := b2 _ _ hb0 (s1 _ _ (hb b o hb0 ho))
        rw [upd_ne (ne_of_none ho nG0), upd_ne (ne_of_none ho nL)]
        exact h2
end
end Toy


namespace Toy
open PySem PySem.Spec L2 PyProof.Rows PySem.W
/-! ### drawing: texts, leaves, what a leaf is written as -/
abbrev sSt : Stmt := top 45
abbrev sLe : Stmt := top 46
abbrev sLp : Stmt := top 48
abbrev NSt : List Str := ["_law_tape", "_law_signs", "_law_k"]
abbrev NLe : List Str := ["_law_tape", "_law_way", "_law_number"]
abbrev NLp : List Str := ["_law_leaf_here", "_law_signs", "_law_sign"]
theorem scSt : FnScope NSt ["_law_tape"] (defScope sSt) := ⟨rfl, rfl, rfl, by decide +kernel, rfl, by decide +kernel, by decide +kernel⟩
theorem scLe : FnScope NLe ["_law_tape"] (defScope sLe) := ⟨rfl, rfl, rfl, by decide +kernel, rfl, by decide +kernel, by decide +kernel⟩
theorem scLp : FnScope NLp ["_law_leaf_here"] (defScope sLp) := ⟨rfl, rfl, rfl, by decide +kernel, rfl, by decide +kernel, by decide +kernel⟩
theorem After.put {d l D : Addr} {n k : Nat} {H H1 : Hp} {u : HO} (a : After d l n k H H1) (nD : H D = none) (hT : Tape H d l n) : After d l n k H (upd H1 D u) := by
  obtain ⟨⟨o1, h1⟩, o2, h2⟩ := hT.at
  exact ⟨fun b o hb e => (upd_ne (ne_of_none e nD)).trans (a.1 b o hb e), a.2.upd (ne_of_none h1 nD) (ne_of_none h2 nD)⟩
theorem After.draw {d l : Addr} {n k j : Nat} {H H1 H2 : Hp} (a : After d l n k H H1) (b : But d H1 H2) (t : Tape H2 d l (n + k + j)) : After d l n (k + j) H H2 := ⟨a.1.trans b, by rw [← Nat.add_assoc]; exact t⟩
theorem After.dom {d l : Addr} {n k : Nat} {H H1 : Hp} (a : After d l n k H H1) : ∀ c, H1 c = none → H c = none := fun c e => by
  refine but_dom a.1 ?_ c e
  exact a.2.at.1
def spSt : Sp := fun vs H Q _ => ∃ (d l : Addr) (n : Nat), vs = [.ref d] ∧ Tape H d l n ∧ n ≤ 900000 ∧ ∀ H' z, After d l n 5 H H' → z.length ≤ 4 → leafT z = true → Q (.str z) H'
theorem leafT_of {z : Str} (h : z.length ≤ 200) (hp : ∀ c ∈ z.cps.toList, (32 ≤ c ∧ c ≤ 126) ∧ c ≠ 37) : leafT z = true := by
  unfold leafT
  rw [Bool.and_eq_true, decide_eq_true_eq, List.all_eq_true]
  exact ⟨h, fun c hc => by rw [Bool.and_eq_true, decide_eq_true_eq, decide_eq_true_eq]; exact hp c hc⟩
/-- a drawn leaf -/
def LfE (v : V) : Prop := ∃ t, LfOf t v ∧ Gd 1 t ∧ StL 4 1 t
theorem LfE.non : LfE .non := ⟨.non, rfl, trivial, trivial⟩
theorem LfE.bl (b : Bool) : LfE (.bl b) := ⟨.bl b, rfl, trivial, trivial⟩
theorem LfE.int (i : Int) (h : i.natAbs ≤ 10 ^ 30) : LfE (.int i) := ⟨.int i, ⟨rfl, h⟩, h, trivial⟩
theorem LfE.str (z : Str) (h : z.length ≤ 4) (hp : leafT z = true) : LfE (.str z) := ⟨.str z, ⟨rfl, by omega⟩, hp, h⟩
def spLe : Sp := fun vs H Q _ => ∃ (d l : Addr) (n : Nat), vs = [.ref d] ∧ Tape H d l n ∧ n ≤ 800000 ∧ ∀ H' v, After d l n 8 H H' → LfE v → Q v H'
def spLp : Sp := fun vs H Q _ => ∃ (v : V) (t : D), vs = [v] ∧ LfOf t v ∧ ∀ H', Same H H' → Q (.str (lfS t)) H'
theorem joinL_flat : ∀ ys : List (List Nat), TL.joinL [] ys = ys.flatten
  | [] => rfl
  | [y] => by simp [TL.joinL]
  | y :: z :: r => by
    have ih := joinL_flat (z :: r)
    simp only [TL.joinL, List.flatten_cons] at ih ⊢
    simp_all
section
variable {P : Program} {w : World} {K : PySem.W.Frag} {mg : Str → Option Value} {base : Heap}
theorem ok_st {f fD fP : Addr} {fd fdD fdP : FuncData} (F : Fun K "_law_string" "_law_string" sSt f fd) (GD : FnOk P w K mg base CX0 1 fD fdD ["_law_tape", "_law_many"] spDraw) (mD : mg "_law_draw" = some (.ref fD)) (kD : PySem.W.keepIn K (.ref fD) = true) (bD : Binds K fdD ["_law_tape", "_law_many"] [])
    (GP : FnOk P w K mg base CX0 2 fP fdP ["_law_tape", "_law_items"] spPickS) (mP : mg "_law_pick" = some (.ref fP)) (kP : PySem.W.keepIn K (.ref fP) = true) (bP : Binds K fdP ["_law_tape", "_law_items"] []) (mRange : mg "range" = none) : FnOk P w K mg base CX0 3 f fd ["_law_tape"] spSt := by
  refine F.ok (k := 2) scSt (fun vs H Q E h => ?_) (fun cdv A outer s H vs Q E hr h => ?_)
  · obtain ⟨d, l, n, rfl, _⟩ := h
    rfl
  · obtain ⟨d, l, n, rfl, hT, hn, q⟩ := h
    have hr1 := hr.mono (show 1 ≤ 2 by decide)
    refine ⟨_, pss_cons (ps_set (i := 1) scSt.nd rfl (Or.inr rfl) pe_str)
      (pss_one (ps_ret (pe_bm PySem.F.plainAttrs_str PySem.F.slot_str_join PySem.F.type_str_join mt_join pe_str
          (pa_cons (pe_lc (own := [("_law_k", 2)]) (g := gName 2) (by rfl) scSt.nd (pi_range1 (by rfl) mRange (pa_cons (pe_call GD hr1 (by rfl) mD kD bD .nil pass0 (pa_cons (pv 0) (pa_cons pe_int pa_nil))) pa_nil))
            (blkOk_by (own := [("_law_k", 2)]) (N := NSt) (sc := defScope sSt) (by decide +kernel)) (fun _ _ _ _ _ => pg_name (i := 2) scSt.nd rfl (Or.inl rfl)) (fun _ _ _ _ _ => pts_nil)
            (fun _ _ _ _ _ => pe_call GP hr (by rfl) mP kP bP .nil pass0 (pa_cons (pv 0) (pa_cons (pv 1) pa_nil)))) pa_nil)))), ?_⟩
    refine asg_run ?_
    refine ret_run ⟨rfl, _, rfl, d, l, n, 5, rfl, hT, by omega, by decide, by decide, fun H1 r b1 t1 r0 r5 => ?_⟩
    have a1 : After d l n 1 H H1 := ⟨b1, t1⟩
    refine ⟨r, rfl, by omega, by omega, fun D nD => ?_⟩
    have nD0 := a1.dom D nD
    have hpr : ∀ c ∈ ("  \"\"\\\\abz#.$'(){}|,:;+-*=<09~" : Str).cps.toList, (32 ≤ c ∧ c ≤ 126) ∧ c ≠ 37 := by decide +kernel
    refine lc_range (lo := 0) (n := r.toNat) (fun i H' => ∃ cs : List Nat, H' D = some (.lst (cs.map fun c => V.str (sg c))) ∧ cs.length = i ∧ (∀ c ∈ cs, (32 ≤ c ∧ c ≤ 126) ∧ c ≠ 37) ∧ After d l n (1 + i) H H') ⟨[], upd_same, rfl, (fun c hc => by cases hc), a1.put nD0 hT⟩ ?_ ?_
    · rintro i H' hi ⟨cs, hD, hlc, hp, a⟩
      refine ⟨rfl, _, rfl, _, rfl, d, l, n + (1 + i), _, rfl, a.2, by omega, by decide +kernel, by decide +kernel, fun H2 c b t hc => ?_⟩
      have hD2 : H2 D = some (.lst (cs.map fun c => V.str (sg c))) := b _ _ (tape_ne a.2 hD) hD
      refine ⟨_, hD2, by rw [List.length_map]; exact lines (by omega), cs ++ [c], by rw [upd_same, List.map_append]; rfl, by rw [List.length_append, hlc]; rfl, fun e he => ?_, ?_⟩
      · rw [List.mem_append, List.mem_singleton] at he
        rcases he with he | rfl
        · exact hp e he
        · exact hpr _ hc
      · have a2 : After d l n (1 + i + 1) H H2 := a.draw b t
        exact a2.put nD0 hT
    · rintro H' ⟨cs, hD, hlc, hp, a⟩
      have h5 : r.toNat ≤ 4 := by omega
      have ej : Txt.join ("" : Str) (cs.map sg) = told cs := rfl
      refine ⟨_, D, cs.map sg, rfl, rfl, .inl (SqL.of (by rw [List.map_map]; exact hD)), ?_, ?_⟩
      · rw [sum_ones, List.length_map]
        have e0 : ("" : Str).length = 0 := rfl
        rw [e0]
        omega
      rw [ej, told_eq]
      refine q H' _ (a.more (by omega)) (by show cs.toArray.size ≤ 4; rw [List.size_toArray]; omega) (leafT_of (by show cs.toArray.size ≤ 200; rw [List.size_toArray]; omega) fun c hc => hp c (by simpa using hc))
theorem ok_le {f fD fP fS : Addr} {fd fdD fdP fdS : FuncData} (F : Fun K "_law_leaf" "_law_leaf" sLe f fd) (GD : FnOk P w K mg base CX0 1 fD fdD ["_law_tape", "_law_many"] spDraw) (mD : mg "_law_draw" = some (.ref fD)) (kD : PySem.W.keepIn K (.ref fD) = true) (bD : Binds K fdD ["_law_tape", "_law_many"] [])
    (GP : FnOk P w K mg base CX0 2 fP fdP ["_law_tape", "_law_items"] spPick) (mP : mg "_law_pick" = some (.ref fP)) (kP : PySem.W.keepIn K (.ref fP) = true) (bP : Binds K fdP ["_law_tape", "_law_items"] [])
    (GS : FnOk P w K mg base CX0 3 fS fdS ["_law_tape"] spSt) (mS : mg "_law_string" = some (.ref fS)) (kS : PySem.W.keepIn K (.ref fS) = true) (bS : Binds K fdS ["_law_tape"] []) : FnOk P w K mg base CX0 4 f fd ["_law_tape"] spLe := by
  refine F.ok (k := 3) scLe (fun vs H Q E h => ?_) (fun cdv A outer s H vs Q E hr h => ?_)
  · obtain ⟨d, l, n, rfl, _⟩ := h
    rfl
  · obtain ⟨d, l, n, rfl, hT, hn, q⟩ := h
    have hr1 := hr.mono (show 1 ≤ 3 by decide)
    have hr2 := hr.mono (show 2 ≤ 3 by decide)
    refine ⟨_, pss_cons (ps_set (i := 1) scLe.nd rfl (Or.inl rfl) (pe_call GD hr1 (by rfl) mD kD bD .nil pass0 (pa_cons (pv 0) (pa_cons pe_int pa_nil))))
      (pss_cons (ps_if (pt_cmpR op_lt (pv 1) pe_int (nomark _)) (pss_one (ps_ret (pe_ix ix_list (pe_lst (pa_cons pe_non (pa_cons pe_bl (pa_cons pe_bl pa_nil)))) (pv 1) (fun _ _ => rfl)))) pss_nil)
      (pss_cons (ps_set (i := 2) scLe.nd rfl (Or.inl rfl) (pe_call GP hr2 (by rfl) mP kP bP .nil pass0 (pa_cons (pv 0) (pa_cons (pe_lst (pa_cons pe_int (pa_cons pe_int (pa_cons (pe_un un_neg pe_int) (pa_cons pe_int (pa_cons (pe_op op_pow pe_int pe_int) (pa_cons (pe_un un_neg (pe_op op_pow pe_int pe_int)) (pa_cons (pe_op op_sub (pe_call GD hr1 (by rfl) mD kD bD .nil pass0 (pa_cons (pv 0) (pa_cons pe_int pa_nil))) pe_int) pa_nil)))))))) pa_nil))))
      (pss_one (ps_ret (pe_ifExp (pt_cmpR op_eq (pv 1) pe_int (nomark _)) (pe_call GS hr (by rfl) mS kS bS .nil pass0 (pa_cons (pv 0) pa_nil)) (pv 2)))))), ?_⟩
    refine asg_run ⟨_, rfl, d, l, n, 5, rfl, hT, by omega, by decide, by decide, fun H1 r b1 t1 r0 r5 => ?_⟩
    have a1 : After d l n 1 H H1 := ⟨b1, t1⟩
    dsimp only [gName]
    refine ifs_val (v := decide (r < 3)) (fun Q kk => ⟨_, rfl, _, _, rfl, rfl, _, rfl, kk⟩) (fun c => ?_) (fun c => nxt_run ?_)
    · have c := of_decide_eq_true c
      obtain ⟨j, rfl⟩ : ∃ j : Nat, r = (j : Int) := ⟨r.toNat, by omega⟩
      refine ret_run ⟨few (by show 3 ≤ 1000; decide), fun p np => ⟨_, rfl, p, [.non, .bl true, .bl false], (j : Int), ?_⟩⟩
      have a2 := (a1.same (same_new (u := .lst [.non, .bl true, .bl false]) same_id np)).more (show 1 ≤ 8 by decide)
      rcases (show j = 0 ∨ j = 1 ∨ j = 2 by omega) with rfl | rfl | rfl
      · exact ⟨.non, rfl, rfl, SqL.of upd_same, rfl, q _ _ a2 .non⟩
      · exact ⟨.bl true, rfl, rfl, SqL.of upd_same, rfl, q _ _ a2 (.bl _)⟩
      · exact ⟨.bl false, rfl, rfl, SqL.of upd_same, rfl, q _ _ a2 (.bl _)⟩
    · refine asg_run ⟨_, rfl, _, rfl, _, _, rfl, rfl, ⟨by decide, by decide, by decide⟩, _, _, rfl, rfl, ⟨by decide, by decide, by decide⟩, _, rfl, _, rfl, d, l, n + 1, 1000, rfl, a1.2, by omega, by decide, by decide, fun H2 r2 b2 t2 s0 s1 => ⟨_, _, rfl, rfl, few (by show 7 ≤ 1000; decide), fun p np => ?_⟩⟩
      have a2 : After d l n 2 H H2 := a1.draw b2 t2
      have s3 := same_new (u := .lst [V.int 0, V.int 1, V.int (-1), V.int 2, V.int (10 ^ 30), V.int (-(10 ^ 30)), V.int (r2 - 500)]) (same_id (H := H2)) np
      refine ⟨d, l, p, n + 2, [V.int 0, V.int 1, V.int (-1), V.int 2, V.int (10 ^ 30), V.int (-(10 ^ 30)), V.int (r2 - 500)], rfl, a2.2.same s3, by omega, upd_same, by simp, by show 7 < 1000000; decide, fun H3 v b3 t3 hv => ?_⟩
      have a3 : After d l n 3 H H3 := (a2.same s3).draw b3 t3
      have hlv : LfE v := by
        simp only [List.mem_cons, List.not_mem_nil, or_false] at hv
        rcases hv with e | e | e | e | e | e | e <;> rw [e]
        · exact .int _ (by decide)
        · exact .int _ (by decide)
        · exact .int _ (by decide)
        · exact .int _ (by decide)
        · exact .int _ (by decide)
        · exact .int _ (by decide)
        · exact .int _ (by omega)
      dsimp only [gName]
      refine ret_run ⟨_, rfl, rfl, _, rfl, ite2 (fun _ => ?_) (fun _ => ?_)⟩
      · exact ⟨_, rfl, d, l, n + 3, rfl, a3.2, by omega, fun H4 z a4 hz hp => q H4 (.str z) (a3.trans a4) (.str z hz hp)⟩
      · exact ⟨_, rfl, q H3 v (a3.more (by decide)) hlv⟩
theorem ok_lp {f : Addr} {fd : FuncData} (F : Fun K "_law_leaf_piece" "_law_leaf_piece" sLp f fd) (mI : mg "isinstance" = none) (mS : mg "str" = none) (mR : mg "repr" = none) : FnOk P w K mg base CX0 1 f fd ["_law_leaf_here"] spLp := by
  refine F.ok scLp (fun vs H Q E h => ?_) (fun cdv A outer s H vs Q E hr h => ?_)
  · obtain ⟨v, t, rfl, _⟩ := h
    rfl
  · obtain ⟨v, t, rfl, hv, q⟩ := h
    have hu' := hu_of hr
    refine ⟨_, pss_cons (ps_if (pt_val (pe_callB call_isi (by rfl) mI PyProof.Rows.boot_isinstance (pa_cons (pv 0) (pa_cons (pe_bltn (v := .ty "str") (by rfl) mS (by decide +kernel) rfl) pa_nil))))
        (pss_cons (ps_setLc (i := 1) (own := [("_law_sign", 2)]) (g := gName 2) (by rfl) scLp.nd rfl rfl (sw_true rfl rfl rfl (by decide +kernel)) (pi_str (pv 0))
            (blkOk_by (own := [("_law_sign", 2)]) (N := NLp) (sc := defScope sLp) (by decide +kernel)) (fun _ _ _ _ _ => pg_name (i := 2) scLp.nd rfl (Or.inl rfl)) (fun _ _ _ _ _ => pts_nil)
            (fun _ _ _ _ _ => pe_ifExp (pt_cmpR op_inS (pv 2) pe_str (by rfl)) (pe_op op_add_str pe_str (pv 2)) (pv 2)))
        (pss_one (ps_ret (pe_op op_add_str (pe_op op_add_str pe_str (pe_bm PySem.F.plainAttrs_str PySem.F.slot_str_join PySem.F.type_str_join mt_join pe_str (pa_cons (pv 1) pa_nil))) pe_str)))) pss_nil)
      (pss_one (ps_ret (pe_dget2 hu' (pe_disp (pps_cons pe_str pe_str (pps_cons pe_str pe_str (pps_cons pe_str pe_str pps_nil))) (by rfl) (by rfl) (fun z => by cases z) (by decide)) (pe_callB call_repF (by rfl) mR (by decide +kernel) (pa_cons (pv 0) pa_nil)) (pe_callB call_repF (by rfl) mR (by decide +kernel) (pa_cons (pv 0) pa_nil)) ⟨rfl, rfl, rfl, rfl⟩))), ?_⟩
    have nonstr : ∀ {u : PyData}, LfD v u → u.showable = true → u.shown.length ≤ 120 → (valV ([(Sum.inr "None", V.str "null"), (Sum.inr "True", V.str "yes"), (Sum.inr "False", V.str "no")] : List (Key × V)) (Sum.inr u.shown)).getD (V.str u.shown) = .str (lfS t) → (fun σ H' => tRet (tDGet2 (tDisp [(tC (V.str ("None" : Str)), tC (V.str ("null" : Str))), (tC (V.str ("True" : Str)), tC (V.str ("yes" : Str))), (tC (V.str ("False" : Str)), tC (V.str ("no" : Str)))]) (tCB rRepF (tCons (tVar 0) tNil)) (tCB rRepF (tCons (tVar 0) tNil))) { nx := fun x H' => Q V.non H', rt := Q } σ H') (L2.start NLp [v]) H := fun {u} hl hs hz he => by
      have hz2 := few (Nat.le_trans hz (by decide : 120 ≤ 1000))
      refine ret_run fun p np => ⟨upd_same, [(Sum.inr "None", V.str "null"), (Sum.inr "True", V.str "yes"), (Sum.inr "False", V.str "no")], rfl, by show 3 ≤ 15; decide, p, rfl, .inl ⟨_, .inl upd_same⟩, _, rfl, v, u, rfl, hl, hs, hz2, _, rfl, v, u, rfl, hl, hs, hz2, _, DGet.k (k := Sum.inr u.shown) upd_same, ?_⟩
      have sP : Same H (upd (upd H p (.dK [])) p (.dK (mergeK [] [(Sum.inr "None", V.str "null"), (Sum.inr "True", V.str "yes"), (Sum.inr "False", V.str "no")]))) := fun c o e => by
        rw [upd_ne (ne_of_none e np), upd_ne (ne_of_none e np)]
        exact e
      rw [merge_new _ _ (by decide +kernel), List.nil_append, he]
      exact q _ sP
    have nk : ∀ {i : Int} {s : Str} (c : Nat), c ∈ s.cps.toList → ¬ (c = 45 ∨ (48 ≤ c ∧ c ≤ 57)) → ¬ ((Sum.inr s : Key) = Sum.inr (PyData.int i).shown) := fun {i s} c hc hn e => by
      have e : s = numS i := Sum.inr.inj e
      rw [e, numS_list] at hc
      apply hn
      unfold numL at hc
      split at hc
      · rcases List.mem_cons.mp hc with z | z
        · exact .inl z
        · exact .inr (dgs_all _ c z)
      · exact .inr (dgs_all _ c hc)
    cases t with
    | lst _ => exact hv.elim
    | dct _ _ => exact hv.elim
    | non =>
      have hv : v = .non := hv
      subst hv
      refine ⟨_, rfl, _, _, _, _, false, rfl, .ty _, .base .non, kit_ty (by decide +kernel), _, rfl, iteF (nx_run ?_)⟩
      exact nonstr .non rfl (by decide +kernel) (by rw [valV_pos (show ((Sum.inr "None" : Key)) = Sum.inr PyData.none.shown from rfl)]; rfl)
    | bl b =>
      have hv : v = .bl b := hv
      subst hv
      refine ⟨_, rfl, _, _, _, _, false, rfl, .ty _, .base (.bl b), kit_ty (by decide +kernel), _, rfl, iteF (nx_run ?_)⟩
      refine nonstr (.bl b) rfl (by cases b <;> decide +kernel) ?_
      cases b with
      | true => rw [valV_neg (show ¬ ((Sum.inr "None" : Key)) = Sum.inr (PyData.bool true).shown by decide +kernel), valV_pos (show ((Sum.inr "True" : Key)) = Sum.inr (PyData.bool true).shown from rfl)]; rfl
      | false => rw [valV_neg (show ¬ ((Sum.inr "None" : Key)) = Sum.inr (PyData.bool false).shown by decide +kernel), valV_neg (show ¬ ((Sum.inr "True" : Key)) = Sum.inr (PyData.bool false).shown by decide +kernel), valV_pos (show ((Sum.inr "False" : Key)) = Sum.inr (PyData.bool false).shown from rfl)]; rfl
    | int i =>
      obtain ⟨hv, hi⟩ : v = .int i ∧ i.natAbs ≤ 10 ^ 30 := hv
      subst hv
      refine ⟨_, rfl, _, _, _, _, false, rfl, .ty _, .base (.int i), kit_ty (by decide +kernel), _, rfl, iteF (nx_run ?_)⟩
      refine nonstr (.int i) (decide_eq_true (Nat.lt_trans (log_small hi) (by decide))) ?_ ?_
      · have := int_text_length_le (a := i) (k := 100) (by decide) (log_small hi)
        exact Nat.le_trans (Nat.le_of_eq (PySem.ofString_length _)) (Nat.le_trans this (by decide))
      · rw [valV_neg (nk 78 (by decide +kernel) (by decide)), valV_neg (nk 84 (by decide +kernel) (by decide)), valV_neg (nk 70 (by decide +kernel) (by decide))]
        rfl
    | str z =>
      obtain ⟨hv, hz⟩ : v = .str z ∧ z.length ≤ 1000 := hv
      subst hv
      refine ⟨_, rfl, _, _, _, _, true, rfl, .ty _, .base (.str z), kit_ty (by decide +kernel), _, rfl, iteT ?_⟩
      have hzs : z.cps.size < sizeLine := lines (show z.cps.size ≤ 1000001 from Nat.le_trans hz (by decide))
      refine ⟨_, rfl, _, rfl, fun D nD => ?_⟩
      let g : Nat → Str := fun c => if decide (c ∈ ("\"\\" : Str).cps.toList) = true then ("\\" : Str) ++ sg c else sg c
      have gl : ∀ c, (g c).length ≤ 2 := fun c => by
        show (if decide (c ∈ ("\"\\" : Str).cps.toList) = true then ("\\" : Str) ++ sg c else sg c).length ≤ 2
        split
        · rw [len_app]
          show 1 + 1 ≤ 2
          decide
        · show 1 ≤ 2
          decide
      refine lc_map walk_str (fun i => V.str (g (sgA z i))) hzs nD (fun _ _ => trivial) (fun _ _ _ _ y => y.1) ?_ ?_
      · rintro i y H2 P1 hi s2 ⟨_, c3, hc, rfl⟩ h1
        have e := sgA_of hc
        rw [e] at h1
        refine ⟨rfl, _, rfl, c3, _, rfl, rfl, _, rfl, ?_⟩
        by_cases hm : decide (c3 ∈ ("\"\\" : Str).cps.toList) = true
        · have eg : g c3 = ("\\" : Str) ++ sg c3 := if_pos hm
          rw [eg] at h1
          rw [hm]
          exact iteT ⟨_, rfl, _, _, rfl, rfl, by show 1 + 1 ≤ sizeLine; decide, h1 _ same_id⟩
        · have eg : g c3 = sg c3 := if_neg hm
          rw [eg] at h1
          rw [Bool.not_eq_true] at hm
          rw [hm]
          exact iteF ⟨_, rfl, h1 _ same_id⟩
      · intro H2 s2 hD
        dsimp only [gName]
        have hL : ((List.range z.cps.size).map fun i => V.str (g (sgA z i))) = ((List.range z.cps.size).map fun i => g (sgA z i)).map V.str := by rw [List.map_map]; rfl
        rw [hL] at hD
        have hsz : z.cps.size ≤ 1000 := hz
        have h1 := join_len "" ((List.range z.cps.size).map fun i => g (sgA z i))
        have h2 : ((((List.range z.cps.size).map fun i => g (sgA z i)).map fun y => y.length + (("" : Str)).length)).sum ≤ 2000 := by
          rw [List.map_map]
          have := sum_le (l := List.range z.cps.size) (f := (fun y : Str => y.length + (("" : Str)).length) ∘ fun i => g (sgA z i)) (g := fun _ => 2) (fun i _ => gl _)
          have e3 : ((List.range z.cps.size).map fun _ => 2).sum = 2 * z.cps.size := by
            rw [List.map_const', List.sum_replicate_nat, List.length_range]
            omega
          omega
        refine ⟨rfl, _, rfl, _, D, (List.range z.cps.size).map fun i => g (sgA z i), rfl, rfl, .inl (SqL.of hD), ?_, _, _, rfl, rfl, ?_, _, _, rfl, rfl, ?_, ?_⟩
        · show _ + _ * 0 ≤ _
          have : (((List.range z.cps.size).map fun i => g (sgA z i)).map (·.length)).sum ≤ 2000 := h2
          omega
        · have e1 : (("\"" : Str)).length = 1 := rfl
          have : sizeLine = 16777216 := by decide
          omega
        · have e1 : (("\"" : Str)).length = 1 := rfl
          have : sizeLine = 16777216 := by decide
          rw [len_app]
          omega
        · have er : (List.range z.cps.size).map (fun i => g (sgA z i)) = z.cps.toList.map g := by
            have zz := range_map (fun i => g (sgA z i)) (z.cps.toList.map g) (fun i hi => by
              rw [List.getElem_map]
              have hi2 : i < z.cps.size := by simpa using hi
              have : sgA z i = z.cps.toList[i]'(by simpa using hi2) := sgA_of (by rw [Array.getElem?_eq_getElem hi2, Array.getElem_toList])
              rw [this])
            rw [List.length_map, Array.length_toList] at zz
            exact zz
          have es : ("\"" ++ Txt.join "" ((List.range z.cps.size).map fun i => g (sgA z i))) ++ "\"" = escS z := by
            refine str_ext ?_
            have el : ∀ a b : Str, (a ++ b).cps.toList = a.cps.toList ++ b.cps.toList := fun a b => Array.toList_append
            rw [el, el, join_list, er, List.map_map, escS_list]
            have ej : ∀ ys : List (List Nat), TL.joinL ("" : Str).cps.toList ys = ys.flatten := fun ys => joinL_flat ys
            rw [ej, ← List.flatMap_def]
            have eg : ∀ c, (g c).cps.toList = escC c := fun c => by
              show (if decide (c ∈ ("\"\\" : Str).cps.toList) = true then ("\\" : Str) ++ sg c else sg c).cps.toList = _
              rw [show ("\"\\" : Str).cps.toList = [34, 92] by decide +kernel]
              unfold escC
              by_cases h : c = 34 ∨ c = 92
              · rw [if_pos h, if_pos (decide_eq_true (by simpa using h)), el]
                rfl
              · rw [if_neg h, if_neg (by rw [decide_eq_true_eq]; simpa using h)]
                rfl
            rw [show (fun y : Str => y.cps.toList) ∘ g = escC from funext eg]
            rfl
          rw [es]
          exact q _ s2
end
end Toy


namespace Toy
open PySem PySem.Spec L2 PyProof.Rows PySem.W
/-! ### drawing: rows of texts joined -/
abbrev sRow : Stmt := top 47
abbrev NRow : List Str := ["_law_rows", "_law_found", "_law_own"]
theorem scRow : FnScope NRow ["_law_rows"] (defScope sRow) := ⟨rfl, rfl, rfl, by decide +kernel, rfl, by decide +kernel, by decide +kernel⟩
def spRow : Sp := fun vs H Q _ => ∃ (a : Addr) (rs : List V) (yss : List (List Str)), vs = [.ref a] ∧ H a = some (.lst rs) ∧ Paired (RowAt H) rs yss ∧ (yss.map fun ys => ys.length + 1).sum ≤ 1000000 ∧
  ∀ H' r, Same H H' → TxL H' r (rowS yss) → Q (.ref r) H'
theorem cut_from1 (xs : List V) : cutV xs (some 1) none = xs.drop 1 := by
  unfold cutV
  rw [show HT.sIx xs.length 0 (some (1 : Int)) = min 1 xs.length from HT.sIx_nat _ _ 1, HT.sIx_none]
  cases xs with
  | nil => rfl
  | cons x xs =>
    rw [List.length_cons, Nat.min_eq_left (by omega)]
    rw [List.take_of_length_le (by simp)]
section
variable {P : Program} {w : World} {K : PySem.W.Frag} {mg : Str → Option Value} {base : Heap}
theorem ok_row {f : Addr} {fd : FuncData} (F : Fun K "_law_row" "_law_row" sRow f fd) : FnOk P w K mg base CX0 1 f fd ["_law_rows"] spRow := by
  refine F.ok scRow (fun vs H Q E h => ?_) (fun cdv A outer s H vs Q E hr h => ?_)
  · obtain ⟨a, rs, yss, rfl, _⟩ := h
    rfl
  · obtain ⟨a, rs, yss, rfl, ha, hp, hsum, q⟩ := h
    refine ⟨_, pss_cons (ps_set (i := 1) scRow.nd rfl (Or.inl rfl) (pe_ifExp (pt_cmpR (op_neE hr.units) (pv 0) (pe_lst pa_nil) (nomark _)) (pe_ix ix_list (pv 0) pe_int (fun _ _ => rfl)) (pe_lst pa_nil)))
      (pss_cons (ps_for PassesOwn.never rfl (pi_list (pe_slice sl_list (pv 0) (po_some pe_int) po_none)) (pg_name (i := 2) scRow.nd rfl (Or.inl rfl))
        (pss_one (ps_set (i := 1) scRow.nd rfl (Or.inl rfl) (pe_op op_cat (pe_op op_cat (pv 1) (pe_lst (pa_cons pe_str pa_nil))) (pv 2)))))
      (pss_one (ps_ret (pv 1)))), ?_⟩
    have hlen : rs.length = yss.length := paired_len hp
    refine asg_run ⟨_, rfl, few (by show 0 ≤ 1000; decide), fun Em nE => ⟨a, Em, rs, rfl, rfl, (upd_ne (ne_of_none ha nE)).trans ha, upd_same, _, rfl, ?_⟩⟩
    have s0 : Same H (upd H Em (.lst [])) := same_new same_id nE
    generalize upd H Em (.lst []) = H0 at s0 ⊢
    have ha0 := s0 _ _ ha
    have rest : ∀ (H1 : Hp) (r : Addr), Same H H1 → TxL H1 r (rowS (yss.take 1)) → tSeq (tFor (iList K (tSl (rSlL K) (tVar 0) (tPart (tC (V.int 1))) tNoPart)) (gName 2) (tAsg (tOp rCat (tOp rCat (tVar 1) (tLst (tCons (tC (V.str (";" : Str))) tNil))) (tVar 2)) (gName 1))) (tRet (tVar 1)) { nx := fun x H' => Q V.non H', rt := Q } [some (.ref a), some (.ref r), none] H1 := by
      intro H1 r s1 hr1
      refine ⟨_, rfl, _, rfl, a, rs, rfl, SqL.of (s1 _ _ ha), fun p np => ?_⟩
      rw [cut_from1]
      have s2 : Same H1 (upd H1 p (.lst (rs.drop 1))) := same_new same_id np
      have hp2 : (upd H1 p (.lst (rs.drop 1))) p = some (.lst (rs.drop 1)) := upd_same
      generalize upd H1 p (.lst (rs.drop 1)) = H2 at s2 hp2 ⊢
      refine ⟨p, rfl, ⟨_, SqL.of hp2⟩, ?_⟩
      refine for_list (K := K) (a := p) (xs := rs.drop 1) (fun i σ H' => ∃ (r : Addr) (o : Option V), σ = [some (.ref a), some (.ref r), o] ∧ Same H2 H' ∧ TxL H' r (rowS (yss.take (i + 1))))
        ⟨r, none, rfl, same_id, s2 _ _ hr1⟩ ?_ ?_ ?_
      · rintro i σ H' _ ⟨_, _, _, s, _⟩
        exact SqL.of (s _ _ hp2)
      · rintro i x σ H' hx ⟨r, o, rfl, s3, hr3⟩
        rw [List.getElem?_drop] at hx
        obtain ⟨ys, hy, p', rfl, hp'⟩ := paired_get hp hx
        have hmem := List.mem_of_getElem? hy
        have hi := (List.getElem?_eq_some_iff.mp hy).1
        have e16 : sizeLine = 16777216 := by decide
        have e : yss.take (i + 1 + 1) = yss.take (i + 1) ++ [ys] := by
          rw [List.take_add_one, show yss[i + 1]? = some ys by rw [← hy, Nat.add_comm]]
          rfl
        have hne : yss.take (i + 1) ≠ [] := fun z => by
          have := congrArg List.length z
          rw [List.length_take, List.length_nil] at this
          omega
        have hz : (rowS (yss.take (i + 1))).length + ys.length + 1 ≤ 1000000 := by
          have h1 := rowS_len (yss.take (i + 1))
          have h2 := take_sum (f := fun ys => ys.length + 1) yss (i + 1 + 1)
          rw [e, List.map_append, List.sum_append] at h2
          simp only [List.map_cons, List.map_nil, List.sum_cons, List.sum_nil] at h2
          omega
        have es := rowS_snoc (y := ys) hne
        rw [← e] at es
        generalize rowS (yss.take (i + 1)) = zs at hr3 hz es
        refine ⟨_, rfl, few (by show 1 ≤ 1000; decide), fun p1 n1 => ⟨r, p1, zs.map V.str, [.str ";"], rfl, rfl, (upd_ne (ne_of_none hr3 n1)).trans hr3, upd_same, by rw [List.length_map]; show zs.length + 1 ≤ _; omega, fun p2 n2 => ?_⟩⟩
        have s4 : Same H' (upd (upd H' p1 (.lst [V.str ";"])) p2 (.lst (zs.map V.str ++ [V.str ";"]))) := same_new (same_new same_id n1) n2
        have hp4 : (upd (upd H' p1 (.lst [V.str ";"])) p2 (.lst (zs.map V.str ++ [V.str ";"]))) p2 = some (.lst (zs.map V.str ++ [V.str ";"])) := upd_same
        generalize upd (upd H' p1 (.lst [V.str ";"])) p2 (.lst (zs.map V.str ++ [V.str ";"])) = H4 at s4 hp4 ⊢
        have hpy : H4 p' = some (.lst (ys.map V.str)) := s4 _ _ (s3 _ _ (s2 _ _ (s1 _ _ hp')))
        refine ⟨_, rfl, p2, p', _, _, rfl, rfl, hp4, hpy, by rw [List.length_append, List.length_map, List.length_map]; show zs.length + 1 + ys.length ≤ _; omega, fun p3 n3 => ?_⟩
        refine ⟨p3, _, rfl, s3.trans (s4.trans (same_new same_id n3)), ?_⟩
        unfold TxL
        rw [upd_same, es, List.map_append, List.map_cons, List.append_assoc]
        rfl
      · rintro σ H' ⟨r, o, rfl, s3, hr3⟩
        dsimp only
        refine ret_run ⟨_, rfl, q H' r ((s1.trans s2).trans s3) ?_⟩
        rw [List.length_drop, paired_len hp] at hr3
        rw [List.take_of_length_le (by omega)] at hr3
        exact hr3
    cases rs with
    | nil =>
      cases hp
      refine iteF ⟨few (by show 0 ≤ 1000; decide), fun p np => ?_⟩
      exact rest _ p (s0.trans (same_new same_id np)) upd_same
    | cons x rs =>
      cases hp with
      | cons h1 h2 =>
        rename_i ys yss
        obtain ⟨p, rfl, hpp⟩ := h1
        refine iteT ⟨_, rfl, a, _, _, .ref p, rfl, rfl, SqL.of ha0, atI_nat (j := 0) rfl, ?_⟩
        refine rest H0 p s0 ?_
        rw [show (ys :: yss).take 1 = [ys] from rfl, rowS_one]
        exact s0 _ _ hpp
end
end Toy


namespace Toy
open PySem PySem.Spec L2 PyProof.Rows PySem.W
/-! ### drawing: data -/
abbrev sDt : Stmt := top 49
abbrev NDt : List Str := ["_law_tape", "_law_deep", "_law_way", "_law_keys", "_law_k", "_law_key"]
theorem scDt : FnScope NDt ["_law_tape", "_law_deep"] (defScope sDt) := ⟨rfl, rfl, rfl, by decide +kernel, rfl, by decide +kernel, by decide +kernel⟩
/-- dicts are small -/
def Sm : Nat → D → Prop
  | n + 1, .lst ds => ∀ d ∈ ds, Sm n d
  | n + 1, .dct ks ds => ks.length ≤ 20 ∧ ∀ d ∈ ds, Sm n d
  | _, _ => True
def bn : Nat → Nat
  | 0 => 1
  | m + 1 => 1 + 3 * bn m
/-- what is asked of an item, but where it stands -/
structure Fit (c n b : Nat) (t : D) : Prop where
  g : Gd n t
  s : StL c n t
  m : Sm n t
  p : npN n t ≤ b
theorem fit_up {c : Nat} : ∀ (n : Nat) (t : D) , Gd n t → Gd (n + 1) t ∧ npN (n + 1) t = npN n t ∧ (StL c n t → StL c (n + 1) t) ∧ (Sm n t → Sm (n + 1) t) := by
  intro n
  induction n with
  | zero => intro t h; cases t <;> exact h.elim
  | succ n ih =>
    intro t h
    cases t with
    | non => exact ⟨trivial, rfl, id, id⟩
    | bl b => exact ⟨trivial, rfl, id, id⟩
    | int i => exact ⟨h, rfl, id, id⟩
    | str x => exact ⟨h, rfl, id, id⟩
    | lst ds =>
      have h : ∀ d ∈ ds, Gd n d := h
      refine ⟨fun d hd => (ih d (h d hd)).1, ?_, fun s d hd => (ih d (h d hd)).2.2.1 (s d hd), fun s d hd => (ih d (h d hd)).2.2.2 (s d hd)⟩
      show 1 + (ds.map (npN (n + 1))).sum = 1 + (ds.map (npN n)).sum
      rw [List.map_congr_left fun d hd => (ih d (h d hd)).2.1]
    | dct ks ds =>
      obtain ⟨h1, h2, h3, h⟩ := h
      refine ⟨⟨h1, h2, h3, fun d hd => (ih d (h d hd)).1⟩, ?_, fun s d hd => (ih d (h d hd)).2.2.1 (s d hd), fun s => ⟨s.1, fun d hd => (ih d (h d hd)).2.2.2 (s.2 d hd)⟩⟩
      show 1 + (ds.map (npN (n + 1))).sum = 1 + (ds.map (npN n)).sum
      rw [List.map_congr_left fun d hd => (ih d (h d hd)).2.1]
theorem Fit.up {c n b : Nat} {t : D} (h : Fit c n b t) : Fit c (n + 1) b t := by
  obtain ⟨a1, a2, a3, a4⟩ := fit_up (c := c) n t h.g
  exact ⟨a1, a3 h.s, a4 h.m, by rw [a2]; exact h.p⟩
theorem Fit.to {c n b : Nat} {t : D} (h : Fit c n b t) : ∀ k, Fit c (n + k) b t
  | 0 => h
  | k + 1 => (h.to k).up
/-- a drawn datum -/
def Dr (m : Nat) (H : Hp) (v : V) : Prop := ∃ t, Dv (m + 1) H v t ∧ Fit 4 (m + 1) (bn m) t
theorem bn_pos : ∀ m, 1 ≤ bn m
  | 0 => Nat.le_refl _
  | m + 1 => by show 1 ≤ 1 + 3 * bn m; omega
theorem Dr.leaf {v : V} (h : LfE v) (m : Nat) (H : Hp) : Dr m H v := by
  obtain ⟨t, h1, h2, h3⟩ := h
  have hb := bn_pos m
  cases t with
  | lst _ => exact h1.elim
  | dct _ _ => exact h1.elim
  | non =>
    have h1 : v = .non := h1
    exact ⟨.non, by simpa [Dv] using h1, trivial, trivial, trivial, hb⟩
  | bl b =>
    have h1 : v = .bl b := h1
    exact ⟨.bl b, by simpa [Dv] using h1, trivial, trivial, trivial, hb⟩
  | int i => exact ⟨.int i, by simpa [Dv] using h1.1, h2, trivial, trivial, hb⟩
  | str x => exact ⟨.str x, by simpa [Dv] using h1.1, h2, h3, trivial, hb⟩
theorem Dr.mono {H H' : Hp} (s : ∀ b o, H b = some o → H' b = some o) {n : Nat} {v : V} (h : Dr n H v) : Dr n H' v := by
  obtain ⟨t, h1, h2⟩ := h
  exact ⟨t, h1.mono (fun b o _ e => s b o e) (Nat.le_refl _), h2⟩
theorem gather_dr {m : Nat} {H : Hp} : ∀ {xs : List V}, (∀ x ∈ xs, Dr m H x) → ∃ ds, Paired (fun x d => Dv (m + 1) H x d) xs ds ∧ ds.length = xs.length ∧ ∀ d ∈ ds, Fit 4 (m + 1) (bn m) d
  | [], _ => ⟨[], .nil, rfl, fun d h => by cases h⟩
  | x :: xs, h => by
    obtain ⟨ds, h1, h2, h3⟩ := gather_dr fun y hy => h y (List.mem_cons_of_mem _ hy)
    obtain ⟨t, a1, a2⟩ := h x List.mem_cons_self
    refine ⟨t :: ds, .cons a1 h1, by rw [List.length_cons, List.length_cons, h2], fun d hd => ?_⟩
    rcases List.mem_cons.mp hd with rfl | hd
    · exact a2
    · exact h3 d hd
theorem np_three {m : Nat} {ds : List D} (h : ds.length ≤ 3) (hd : ∀ d ∈ ds, Fit 4 (m + 1) (bn m) d) : 1 + (ds.map (npN (m + 1))).sum ≤ bn (m + 1) := by
  have h1 := sum_le (l := ds) (f := npN (m + 1)) (g := fun _ => bn m) fun d hdm => (hd d hdm).p
  have h2 : (ds.map fun _ => bn m).sum = ds.length * bn m := by
    rw [List.map_const', List.sum_replicate_nat]
  have h3 : ds.length * bn m ≤ 3 * bn m := Nat.mul_le_mul_right _ h
  show _ ≤ 1 + 3 * bn m
  omega
theorem Dr.lst {m : Nat} {H : Hp} {a : Addr} {xs : List V} (ha : H a = some (.lst xs)) (h3 : xs.length ≤ 3) (h : ∀ x ∈ xs, Dr m H x) : Dr (m + 1) H (.ref a) := by
  obtain ⟨ds, h1, h2, hf⟩ := gather_dr h
  refine ⟨.lst ds, ?_, fun d hd => (hf d hd).g, fun d hd => (hf d hd).s, fun d hd => (hf d hd).m, np_three (by omega) hf⟩
  simp only [Dv]
  exact ⟨a, xs, rfl, ha, h1⟩
theorem Dr.dct {m : Nat} {H : Hp} {a : Addr} {ks : List Str} {us : List V} (ha : H a = some (.dK (kvOf ks us))) (hl : us.length = ks.length) (hn : ks.Nodup) (h3 : ks.length ≤ 3) (hk : ∀ k ∈ ks, isKey k = true) (h : ∀ x ∈ us, Dr m H x) : Dr (m + 1) H (.ref a) := by
  obtain ⟨ds, h1, h2, hf⟩ := gather_dr h
  refine ⟨.dct ks ds, ?_, ⟨by omega, hn, hk, fun d hd => (hf d hd).g⟩, fun d hd => (hf d hd).s, ⟨by omega, fun d hd => (hf d hd).m⟩, np_three (by omega) hf⟩
  simp only [Dv]
  exact ⟨a, us, rfl, ha, hl, hn, h1⟩
theorem new_mono {H H1 H2 H3 : Hp} (h1 : ∀ b, H1 b = none → H b = none) (h2 : ∀ b o, H1 b = none → H2 b = some o → H3 b = some o) : ∀ b o, newH H1 H2 b = some o → newH H H3 b = some o := fun b o e => by
  obtain ⟨e1, e2⟩ := newH_some.mp e
  exact newH_some.mpr ⟨h1 b e1, h2 b o e1 e2⟩
def spDt (j : Nat) : Sp := fun vs H Q _ => ∃ (d l : Addr) (n m : Nat), m < j ∧ vs = [.ref d, .int (m : Int)] ∧ Tape H d l n ∧ n + 16 * 4 ^ m ≤ 700000 ∧ ∀ H' v, After d l n (16 * 4 ^ m) H H' → Dr m (newH H H') v → Q v H'
def keys6 : List Str := ["a", "b", "if", "null", "zzzzzzzz", "each"]
section
variable {P : Program} {w : World} {K : PySem.W.Frag} {mg : Str → Option Value} {base : Heap}
theorem ok_dt {f fL fS fD : Addr} {fd fdL fdS fdD : FuncData} (F : Fun K "_law_datum" "_law_datum" sDt f fd)
    (GD : FnOk P w K mg base CX0 1 fD fdD ["_law_tape", "_law_many"] spDraw) (mD : mg "_law_draw" = some (.ref fD)) (kD : PySem.W.keepIn K (.ref fD) = true) (bD : Binds K fdD ["_law_tape", "_law_many"] [])
    (GS : FnOk P w K mg base CX0 2 fS fdS ["_law_tape", "_law_items"] spShuf) (mS : mg "_law_shuffled" = some (.ref fS)) (kS : PySem.W.keepIn K (.ref fS) = true) (bS : Binds K fdS ["_law_tape", "_law_items"] [])
    (GL : FnOk P w K mg base CX0 4 fL fdL ["_law_tape"] spLe) (mL : mg "_law_leaf" = some (.ref fL)) (kL : PySem.W.keepIn K (.ref fL) = true) (bL : Binds K fdL ["_law_tape"] [])
    (mF : mg "_law_datum" = some (.ref f)) (kF : PySem.W.keepIn K (.ref f) = true) (bF : Binds K fd ["_law_tape", "_law_deep"] []) (mRange : mg "range" = none) (mDict : mg "dict" = none) :
    ∀ j : Nat, FnOk P w K mg base CX0 (j + 5) f fd ["_law_tape", "_law_deep"] (spDt j) := by
  intro j
  induction j with
  | zero =>
    refine fn_none fun vs H Q E h => ?_
    obtain ⟨d, l, n, m, h0, _⟩ := h
    exact absurd h0 (Nat.not_lt_zero _)
  | succ j ih =>
    refine F.ok (k := j + 5) scDt (fun vs H Q E h => ?_) (fun cdv A outer s H vs Q E hr h => ?_)
    · obtain ⟨d, l, n, m, _, rfl, _⟩ := h
      rfl
    · obtain ⟨d, l, n, m, hmj, rfl, hT, hn, q⟩ := h
      have hr1 := hr.mono (show 1 ≤ j + 5 by omega)
      have hr2 := hr.mono (show 2 ≤ j + 5 by omega)
      have hr4 := hr.mono (show 4 ≤ j + 5 by omega)
      refine ⟨_, pss_cons (ps_set (i := 2) scDt.nd rfl (Or.inl rfl) (pe_ifExp (pt_cmpR op_gt (pv 1) pe_int (nomark _)) (pe_call GD hr1 (by rfl) mD kD bD .nil pass0 (pa_cons (pv 0) (pa_cons pe_int pa_nil))) pe_int))
        (pss_cons (ps_if (pt_cmpR op_lt (pv 2) pe_int (nomark _)) (pss_one (ps_ret (pe_lc (own := [("_law_k", 4)]) (g := gName 4) (by rfl) scDt.nd (pi_range1 (by rfl) mRange (pa_cons (pe_call GD hr1 (by rfl) mD kD bD .nil pass0 (pa_cons (pv 0) (pa_cons pe_int pa_nil))) pa_nil))
            (blkOk_by (own := [("_law_k", 4)]) (N := NDt) (sc := defScope sDt) (by decide +kernel)) (fun _ _ _ _ _ => pg_name (i := 4) scDt.nd rfl (Or.inl rfl)) (fun _ _ _ _ _ => pts_nil)
            (fun _ _ _ _ _ => pe_call ih hr (by rfl) mF kF bF .nil pass0 (pa_cons (pv 0) (pa_cons (pe_op op_sub (pv 1) pe_int) pa_nil)))))) pss_nil)
        (pss_cons (ps_if (pt_cmpR op_lt (pv 2) pe_int (nomark _))
          (pss_cons (ps_set (i := 3) scDt.nd rfl (Or.inl rfl) (pe_slice sl_list (pe_call GS hr2 (by rfl) mS kS bS .nil pass0 (pa_cons (pv 0) (pa_cons (pe_lst (pa_cons pe_str (pa_cons pe_str (pa_cons pe_str (pa_cons pe_str (pa_cons pe_str (pa_cons pe_str pa_nil))))))) pa_nil))) po_none (po_some (pe_call GD hr1 (by rfl) mD kD bD .nil pass0 (pa_cons (pv 0) (pa_cons pe_int pa_nil))))))
          (pss_one (ps_ret (pe_callTy (call_dictP rfl) (by rfl) mDict (by decide +kernel) (pa_cons (pe_lc (own := [("_law_key", 5)]) (g := gName 5) (by rfl) scDt.nd (pi_list (pv 3))
            (blkOk_by (own := [("_law_key", 5)]) (N := NDt) (sc := defScope sDt) (by decide +kernel)) (fun _ _ _ _ _ => pg_name (i := 5) scDt.nd rfl (Or.inl rfl)) (fun _ _ _ _ _ => pts_nil)
            (fun _ _ _ _ _ => pe_tup (pa_cons (pv 5) (pa_cons (pe_call ih hr (by rfl) mF kF bF .nil pass0 (pa_cons (pv 0) (pa_cons (pe_op op_sub (pv 1) pe_int) pa_nil))) pa_nil)))) pa_nil))))) pss_nil)
        (pss_one (ps_ret (pe_call GL hr4 (by rfl) mL kL bL .nil pass0 (pa_cons (pv 0) pa_nil)))))), ?_⟩
      have c1 : 1 ≤ 4 ^ m := Nat.pos_of_ne_zero (by simp)
      have leaf : ∀ {H1 : Hp} {kk : Nat} {wy : Int} {o : Option V}, After d l n kk H H1 → kk ≤ 1 → tRet (tCall spLe [] E0 (tCons (tVar 0) tNil)) { nx := fun x H' => Q V.non H', rt := Q } [some (.ref d), some (.int (m : Int)), some (.int wy), o, none, none] H1 := fun {H1 kk wy o} a hk =>
        ret_run ⟨_, rfl, d, l, n + kk, rfl, a.2, by omega, fun H2 v a2 hv => q H2 v ((a.trans a2).more (by omega)) (Dr.leaf hv _ _)⟩
      by_cases hm : m = 0
      · subst hm
        refine asg_run ⟨_, rfl, _, _, rfl, rfl, _, rfl, ite2 (fun c => absurd (of_decide_eq_true c) (by omega)) (fun _ => ?_)⟩
        dsimp only [gName, tC]
        refine ifs_val (v := false) (fun Q kk => ⟨_, rfl, _, _, rfl, rfl, _, rfl, kk⟩) (fun h => by cases h) (fun _ => nxt_run ?_)
        refine ifs_val (v := false) (fun Q kk => ⟨_, rfl, _, _, rfl, rfl, _, rfl, kk⟩) (fun h => by cases h) (fun _ => nxt_run ?_)
        exact leaf (After.refl hT) (Nat.zero_le _)
      · obtain ⟨k, rfl⟩ : ∃ k, m = k + 1 := ⟨m - 1, by omega⟩
        have ck : 1 ≤ 4 ^ k := Nat.pos_of_ne_zero (by simp)
        have cm : 4 ^ (k + 1) = 4 * 4 ^ k := by rw [Nat.pow_succ, Nat.mul_comm]
        refine asg_run ⟨_, rfl, _, _, rfl, rfl, _, rfl, ite2 (fun _ => ?_) (fun c => absurd (decide_eq_true (by omega)) c)⟩
        refine ⟨_, rfl, d, l, n, 5, rfl, hT, by omega, by decide, by decide, fun H1 r b1 t1 r0 r5 => ?_⟩
        have a1 : After d l n 1 H H1 := ⟨b1, t1⟩
        have em : [V.ref d, V.int (((k + 1 : Nat) : Int) - 1)] = [V.ref d, V.int (k : Int)] := by
          rw [show ((k + 1 : Nat) : Int) - 1 = (k : Int) by omega]
        dsimp only [gName]
        refine ifs_val (v := decide (r < 2)) (fun Q kk => ⟨_, rfl, _, _, rfl, rfl, _, rfl, kk⟩) (fun _ => ?_) (fun _ => nxt_run ?_)
        · refine ret_run ⟨_, rfl, d, l, n + 1, 4, rfl, a1.2, by omega, by decide, by decide, fun H2 r2 b2 t2 r20 r24 => ⟨_, rfl, by omega, by omega, fun D nD => ?_⟩⟩
          have a2 : After d l n 2 H H2 := a1.draw b2 t2
          have nD0 := a2.dom D nD
          have aD : After d l n 2 H (upd H2 D (.lst [])) := a2.put nD0 hT
          have hDD : (upd H2 D (.lst [])) D = some (.lst []) := upd_same
          refine lc_range (lo := 0) (n := r2.toNat) (fun i H' => ∃ acc, H' D = some (.lst acc) ∧ acc.length = i ∧ After d l n (2 + i * (16 * 4 ^ k)) H H' ∧ (∀ b, H' b = none → (upd H2 D (.lst [])) b = none) ∧ ∀ x ∈ acc, Dr k (newH (upd H2 D (.lst [])) H') x)
            ⟨[], hDD, rfl, aD.more (by omega), fun b e => e, fun x hx => by cases hx⟩ ?_ ?_
          · rintro i H3 hi ⟨acc, hD3, lacc, a3, dom3, pr⟩
            have im : i * (16 * 4 ^ k) ≤ 2 * (16 * 4 ^ k) := Nat.mul_le_mul_right _ (by omega)
            refine ⟨rfl, _, rfl, _, rfl, _, _, rfl, rfl, d, l, n + (2 + i * (16 * 4 ^ k)), k, by omega, em, a3.2, by omega, fun H4 v a4 q4 => ?_⟩
            have hDd : D ≠ d := tape_ne a3.2 hD3
            have hD4 : H4 D = some (.lst acc) := a4.1 _ _ hDd hD3
            have hd0 : ∃ o, (upd H2 D (.lst [])) d = some o := aD.2.at.1
            refine ⟨acc, hD4, lines (by omega), acc ++ [v], upd_same, by rw [List.length_append, lacc]; rfl, ((a3.trans a4).put nD0 hT).more ?_, fun b e => ?_, fun x hx => ?_⟩
            · have : (i + 1) * (16 * 4 ^ k) = i * (16 * 4 ^ k) + 16 * 4 ^ k := Nat.succ_mul _ _
              omega
            · by_cases hbD : b = D
              · rw [hbD, upd_same] at e; cases e
              · rw [upd_ne hbD] at e
                exact dom3 b (a4.dom b e)
            · rw [List.mem_append, List.mem_singleton] at hx
              rcases hx with hx | rfl
              · refine (pr x hx).mono (new_mono (fun b e => e) fun b o e1 e2 => ?_)
                have h1 : b ≠ D := fun z => by rw [z, hDD] at e1; cases e1
                have h2 : b ≠ d := fun z => by
                  obtain ⟨o, ho⟩ := hd0
                  rw [z, ho] at e1; cases e1
                rw [upd_ne h1]
                exact a4.1 _ _ h2 e2
              · refine q4.mono (new_mono dom3 fun b o e1 e2 => ?_)
                rw [upd_ne (fun z => by rw [z, hD3] at e1; cases e1)]
                exact e2
          · rintro H3 ⟨acc, hD3, lacc, a3, dom3, pr⟩
            have im : r2.toNat * (16 * 4 ^ k) ≤ 3 * (16 * 4 ^ k) := Nat.mul_le_mul_right _ (by omega)
            refine q H3 (.ref D) (a3.more (by omega)) (Dr.lst (newH_some.mpr ⟨nD0, hD3⟩) (by omega) fun x hx => (pr x hx).mono (new_mono (fun b e => aD.dom b e) fun b o e1 e2 => e2))
        refine ifs_val (v := decide (r < 4)) (fun Q kk => ⟨_, rfl, _, _, rfl, rfl, _, rfl, kk⟩) (fun _ => ?_) (fun _ => nxt_run ?_)
        · refine asg_run ⟨_, rfl, few (by show 6 ≤ 1000; decide), fun p np => ?_⟩
          have ap : After d l n 1 H (upd H1 p (.lst (keys6.map V.str))) := a1.same (same_new same_id np)
          have hp0 : (upd H1 p (.lst (keys6.map V.str))) p = some (.lst (keys6.map V.str)) := upd_same
          refine ⟨d, l, p, n + 1, keys6, rfl, ap.2, by omega, hp0, by decide, fun H2 R ys b2 t2 nR0 hR perm => ?_⟩
          have a2 : After d l n 7 H H2 := ap.draw b2 t2
          refine ⟨_, rfl, d, l, n + 7, 4, rfl, a2.2, by omega, by decide, by decide, fun H3 r3 b3 t3 r30 r34 => ⟨r3, rfl, R, _, rfl, SqL.of (b3 _ _ (tape_ne a2.2 hR) hR), fun S nS => ?_⟩⟩
          have a3 : After d l n 8 H H3 := a2.draw b3 t3
          have ly : ys.length = 6 := perm.length_eq
          have ecut : cutV (ys.map V.str) none (some r3) = (ys.take r3.toNat).map V.str := by
            obtain ⟨i, rfl⟩ : ∃ i : Nat, r3 = (i : Int) := ⟨r3.toNat, by omega⟩
            unfold cutV
            rw [show HT.sIx (ys.map V.str).length (ys.map V.str).length (some (i : Int)) = min i (ys.map V.str).length from HT.sIx_nat _ _ i, HT.sIx_none, List.drop_zero, Nat.sub_zero, List.map_take, Int.toNat_natCast]
            by_cases h : i ≤ (ys.map V.str).length
            · rw [Nat.min_eq_left h]
            · rw [Nat.min_eq_right (by omega), List.take_of_length_le (Nat.le_refl _), List.take_of_length_le (by omega)]
          rw [ecut]
          generalize hrk : ys.take r3.toNat = rk
          have lrk : rk.length ≤ 3 := by rw [← hrk, List.length_take]; omega
          have ndrk : rk.Nodup := by rw [← hrk]; exact (perm.nodup_iff.mpr (by decide +kernel)).sublist (List.take_sublist _ _)
          have shrk : ∀ z ∈ rk, isKey z = true := by
            rw [← hrk]
            exact fun z hz => (by decide +kernel : ∀ z ∈ keys6, isKey z = true) z (perm.mem_iff.mp (List.mem_of_mem_take hz))
          have aS : After d l n 8 H (upd H3 S (.lst (rk.map V.str))) := a3.same (same_new same_id nS)
          have hS : (upd H3 S (.lst (rk.map V.str))) S = some (.lst (rk.map V.str)) := upd_same
          generalize upd H3 S (.lst (rk.map V.str)) = HS at aS hS ⊢
          refine ret_run ⟨_, rfl, S, rfl, ⟨_, SqL.of hS⟩, fun D nD => ?_⟩
          have nD0 := aS.dom D nD
          have nSD : S ≠ D := ne_of_none hS nD
          have nSd : S ≠ d := tape_ne aS.2 hS
          have aD : After d l n 8 H (upd HS D (.lst [])) := aS.put nD0 hT
          have hDD : (upd HS D (.lst [])) D = some (.lst []) := upd_same
          have hSD : (upd HS D (.lst [])) S = some (.lst (rk.map V.str)) := (upd_ne nSD).trans hS
          refine lc_list (K := K) (a := S) (xs := rk.map V.str) (fun i H' => ∃ (ts : List Addr) (us : List V), H' D = some (.lst (ts.map V.ref)) ∧ us.length = i ∧ ts.length = i ∧ After d l n (8 + i * (16 * 4 ^ k)) H H' ∧ (∀ b, H' b = none → (upd HS D (.lst [])) b = none) ∧ H' S = some (.lst (rk.map V.str)) ∧ Paired (fun t kv => H' t = some (.tup [kV kv.1, kv.2])) ts (kvOf (rk.take i) us) ∧ ∀ u ∈ us, Dr k (newH (upd HS D (.lst [])) H') u)
            ⟨[], [], hDD, rfl, rfl, aD.more (by omega), fun b e => e, hSD, by simp [kvOf]; exact .nil, fun u hu => by cases hu⟩ ?_ ?_ ?_
          · rintro i H' _ ⟨ts, us, _, _, _, _, _, h, _⟩
            exact SqL.of h
          · rintro i x H4 hx ⟨ts, us, hD4, lus, lts, a4, dom4, hS4, pt, pr⟩
            obtain ⟨key, hk1, rfl⟩ : ∃ key, rk[i]? = some key ∧ V.str key = x := by simpa using hx
            have hi : i < rk.length := (List.getElem?_eq_some_iff.mp hk1).1
            have im : i * (16 * 4 ^ k) ≤ 2 * (16 * 4 ^ k) := Nat.mul_le_mul_right _ (by omega)
            refine ⟨rfl, _, rfl, _, rfl, _, rfl, _, _, rfl, rfl, d, l, n + (8 + i * (16 * 4 ^ k)), k, by omega, em, a4.2, by omega, fun H5 v a5 q5 => ⟨few (by show 2 ≤ 1000; decide), fun T nT => ?_⟩⟩
            have hDd : D ≠ d := tape_ne a4.2 hD4
            have hD5 : H5 D = some (.lst (ts.map V.ref)) := a5.1 _ _ hDd hD4
            have nDT : D ≠ T := ne_of_none hD5 nT
            have hS5 := a5.1 _ _ nSd hS4
            have a6 := (a4.trans a5).same (same_new (u := .tup [.str key, v]) same_id nT)
            have hd0 : ∃ o, (upd HS D (.lst [])) d = some o := aD.2.at.1
            have keep : ∀ b o, b ≠ d → b ≠ D → H4 b = some o → (upd (upd H5 T (.tup [.str key, v])) D (.lst (ts.map V.ref ++ [.ref T]))) b = some o := fun b o h1 h2 h3 => by
              have z := a5.1 _ _ h1 h3
              rw [upd_ne h2, upd_ne (ne_of_none z nT)]
              exact z
            refine ⟨ts.map V.ref, (upd_ne nDT).trans hD5, small1000 (by rw [List.length_map]; omega), ts ++ [T], us ++ [v], by rw [upd_same, List.map_append]; rfl, by rw [List.length_append, lus]; rfl, by rw [List.length_append, lts]; rfl, (a6.put nD0 hT).more ?_, fun b e => ?_, keep _ _ nSd nSD hS4, ?_, fun u hu => ?_⟩
            · have : (i + 1) * (16 * 4 ^ k) = i * (16 * 4 ^ k) + 16 * 4 ^ k := Nat.succ_mul _ _
              omega
            · by_cases h1 : b = D
              · rw [h1, upd_same] at e; cases e
              · rw [upd_ne h1] at e
                by_cases h2 : b = T
                · rw [h2, upd_same] at e; cases e
                · rw [upd_ne h2] at e
                  exact dom4 b (a5.dom b e)
            · have ek : kvOf (rk.take (i + 1)) (us ++ [v]) = kvOf (rk.take i) us ++ [(Sum.inr key, v)] := by
                rw [List.take_add_one, hk1, Option.toList_some]
                exact (kv_app (by rw [List.length_take, lus]; omega)).symm
              rw [ek]
              refine paired_app (L2.Paired.mapP pt fun t kv ht => ?_) (.cons ?_ .nil)
              · refine keep t _ ?_ ?_ ht
                · intro z
                  obtain ⟨ns, a, f, e1, _⟩ := a4.2
                  rw [z, e1] at ht
                  cases ht
                · intro z
                  rw [z, hD4] at ht
                  cases ht
              · exact (upd_ne nDT.symm).trans upd_same
            · rw [List.mem_append, List.mem_singleton] at hu
              rcases hu with hu | rfl
              · refine (pr u hu).mono (new_mono (fun b e => e) fun b o e1 e2 => ?_)
                refine keep b o (fun z => ?_) (fun z => by rw [z, hDD] at e1; cases e1) e2
                obtain ⟨o, ho⟩ := hd0
                rw [z, ho] at e1; cases e1
              · refine q5.mono (new_mono dom4 fun b o e1 e2 => ?_)
                rw [upd_ne (fun z => by rw [z, hD4] at e1; cases e1), upd_ne (ne_of_none e2 nT)]
                exact e2
          · rintro H4 ⟨ts, us, hD4, lus, lts, a4, dom4, hS4, pt, pr⟩
            rw [List.length_map] at lus lts a4 pt
            rw [List.take_of_length_le (Nat.le_refl _)] at pt
            have im : rk.length * (16 * 4 ^ k) ≤ 3 * (16 * 4 ^ k) := Nat.mul_le_mul_right _ lrk
            refine ⟨D, ts, kvOf rk us, rfl, SqL.of hD4, L2.Paired.mapP pt fun _ _ z => SqT.of z, fun p2 np2 => ?_⟩
            have e : mergeK [] (kvOf rk us) = kvOf rk us := merge_kv rk us [] [] rfl lus ndrk
            rw [e]
            refine q _ (.ref p2) ((a4.same (same_new same_id np2)).more (by omega)) (Dr.dct (newH_some.mpr ⟨a4.dom p2 np2, upd_same⟩) lus ndrk lrk shrk fun u hu => (pr u hu).mono (new_mono (fun b e => aD.dom b e) fun b o e1 e2 => ?_))
            exact (upd_ne (ne_of_none e2 np2)).trans e2
        · exact leaf a1 (Nat.le_refl _)
end
end Toy


namespace Toy
open PySem PySem.Spec L2 PyProof.Rows PySem.W
/-! ### drawing: the pieces of a datum -/
abbrev sDp : Stmt := top 51
abbrev NDp : List Str := ["_law_tape", "_law_item", "_law_is_least", "_law_own", "_law_keys", "_law_key"]
theorem scDp : FnScope NDp ["_law_tape", "_law_item", "_law_is_least"] (defScope sDp) := ⟨rfl, rfl, rfl, by decide +kernel, rfl, by decide +kernel, by decide +kernel⟩
/-- G is part of H, and not the tape -/
def Part (d : Addr) (G H : Hp) : Prop := ∀ b o, G b = some o → b ≠ d ∧ H b = some o
theorem Part.up {d : Addr} {G H H' : Hp} (h : Part d G H) (s : But d H H') : Part d G H' := fun b o e => ⟨(h b o e).1, s b o (h b o e).1 (h b o e).2⟩
def spDp (j : Nat) : Sp := fun vs H Q _ => ∃ (d l : Addr) (n k : Nat) (v : V) (t : D) (b : Bool) (G : Hp), k ≤ j ∧ vs = [.ref d, v, .bl b] ∧ Tape H d l n ∧ n + 20 * npN k t ≤ 800000 ∧ Dv k G v t ∧ Gd k t ∧ Sm k t ∧ npN k t ≤ 1000 ∧ Part d G H ∧
  ∀ H' r ys, After d l n (20 * npN k t) H H' → H r = none → TxL H' r ys → WrP k t ys → (b = true → ys = wrN k t) → Q (.ref r) H'
theorem te_two {te : TE} {σ : L2.St} {H : Hp} {K : VK} (Good : Hp → V → Prop) (h1 : ∀ K' : VK, (∀ H2 v, Good H2 v → K' v H2) → te σ H K') (h2 : ∀ H2 v, Good H2 v → K v H2) : te σ H K := h1 K h2
theorem tsum_le {α : Type} (f : α → Nat) (l : List α) (i : Nat) : ((l.take i).map f).sum ≤ (l.map f).sum := by
  have e : (l.map f).sum = ((l.take i).map f).sum + ((l.drop i).map f).sum := by
    rw [← List.sum_append, ← List.map_append, List.take_append_drop]
  omega
theorem tsum_succ {α : Type} (f : α → Nat) {l : List α} {i : Nat} {x : α} (h : l[i]? = some x) : ((l.take (i + 1)).map f).sum = ((l.take i).map f).sum + f x := by
  rw [List.take_add_one, h, List.map_append, List.sum_append]
  simp
theorem rowD_but {d l D : Addr} {H3 H4 : Hp} {u : HO} {rs : List V} {yss : List (List Str)} {kk : Nat} (hp : Paired (RowD D H3) rs yss) (t : Tape H3 d l kk) (b : But d H3 H4) : Paired (RowD D (upd H4 D u)) rs yss := L2.Paired.mapP hp fun v ys h => by
  obtain ⟨p, e, h1, h2⟩ := h
  exact ⟨p, e, h1, (upd_ne h1).trans (b _ _ (tape_ne t h2) h2)⟩
theorem paired_snoc {α β : Type} {F : α → β → Prop} {l : List α} {i : Nat} {x : α} {ys : List β} {y : β} (hx : l[i]? = some x) (h : Paired F (l.take i) ys) (hy : F x y) : Paired F (l.take (i + 1)) (ys ++ [y]) := by
  rw [List.take_add_one, hx]
  exact paired_app h (.cons hy .nil)
theorem paired_fn {α β : Type} {f : α → β} : ∀ {l : List α} {ys : List β}, Paired (fun a y => y = f a) l ys → ys = l.map f
  | [], [], .nil => rfl
  | a :: l, y :: ys, .cons h r => by rw [List.map_cons, ← h, ← paired_fn r]
section
variable {P : Program} {w : World} {K : PySem.W.Frag} {mg : Str → Option Value} {base : Heap}
theorem ok_dp {f fP fR fS : Addr} {fd dP dR dS : FuncData} (F : Fun K "_law_data_pieces" "_law_data_pieces" sDp f fd)
    (GP : FnOk P w K mg base CX0 1 fP dP ["_law_leaf_here"] spLp) (mP : mg "_law_leaf_piece" = some (.ref fP)) (kP : PySem.W.keepIn K (.ref fP) = true) (bP : Binds K dP ["_law_leaf_here"] [])
    (GR : FnOk P w K mg base CX0 1 fR dR ["_law_rows"] spRow) (mR : mg "_law_row" = some (.ref fR)) (kR : PySem.W.keepIn K (.ref fR) = true) (bR : Binds K dR ["_law_rows"] [])
    (GS : FnOk P w K mg base CX0 2 fS dS ["_law_tape", "_law_items"] spShuf) (mS : mg "_law_shuffled" = some (.ref fS)) (kS : PySem.W.keepIn K (.ref fS) = true) (bS : Binds K dS ["_law_tape", "_law_items"] [])
    (mF : mg "_law_data_pieces" = some (.ref f)) (kF : PySem.W.keepIn K (.ref f) = true) (bF : Binds K fd ["_law_tape", "_law_item", "_law_is_least"] [])
    (mI : mg "isinstance" = none) (mL : mg "list" = none) (mD : mg "dict" = none) (mSo : mg "sorted" = none) :
    ∀ j : Nat, FnOk P w K mg base CX0 (j + 3) f fd ["_law_tape", "_law_item", "_law_is_least"] (spDp j) := by
  intro j
  induction j with
  | zero =>
    refine fn_none fun vs H Q E h => ?_
    obtain ⟨d, l, n, k, v, t, b, G, h0, _, _, _, _, hg, _⟩ := h
    obtain rfl : k = 0 := by omega
    cases t <;> exact hg.elim
  | succ j ih =>
    refine F.ok (k := j + 3) scDp (fun vs H Q E h => ?_) (fun cdv A outer s H vs Q E hr h => ?_)
    · obtain ⟨d, l, n, m, v, t, b, G, _, rfl, _⟩ := h
      rfl
    · obtain ⟨d, l, n, m, v, t, b, G, hmj, rfl, hT, hn, hv, hg, hsm, hnp, hG, q⟩ := h
      have hu := hu_of hr
      have hr1 := hr.mono (show 1 ≤ j + 3 by omega)
      have hr2 := hr.mono (show 2 ≤ j + 3 by omega)
      refine ⟨_, pss_cons (ps_if (pt_val (pe_callB call_isi (by rfl) mI PyProof.Rows.boot_isinstance (pa_cons (pv 1) (pa_cons (pe_bltn (v := .ty "list") (by rfl) mL (by decide +kernel) rfl) pa_nil))))
          (pss_one (ps_ret (pe_op op_cat (pe_op op_cat (pe_lst (pa_cons pe_str pa_nil)) (pe_call GR hr1 (by rfl) mR kR bR .nil pass0 (pa_cons (pe_lc (own := [("_law_own", 3)]) (g := gName 3) (by rfl) scDp.nd (pi_list (pv 1))
            (blkOk_by (own := [("_law_own", 3)]) (N := NDp) (sc := defScope sDp) (by decide +kernel)) (fun _ _ _ _ _ => pg_name (i := 3) scDp.nd rfl (Or.inl rfl)) (fun _ _ _ _ _ => pts_nil)
            (fun _ _ _ _ _ => pe_call ih hr (by rfl) mF kF bF .nil pass0 (pa_cons (pv 0) (pa_cons (pv 3) (pa_cons (pv 2) pa_nil))))) pa_nil))) (pe_lst (pa_cons pe_str pa_nil))))) pss_nil)
        (pss_cons (ps_if (pt_val (pe_callB call_isi (by rfl) mI PyProof.Rows.boot_isinstance (pa_cons (pv 1) (pa_cons (pe_bltn (v := .ty "dict") (by rfl) mD (by decide +kernel) rfl) pa_nil))))
          (pss_cons (ps_set (i := 4) scDp.nd rfl (Or.inl rfl) (pe_ifExp (pt_val (pv 2)) (pe_callB (call_sortedT rfl) (by rfl) mSo (by decide +kernel) (pa_cons (pv 1) pa_nil)) (pe_call GS hr2 (by rfl) mS kS bS .nil pass0 (pa_cons (pv 0) (pa_cons (pe_callB (call_sortedT rfl) (by rfl) mSo (by decide +kernel) (pa_cons (pv 1) pa_nil)) pa_nil)))))
          (pss_one (ps_ret (pe_op op_cat (pe_op op_cat (pe_lst (pa_cons pe_str pa_nil)) (pe_call GR hr1 (by rfl) mR kR bR .nil pass0 (pa_cons (pe_lc (own := [("_law_key", 5)]) (g := gName 5) (by rfl) scDp.nd (pi_list (pv 4))
            (blkOk_by (own := [("_law_key", 5)]) (N := NDp) (sc := defScope sDp) (by decide +kernel)) (fun _ _ _ _ _ => pg_name (i := 5) scDp.nd rfl (Or.inl rfl)) (fun _ _ _ _ _ => pts_nil)
            (fun _ _ _ _ _ => pe_op op_cat (pe_lst (pa_cons (pv 5) (pa_cons pe_str pa_nil))) (pe_call ih hr (by rfl) mF kF bF .nil pass0 (pa_cons (pv 0) (pa_cons (pe_dget hu (pv 1) (pv 5) (fun _ _ => rfl)) (pa_cons (pv 2) pa_nil)))))) pa_nil))) (pe_lst (pa_cons pe_str pa_nil)))))) pss_nil)
        (pss_one (ps_ret (pe_lst (pa_cons (pe_call GP hr1 (by rfl) mP kP bP .nil pass0 (pa_cons (pv 1) pa_nil)) pa_nil))))), ?_⟩
      have e16 : sizeLine = 16777216 := by decide
      have hvH : Dv m H v t := hv.mono (fun b o _ e => (hG b o e).2) (Nat.le_refl _)
      have ty := ty_dv (K := K) hvH
      have hst := gd_stl m t hg
      obtain ⟨k, rfl⟩ : ∃ i, m = i + 1 := by
        cases m with
        | zero => cases t <;> exact hg.elim
        | succ k => exact ⟨k, rfl⟩
      have leaf : (∀ ds, t ≠ .lst ds) → (∀ ks ds, t ≠ .dct ks ds) → WrP (k + 1) t [lfS t] → wrN (k + 1) t = [lfS t] → tRet (tLst (tCons (tCall spLp [] E0 (tCons (tVar 1) tNil)) tNil)) { nx := fun x H' => Q V.non H', rt := Q } [some (.ref d), some v, some (.bl b), none, none, none] H := fun n1 n2 hw he =>
        ret_run ⟨_, rfl, v, t, rfl, lfv_of hvH hg n1 n2, fun H1 s1 => ⟨few (by show 1 ≤ 1000; decide), fun p np => q _ p [lfS t] (((After.refl hT).same (s1.trans (same_new same_id np))).more (Nat.zero_le _)) (none_back s1 np) upd_same hw (fun _ => he.symm)⟩⟩
      have fin : ∀ (o c : Str) (σ : L2.St) (H5 : Hp) (p1 r5 : Addr) (zs : List Str), After d l n (20 * npN (k + 1) t) H H5 → H5 p1 = some (.lst [.str o]) → TxL H5 r5 zs → zs.length ≤ 10000 → WrP (k + 1) t (o :: (zs ++ [c])) → (b = true → o :: (zs ++ [c]) = wrN (k + 1) t) →
          rCat (.ref p1) (.ref r5) H5 (fun y H6 => tLst (tCons (tC (V.str c)) tNil) σ H6 (fun z H7 => rCat y z H7 Q)) := by
        intro o c σ H5 p1 r5 zs a5 h1 h2 hl hw he
        refine ⟨p1, r5, _, _, rfl, rfl, h1, h2, by rw [List.length_map]; show 1 + zs.length ≤ _; omega, fun p2 n2 => ⟨few (by show 1 ≤ 1000; decide), fun p3 n3 => ?_⟩⟩
        have n23 : p2 ≠ p3 := ne_of_none upd_same n3
        refine ⟨p2, p3, _, _, rfl, rfl, (upd_ne n23).trans upd_same, upd_same, by rw [List.length_append, List.length_map]; show 1 + zs.length + 1 ≤ _; omega, fun p4 n4 => ?_⟩
        have s4 : Same H5 (upd (upd (upd H5 p2 (.lst ([V.str o] ++ zs.map V.str))) p3 (.lst [V.str c])) p4 (.lst (([V.str o] ++ zs.map V.str) ++ [V.str c]))) := same_new (same_new (same_new same_id n2) n3) n4
        refine q _ p4 (o :: (zs ++ [c])) (a5.same s4) (a5.dom p4 (none_back (same_new (same_new same_id n2) n3) n4)) ?_ hw he
        unfold TxL
        rw [upd_same, List.map_cons, List.map_append]
        rfl
      cases t with
      | non =>
        have ty : TyX K H v (.type "NoneType") := ty
        refine ⟨_, rfl, _, _, _, _, false, rfl, .ty _, ty, kit_ty (by decide +kernel), _, rfl, iteF (nx_run ?_)⟩
        refine ⟨_, rfl, _, _, _, _, false, rfl, .ty _, ty, kit_ty (by decide +kernel), _, rfl, iteF (nx_run ?_)⟩
        exact leaf (fun _ z => by cases z) (fun _ _ z => by cases z) rfl rfl
      | bl c =>
        have ty : TyX K H v (.type "bool") := ty
        refine ⟨_, rfl, _, _, _, _, false, rfl, .ty _, ty, kit_ty (by decide +kernel), _, rfl, iteF (nx_run ?_)⟩
        refine ⟨_, rfl, _, _, _, _, false, rfl, .ty _, ty, kit_ty (by decide +kernel), _, rfl, iteF (nx_run ?_)⟩
        exact leaf (fun _ z => by cases z) (fun _ _ z => by cases z) rfl rfl
      | int i =>
        have ty : TyX K H v (.type "int") := ty
        refine ⟨_, rfl, _, _, _, _, false, rfl, .ty _, ty, kit_ty (by decide +kernel), _, rfl, iteF (nx_run ?_)⟩
        refine ⟨_, rfl, _, _, _, _, false, rfl, .ty _, ty, kit_ty (by decide +kernel), _, rfl, iteF (nx_run ?_)⟩
        exact leaf (fun _ z => by cases z) (fun _ _ z => by cases z) rfl rfl
      | str x =>
        have ty : TyX K H v (.type "str") := ty
        refine ⟨_, rfl, _, _, _, _, false, rfl, .ty _, ty, kit_ty (by decide +kernel), _, rfl, iteF (nx_run ?_)⟩
        refine ⟨_, rfl, _, _, _, _, false, rfl, .ty _, ty, kit_ty (by decide +kernel), _, rfl, iteF (nx_run ?_)⟩
        exact leaf (fun _ z => by cases z) (fun _ _ z => by cases z) rfl rfl
      | lst ds =>
        clear leaf
        have ty : TyX K H v (.type "list") := ty
        refine ⟨_, rfl, _, _, _, _, true, rfl, .ty _, ty, kit_ty (by decide +kernel), _, rfl, iteT ?_⟩
        clear ty hvH
        simp only [Dv] at hv
        obtain ⟨a, xs, rfl, hx, hp⟩ := hv
        have hgd : ∀ d ∈ ds, Gd k d := hg
        have hsd : ∀ d ∈ ds, Sm k d := hsm
        have hstd : ∀ d ∈ ds, StL 200 k d := hst
        have hnpe : npN (k + 1) (.lst ds) = 1 + (ds.map (npN k)).sum := rfl
        have hlen : xs.length = ds.length := paired_len hp
        have hlnp := len_np (n := k) ds
        refine ret_run ⟨few (by show 1 ≤ 1000; decide), fun p1 n1 => ?_⟩
        have aA : After d l n 0 H (upd H p1 (.lst [.str "["])) := (After.refl hT).same (same_new same_id n1)
        have hp1 : (upd H p1 (.lst [.str "["])) p1 = some (.lst [.str "["]) := upd_same
        generalize upd H p1 (.lst [V.str "["]) = HA at aA hp1 ⊢
        refine ⟨_, rfl, a, rfl, ⟨_, SqL.of ((hG.up aA.1) _ _ hx).2⟩, fun D nD => ?_⟩
        have nD0 := aA.dom D nD
        have n1D : p1 ≠ D := ne_of_none hp1 nD
        have naD : a ≠ D := ne_of_none ((hG.up aA.1) _ _ hx).2 nD
        refine lc_list (K := K) (a := a) (xs := xs) (fun i H' => ∃ (rs : List V) (yss : List (List Str)), H' D = some (.lst rs) ∧ rs.length = i ∧ After d l n (20 * ((ds.take i).map (npN k)).sum) H H' ∧ Paired (RowD D H') rs yss ∧ Paired (fun t y => WrP k t y ∧ (b = true → y = wrN k t)) (ds.take i) yss ∧ H' p1 = some (.lst [.str "["]))
          ⟨[], [], upd_same, rfl, (aA.put nD0 hT).more (by omega), .nil, .nil, (upd_ne n1D).trans hp1⟩ ?_ ?_ ?_
        · rintro i H' _ ⟨_, _, _, _, a', _⟩
          exact SqL.of ((hG.up a'.1) _ _ hx).2
        · rintro i x H3 hx3 ⟨rs, yss, hD3, lrs, a3, pr, pw, hp3⟩
          obtain ⟨t, ht, htx⟩ := paired_get hp hx3
          have hmem := List.mem_of_getElem? ht
          have hi := (List.getElem?_eq_some_iff.mp ht).1
          have hsum := tsum_succ (npN k) ht
          have hsl := tsum_le (npN k) ds (i + 1)
          refine ⟨rfl, _, rfl, _, rfl, _, rfl, d, l, n + 20 * ((ds.take i).map (npN k)).sum, k, x, t, b, G, by omega, rfl, a3.2, by omega, htx, hgd t hmem, hsd t hmem, by have := np_mem (n := k) hmem; omega, hG.up a3.1, fun H4 r zs a4 nr tx wz ez => ?_⟩
          have hD4 : H4 D = some (.lst rs) := a4.1 _ _ (tape_ne a3.2 hD3) hD3
          have nrD : r ≠ D := fun z => by rw [z, hD3] at nr; cases nr
          exact ⟨rs, hD4, lines (by omega), rs ++ [.ref r], yss ++ [zs], upd_same, by rw [List.length_append, lrs]; rfl, ((a3.trans a4).put nD0 hT).more (by omega), paired_app (rowD_but pr a3.2 a4.1) (.cons ⟨r, rfl, nrD, (upd_ne nrD).trans tx⟩ .nil), paired_snoc ht pw ⟨wz, ez⟩, (upd_ne n1D).trans (a4.1 _ _ (tape_ne a3.2 hp3) hp3)⟩
        · rintro H3 ⟨rs, yss, hD3, lrs, a3, pr, pw, hp3⟩
          rw [hlen, List.take_of_length_le (Nat.le_refl _)] at a3 pw
          have hrs := paired_sum (g := fun d => 5 * npN k d) pw fun d hd ys e => by
            have := (wrp_size k d ys (hgd d hd) (hstd d hd) e.1).1
            omega
          rw [sum_five] at hrs
          have hr2 := rowS_len yss
          refine ⟨D, rs, yss, rfl, hD3, L2.Paired.mapP pr fun _ _ h => (by obtain ⟨p, e, _, h2⟩ := h; exact ⟨p, e, h2⟩), by omega, fun H5 r5 s5 tx5 => ?_⟩
          refine fin "[" "]" _ H5 p1 r5 (rowS yss) ((a3.same s5).more (by omega)) (s5 _ _ hp3) tx5 (by omega) ⟨yss, L2.Paired.mapP pw fun _ _ h => h.1, rfl⟩ fun hb => ?_
          rw [paired_fn (L2.Paired.mapP pw fun _ _ h => h.2 hb)]
          rfl
      | dct ks ds =>
        clear leaf
        have ty : TyX K H v (.type "dict") := ty
        refine ⟨_, rfl, _, _, _, _, false, rfl, .ty _, ty, kit_ty (by decide +kernel), _, rfl, iteF (nx_run ?_)⟩
        refine ⟨_, rfl, _, _, _, _, true, rfl, .ty _, ty, kit_ty (by decide +kernel), _, rfl, iteT ?_⟩
        clear ty hvH
        simp only [Dv] at hv
        obtain ⟨a, us, rfl, hx, hlu, hnd, hp⟩ := hv
        obtain ⟨hl, _, hks, hgd⟩ := (show ds.length = ks.length ∧ ks.Nodup ∧ (∀ k ∈ ks, isKey k = true) ∧ ∀ d ∈ ds, Gd k d from hg)
        obtain ⟨hk20, hsd⟩ := (show ks.length ≤ 20 ∧ ∀ d ∈ ds, Sm k d from hsm)
        have hstd : ∀ d ∈ ds, StL 200 k d := hst
        have hnpe : npN (k + 1) (.dct ks ds) = 1 + (ds.map (npN k)).sum := rfl
        have haH := (hG _ _ hx).2
        refine asg_run (te_two (fun H2 v => ∃ (R : Addr) (zs : List Str), v = .ref R ∧ After d l n 20 H H2 ∧ H2 R = some (.lst (zs.map V.str)) ∧ zs.Perm ks ∧ (b = true → zs = skeys ks)) (fun K' hK => ?_) ?_)
        · refine ⟨_, rfl, _, rfl, ?_⟩
          cases b with
          | true =>
            refine iteT ⟨_, rfl, a, kvOf ks us, ks, rfl, .inl haH, kv_keys hlu, by omega, fun ys p pm ss np => ?_⟩
            exact hK _ _ ⟨p, ys, rfl, ((After.refl hT).same (same_new same_id np)).more (by omega), upd_same, pm, fun _ => skeys_uniq pm ss⟩
          | false =>
            refine iteF ⟨_, rfl, _, rfl, a, kvOf ks us, ks, rfl, .inl haH, kv_keys hlu, by omega, fun ys p pm ss np => ?_⟩
            have sp := same_new (u := .lst (ys.map V.str)) (same_id (H := H)) np
            have ly : ys.length ≤ 20 := by rw [pm.length_eq]; exact hk20
            refine ⟨d, l, p, n, ys, rfl, hT.same sp, by omega, upd_same, ly, fun H2 R zs b2 t2 nR hR pm2 => ?_⟩
            exact hK _ _ ⟨R, zs, rfl, ⟨(Same.but sp d).trans b2, t2.more (by omega)⟩, hR, pm2.trans pm, fun z => by cases z⟩
        · rintro H2 _ ⟨R, zs, rfl, a2, hR, pm, hbz⟩
          have hzk : ∀ z ∈ zs, z ∈ ks := fun z hz => pm.mem_iff.mp hz
          have hzl : zs.length = ks.length := pm.length_eq
          let f : Str → Nat := fun z => npN k (look ks ds z)
          have hfs : (zs.map f).sum = (ds.map (npN k)).sum := by
            rw [sum_perm f pm]
            exact look_sum (npN k) ks ds hl hnd
          dsimp only [gName]
          refine ret_run ⟨few (by show 1 ≤ 1000; decide), fun p1 n1 => ?_⟩
          have aA : After d l n 20 H (upd H2 p1 (.lst [.str "{"])) := a2.same (same_new same_id n1)
          have hp1 : (upd H2 p1 (.lst [.str "{"])) p1 = some (.lst [.str "{"]) := upd_same
          have hRA : (upd H2 p1 (.lst [.str "{"])) R = some (.lst (zs.map V.str)) := (upd_ne (ne_of_none hR n1)).trans hR
          generalize upd H2 p1 (.lst [V.str "{"]) = HA at aA hp1 hRA ⊢
          refine ⟨_, rfl, R, rfl, ⟨_, SqL.of hRA⟩, fun D nD => ?_⟩
          have nD0 := aA.dom D nD
          have n1D : p1 ≠ D := ne_of_none hp1 nD
          have nRD : R ≠ D := ne_of_none hRA nD
          have nRd : R ≠ d := tape_ne aA.2 hRA
          refine lc_list (K := K) (a := R) (xs := zs.map V.str) (fun i H' => ∃ (rs : List V) (yss : List (List Str)), H' D = some (.lst rs) ∧ rs.length = i ∧ After d l n (20 + 20 * ((zs.take i).map f).sum) H H' ∧ Paired (RowD D H') rs yss ∧ Paired (fun z y => ∃ y1, (WrP k (look ks ds z) y1 ∧ y = z :: ((":" : Str) :: y1)) ∧ (b = true → y1 = wrN k (look ks ds z))) (zs.take i) yss ∧ H' p1 = some (.lst [.str "{"]) ∧ H' R = some (.lst (zs.map V.str)))
            ⟨[], [], upd_same, rfl, (aA.put nD0 hT).more (by omega), .nil, .nil, (upd_ne n1D).trans hp1, (upd_ne nRD).trans hRA⟩ ?_ ?_ ?_
          · rintro i H' _ ⟨_, _, _, _, a', _, _, _, h⟩
            exact SqL.of h
          · rintro i x H3 hx3 ⟨rs, yss, hD3, lrs, a3, pr, pw, hp3, hR3⟩
            obtain ⟨key, hk1, rfl⟩ : ∃ key, zs[i]? = some key ∧ V.str key = x := by simpa using hx3
            have hi := (List.getElem?_eq_some_iff.mp hk1).1
            have hkey := hzk key (List.mem_of_getElem? hk1)
            have hdm := look_mem hl hkey
            have hsum := tsum_succ f hk1
            have hsl := tsum_le f zs (i + 1)
            have hfe : f key = npN k (look ks ds key) := rfl
            obtain ⟨u, hu1, hu2⟩ := look_at hlu hp hkey
            refine ⟨rfl, _, rfl, few (by show 2 ≤ 1000; decide), fun p2 n2 => ?_⟩
            have s2 := same_new (u := .lst [V.str key, .str ":"]) (same_id (H := H3)) n2
            have hp2 : (upd H3 p2 (.lst [V.str key, .str ":"])) p2 = some (.lst [V.str key, .str ":"]) := upd_same
            generalize upd H3 p2 (.lst [V.str key, .str ":"]) = HB at s2 hp2 ⊢
            have aB := a3.same s2
            have haB := ((hG.up aB.1) _ _ hx).2
            have dg : DGet HB a (.str key) (some u) := by
              have z := DGet.k (k := Sum.inr key) haB
              rw [hu1] at z
              exact z
            refine ⟨_, rfl, _, rfl, _, rfl, a, u, rfl, dg, _, rfl, d, l, n + (20 + 20 * ((zs.take i).map f).sum), k, u, look ks ds key, b, G, by omega, rfl, aB.2, by omega, hu2, hgd _ hdm, hsd _ hdm, by have := np_mem (n := k) hdm; omega, hG.up aB.1, fun H4 r zs' a4 nr tx wz ez => ?_⟩
            have hp24 := a4.1 _ _ (tape_ne aB.2 hp2) hp2
            have hz1 := (wrp_size k _ _ (hgd _ hdm) (hstd _ hdm) wz).1
            have hz2 := np_mem (n := k) hdm
            refine ⟨p2, r, _, _, rfl, rfl, hp24, tx, by rw [List.length_map]; show 2 + zs'.length ≤ _; omega, fun p3 n3 => ?_⟩
            have hD4 : H4 D = some (.lst rs) := a4.1 _ _ (tape_ne aB.2 (s2 _ _ hD3)) (s2 _ _ hD3)
            have n3D : p3 ≠ D := fun z => by rw [z, hD4] at n3; cases n3
            have s4 := same_new (u := .lst ([V.str key, .str ":"] ++ zs'.map V.str)) (same_id (H := H4)) n3
            refine ⟨rs, s4 _ _ hD4, lines (by omega), rs ++ [.ref p3], yss ++ [key :: ((":" : Str) :: zs')], upd_same, by rw [List.length_append, lrs]; rfl, (((aB.trans a4).same s4).put nD0 hT).more (by omega), paired_app (rowD_but pr a3.2 ((Same.but s2 d).trans (a4.1.trans (Same.but s4 d)))) (.cons ⟨p3, rfl, n3D, (upd_ne n3D).trans ?_⟩ .nil), paired_snoc hk1 pw ⟨zs', ⟨wz, rfl⟩, ez⟩, (upd_ne n1D).trans (s4 _ _ (a4.1 _ _ (tape_ne aB.2 (s2 _ _ hp3)) (s2 _ _ hp3))), (upd_ne nRD).trans (s4 _ _ (a4.1 _ _ nRd (s2 _ _ hR3)))⟩
            rw [upd_same]
            rfl
          · rintro H3 ⟨rs, yss, hD3, lrs, a3, pr, pw, hp3, hR3⟩
            rw [List.length_map, List.take_of_length_le (Nat.le_refl _)] at a3 pw
            have hrs := paired_sum (g := fun z => 5 * npN k (look ks ds z)) pw fun z hz ys e => by
              obtain ⟨y1, ⟨w1, rfl⟩, _⟩ := e
              have hdm := look_mem hl (hzk z hz)
              have := (wrp_size k _ _ (hgd _ hdm) (hstd _ hdm) w1).1
              show y1.length + 1 + 1 + 1 ≤ _
              omega
            have h3 : (zs.map fun z => 5 * npN k (look ks ds z)).sum = 5 * (ds.map (npN k)).sum := by
              rw [sum_perm _ pm, look_sum (fun d => 5 * npN k d) ks ds hl hnd, sum_five]
            rw [h3] at hrs
            have hr2 := rowS_len yss
            refine ⟨D, rs, yss, rfl, hD3, L2.Paired.mapP pr fun _ _ h => (by obtain ⟨p, e, _, h2⟩ := h; exact ⟨p, e, h2⟩), by omega, fun H5 r5 s5 tx5 => ?_⟩
            refine fin "{" "}" _ H5 p1 r5 (rowS yss) ((a3.same s5).more (by omega)) (s5 _ _ hp3) tx5 (by omega) ⟨zs, yss, pm, L2.Paired.mapP pw fun _ _ h => (by obtain ⟨y1, h1, _⟩ := h; exact ⟨y1, h1⟩), rfl⟩ fun hb => ?_
            rw [paired_fn (f := fun z => z :: ((":" : Str) :: wrN k (look ks ds z))) (L2.Paired.mapP pw fun _ _ h => (by obtain ⟨y1, ⟨_, h1⟩, h2⟩ := h; rw [h1, h2 hb])), hbz hb]
            rfl
end
end Toy


/-! a text times a number -/
namespace L2
open PySem PySem.Spec PyProof.Rows
section
variable {X : Cx}
theorem op_mul01 : OpR X (binaryOp .Mult) (fun x y H Q => ∃ (t : Str) (k : Int), x = .str t ∧ y = .int k ∧ (k = 0 ∨ k = 1) ∧ Q (.str (if k = 0 then Str.empty else t)) H) := by
  intro pins s σ H x y v u Q I rx ry h
  obtain ⟨t, k, rfl, rfl, hk, q⟩ := h
  obtain ⟨t1, rfl⟩ := rx
  obtain ⟨t2, rfl⟩ := ry
  rcases hk with rfl | rfl
  · exact PySem.P.mul_str_none (by decide) (by decide) ⟨.str _, H, I.tok _, ⟨_, rfl⟩, q⟩
  · refine PySem.P.mul_str (by decide) (fun _ h => by simp at h) (fun _ h => by simp at h) ?_
    rw [if_neg (by decide), if_pos (by simp)]
    exact ⟨.str t, H, I, ⟨_, rfl⟩, q⟩
end
end L2
namespace Toy
open PySem PySem.Spec L2 PyProof.Rows PySem.W
/-! ### drawing: a page laid out -/
abbrev sLa : Stmt := top 54
abbrev NLa : List Str := ["_law_tape", "_law_pieces", "_law_found", "_law_last", "_law_piece"]
theorem scLa : FnScope NLa ["_law_tape", "_law_pieces"] (defScope sLa) := ⟨rfl, rfl, rfl, by decide +kernel, rfl, by decide +kernel, by decide +kernel⟩
def spLa : Sp := fun vs H Q _ => ∃ (d l p : Addr) (n B : Nat) (ys : List Str), vs = [.ref d, .ref p] ∧ Tape H d l n ∧ n ≤ 700000 ∧ TxL H p ys ∧ ys ≠ [] ∧ ys.length * (B + 20) + 40 ≤ 1000000 ∧ B ≤ 1000 ∧ Short B ys ∧
  ∀ H' z, After d l n (ys.length + 2) H H' → z.length ≤ 1000000 → LaidT ys z.cps.toList → Q (.str z) H'
theorem cps_app (a b : Str) : (a ++ b).cps.toList = a.cps.toList ++ b.cps.toList := Array.toList_append
section
variable {P : Program} {w : World} {K : PySem.W.Frag} {mg : Str → Option Value} {base : Heap}
theorem ok_la {f fG fA fP : Addr} {fd dG dA dP : FuncData} (F : Fun K "_law_laid" "_law_laid" sLa f fd)
    (GG : FnOk P w K mg base CX0 3 fG dG ["_law_tape", "_law_is_needed"] spGp) (mG : mg "_law_gap" = some (.ref fG)) (kG : PySem.W.keepIn K (.ref fG) = true) (bG : Binds K dG ["_law_tape", "_law_is_needed"] [])
    (GA : FnOk P w K mg base CX0 1 fA dA ["_law_one", "_law_other"] spAp) (mA : mg "_law_is_apart" = some (.ref fA)) (kA : PySem.W.keepIn K (.ref fA) = true) (bA : Binds K dA ["_law_one", "_law_other"] [])
    (GP : FnOk P w K mg base CX0 2 fP dP ["_law_tape", "_law_items"] spPick) (mP : mg "_law_pick" = some (.ref fP)) (kP : PySem.W.keepIn K (.ref fP) = true) (bP : Binds K dP ["_law_tape", "_law_items"] []) (mInt : mg "int" = none) : FnOk P w K mg base CX0 4 f fd ["_law_tape", "_law_pieces"] spLa := by
  refine F.ok (k := 3) scLa (fun vs H Q E h => ?_) (fun cdv A outer s H vs Q E hr h => ?_)
  · obtain ⟨d, l, p, n, B, ys, rfl, _⟩ := h
    rfl
  · obtain ⟨d, l, p, n, B, ys, rfl, hT, hn, hy, hne, hly, hB, hsh, q⟩ := h
    have hr1 := hr.mono (show 1 ≤ 3 by decide)
    have hr2 := hr.mono (show 2 ≤ 3 by decide)
    refine ⟨_, pss_cons (ps_par (i := 2) (j := 3) rfl scLa.nd rfl rfl (by decide) rfl rfl (pa_cons (pe_call GG hr (by rfl) mG kG bG .nil pass0 (pa_cons (pv 0) (pa_cons pe_bl pa_nil))) (pa_cons pe_str pa_nil)) (by rfl))
      (pss_cons (ps_for PassesOwn.never rfl (pi_list (pv 1)) (pg_name (i := 4) scLa.nd rfl (Or.inl rfl))
        (pss_one (ps_par (i := 2) (j := 3) rfl scLa.nd rfl rfl (by decide) rfl rfl (pa_cons (pe_op op_add_str (pe_op op_add_str (pv 2) (pe_op op_mul01 (pe_call GG hr (by rfl) mG kG bG .nil pass0 (pa_cons (pv 0) (pa_cons (pe_not (pe_call GA hr1 (by rfl) mA kA bA .nil pass0 (pa_cons (pv 3) (pa_cons (pv 4) pa_nil)))) pa_nil))) (pe_callTy call_int1 (by rfl) mInt (by decide +kernel) (pa_cons (pe_cmpR op_ne (pv 3) pe_str (nomark _)) pa_nil)))) (pv 4)) (pa_cons (pv 4) pa_nil)) (by rfl))))
      (pss_one (ps_ret (pe_op op_add_str (pv 2) (pe_call GP hr2 (by rfl) mP kP bP .nil pass0 (pa_cons (pv 0) (pa_cons (pe_lst (pa_cons pe_str (pa_cons pe_str (pa_cons pe_str (pa_cons pe_str (pa_cons pe_str pa_nil)))))) pa_nil))))))), ?_⟩
    have e16 : sizeLine = 16777216 := by decide
    have npd := tape_ne hT hy
    have hpos : 0 < ys.length := List.length_pos_iff.mpr hne
    have hl1 : ys.length ≤ 50000 := by
      have : ys.length * 20 ≤ ys.length * (B + 20) := Nat.mul_le_mul_left _ (by omega)
      omega
    refine ⟨_, rfl, d, l, n, false, rfl, hT, by omega, fun H1 z a1 hz hg0 => ⟨_, _, rfl, ?_⟩⟩
    refine ⟨_, rfl, p, rfl, ⟨_, SqL.of (a1.1 _ _ npd hy)⟩, ?_⟩
    refine for_list (K := K) (a := p) (xs := ys.map V.str) (fun i σ H' => ∃ (z x : Str) (o : Option V), σ = [some (.ref d), some (.ref p), some (.str z), some (.str x), o] ∧ After d l n (1 + i) H H' ∧ z.length ≤ 20 + i * (B + 20) ∧ x.length ≤ 1000 ∧ (i = 0 → x = "" ∧ GapC z.cps.toList) ∧ (0 < i → ∀ l, LaidT (ys.drop i) l → LaidT ys (z.cps.toList ++ l)))
      ⟨z, "", none, rfl, a1, by omega, by decide, fun _ => ⟨rfl, hg0⟩, fun z => absurd z (by omega)⟩ ?_ ?_ ?_
    · rintro i σ H' _ ⟨_, _, _, _, a, _⟩
      exact SqL.of (a.1 _ _ npd hy)
    · rintro i v σ H' hx ⟨z, x, o, rfl, a, hz, hx3, h0, h1⟩
      obtain ⟨y, hy1, rfl⟩ : ∃ y, ys[i]? = some y ∧ V.str y = v := by simpa using hx
      have hi := (List.getElem?_eq_some_iff.mp hy1).1
      have hyl := hsh y (List.mem_of_getElem? hy1)
      have him : (i + 1) * (B + 20) ≤ ys.length * (B + 20) := Nat.mul_le_mul_right _ hi
      have hsm : (i + 1) * (B + 20) = i * (B + 20) + (B + 20) := Nat.succ_mul _ _
      have hdr : ys.drop i = y :: ys.drop (i + 1) := by
        rw [List.drop_eq_getElem_cons hi]
        rw [List.getElem?_eq_getElem hi] at hy1
        rw [Option.some.inj hy1]
      refine ⟨_, rfl, _, rfl, _, rfl, _, rfl, x, y, rfl, by omega, by omega, fun r => ⟨r, rfl, d, l, n + (1 + i), !r, rfl, a.2, by omega, fun H2 g a2 hg hgg0 => ?_⟩⟩
      refine ⟨_, rfl, rfl, .inr ⟨_, rfl, g, _, rfl, rfl, ?_, ?_⟩⟩
      · split
        · exact .inr rfl
        · exact .inl rfl
      have hge : x = "" → (if (if (!decide (V.str x = V.str ("" : Str))) = true then (1 : Int) else 0) = 0 then Str.empty else g) = Str.empty := fun e => by
        rw [e]
        rfl
      generalize hgg : (if (if (!decide (V.str x = V.str ("" : Str))) = true then (1 : Int) else 0) = 0 then Str.empty else g) = g2 at hge ⊢
      have hg2 : g2.length ≤ 20 ∧ GapC g2.cps.toList := by
        have any : ∀ k : Int, ((if k = 0 then Str.empty else g)).length ≤ 20 ∧ GapC (if k = 0 then Str.empty else g).cps.toList := fun k => by
          by_cases h : k = 0
          · rw [if_pos h]
            exact ⟨Nat.zero_le _, gap_s0⟩
          · rw [if_neg h]
            exact ⟨hg, hgg0⟩
        rw [← hgg]
        exact any _
      obtain ⟨hg2, hg3⟩ := hg2
      refine ⟨_, _, rfl, rfl, by omega, _, rfl, _, _, rfl, rfl, by rw [len_app]; omega, _, rfl, _, _, rfl, ?_⟩
      refine ⟨_, y, _, rfl, (a.trans a2).more (by omega), ?_, by omega, fun z => by omega, fun _ l hl => ?_⟩
      · rw [len_app, len_app]
        omega
      · rw [cps_app, cps_app]
        by_cases hi0 : i = 0
        · subst hi0
          obtain ⟨ex, gz⟩ := h0 rfl
          rw [hge ex]
          rw [List.drop_zero] at hdr
          rw [hdr]
          refine ⟨z.cps.toList, l, gz, ?_, hl⟩
          show (z.cps.toList ++ []) ++ y.cps.toList ++ l = _
          rw [List.append_nil, List.append_assoc]
        · have := h1 (by omega) (g2.cps.toList ++ (y.cps.toList ++ l)) (by rw [hdr]; exact ⟨_, _, hg3, rfl, hl⟩)
          rw [List.append_assoc, List.append_assoc]
          exact this
    · rintro σ H' ⟨z, x, o, rfl, a, hz, hx3, h0, h1⟩
      rw [List.length_map] at a hz h1
      dsimp only
      refine ret_run ⟨_, rfl, _, rfl, few (by show 5 ≤ 1000; decide), fun p2 n2 => ?_⟩
      have s2 := same_new (u := .lst [V.str "", .str " ", .str "\n", .str "# end", .str " # ) \n#"]) (same_id (H := H')) n2
      refine ⟨d, l, p2, n + (1 + ys.length), _, rfl, a.2.same s2, by omega, upd_same, by simp, by show 5 < 1000000; decide, fun H2 v b2 t2 hv => ?_⟩
      have : ∃ e : Str, v = .str e ∧ e.length ≤ 20 ∧ TailC e.cps.toList := by
        simp only [List.mem_cons, List.not_mem_nil, or_false] at hv
        rcases hv with e | e | e | e | e
        · exact ⟨_, e, by decide, tail_s0⟩
        · exact ⟨_, e, by decide, tail_s1⟩
        · exact ⟨_, e, by decide, tail_s2⟩
        · exact ⟨_, e, by decide, tail_s3⟩
        · exact ⟨_, e, by decide, tail_s4⟩
      obtain ⟨e, rfl, he, hte⟩ := this
      refine ⟨_, _, rfl, rfl, by omega, q H2 _ (((a.same s2).draw b2 t2).more (by omega)) ?_ ?_⟩
      · rw [len_app]
        omega
      · rw [cps_app]
        refine h1 hpos _ ?_
        rw [List.drop_of_length_le (Nat.le_refl _)]
        exact hte
end
end Toy


namespace Toy
open PySem PySem.Spec L2 PyProof.Rows PySem.W
/-! ### data: what follows of rightness -/
theorem dv_new {H H' : Hp} {u : V} {t : D} {k : Nat} (h : Dv k (newH H H') u t) : Dv k H' u t := h.mono (fun b o _ e => (newH_some.mp e).2) (Nat.le_refl _)
theorem key_pr {k : Str} (h : isKey k = true) : k.length ≤ 8 ∧ Pr k := by
  unfold isKey at h
  rw [Bool.and_eq_true, decide_eq_true_eq, List.all_eq_true] at h
  refine ⟨h.1.2, fun c hc => ?_⟩
  have z := h.2 c hc
  unfold low at z
  rw [decide_eq_true_eq] at z
  omega
theorem gd_dok : ∀ (n : Nat) (t : D), Gd n t → DOk n t := by
  intro n
  induction n with
  | zero => intro t h; cases t <;> exact h.elim
  | succ n ih =>
    intro t h
    cases t with
    | non => trivial
    | bl b => trivial
    | int i => exact h
    | str x => exact h
    | lst ds => exact fun d hd => ih d (h d hd)
    | dct ks ds => exact ⟨h.1, h.2.1, fun k hk => key_pr (h.2.2.1 k hk), fun d hd => ih d (h.2.2.2 d hd)⟩
theorem sum_mul (c : Nat) (f : D → Nat) : ∀ l : List D, (l.map fun d => c * f d).sum = c * (l.map f).sum
  | [] => rfl
  | d :: l => by
    rw [List.map_cons, List.sum_cons, List.map_cons, List.sum_cons, sum_mul c f l, Nat.mul_add]
theorem wt_np : ∀ (n : Nat) (t : D), wtN n t + 10 ≤ 500 * npN n t := by
  intro n
  induction n with
  | zero => intro t; cases t <;> (show 410 + 10 ≤ 500 * 1; decide)
  | succ n ih =>
    intro t
    cases t with
    | non => show 410 + 10 ≤ 500 * 1; decide
    | bl b => show 410 + 10 ≤ 500 * 1; decide
    | int i => show 410 + 10 ≤ 500 * 1; decide
    | str x => show 410 + 10 ≤ 500 * 1; decide
    | lst ds =>
      show 20 + (ds.map fun d => wtN n d + 1).sum + 10 ≤ 500 * (1 + (ds.map (npN n)).sum)
      have h1 := sum_le (l := ds) (f := fun d => wtN n d + 1) (g := fun d => 500 * npN n d) fun d _ => by have := ih d; omega
      rw [sum_mul] at h1
      omega
    | dct ks ds =>
      show 20 + (ds.map fun d => wtN n d + 10).sum + 10 ≤ 500 * (1 + (ds.map (npN n)).sum)
      have h1 := sum_le (l := ds) (f := fun d => wtN n d + 10) (g := fun d => 500 * npN n d) fun d _ => ih d
      rw [sum_mul] at h1
      omega
theorem look_map : ∀ (ks : List Str) (ds : List D), ds.length = ks.length → ks.Nodup → ks.map (look ks ds) = ds
  | [], [], _, _ => rfl
  | [], _ :: _, h, _ => by cases h
  | _ :: _, [], h, _ => by cases h
  | k :: ks, d :: ds, hl, hn => by
    rw [List.nodup_cons] at hn
    have ih := look_map ks ds (by simpa using hl) hn.2
    rw [List.map_cons]
    have e1 : look (k :: ks) (d :: ds) k = d := if_pos rfl
    have e2 : ks.map (look (k :: ks) (d :: ds)) = ks.map (look ks ds) := List.map_congr_left fun x hx => if_neg fun (e : k = x) => hn.1 (by rw [e]; exact hx)
    rw [e1, e2, ih]
theorem gd_cn : ∀ (n : Nat) (t u : D), cn n t = cn n u → Gd n t → DOk n u → Gd n u ∧ npN n u = npN n t := by
  intro n
  induction n with
  | zero => intro t u _ h; cases t <;> exact h.elim
  | succ n ih =>
    intro t u h hg ho
    cases t with
    | lst ds =>
      cases u with
      | lst es =>
        have h : ds.map (cn n) = es.map (cn n) := D.lst.inj h
        have hg : ∀ d ∈ ds, Gd n d := hg
        have ho : ∀ d ∈ es, DOk n d := ho
        have key : ∀ (ds es : List D), ds.map (cn n) = es.map (cn n) → (∀ d ∈ ds, Gd n d) → (∀ d ∈ es, DOk n d) → (∀ d ∈ es, Gd n d) ∧ (es.map (npN n)).sum = (ds.map (npN n)).sum := by
          intro ds
          induction ds with
          | nil =>
            intro es e _ _
            cases es with
            | nil => exact ⟨fun d h => (by cases h), rfl⟩
            | cons _ _ => cases e
          | cons d ds ih2 =>
            intro es e h1 h2
            cases es with
            | nil => cases e
            | cons x es =>
              rw [List.map_cons, List.map_cons] at e
              injection e with e1 e2
              obtain ⟨a1, a2⟩ := ih2 es e2 (fun d hd => h1 d (List.mem_cons_of_mem _ hd)) (fun d hd => h2 d (List.mem_cons_of_mem _ hd))
              obtain ⟨b1, b2⟩ := ih d x e1 (h1 d List.mem_cons_self) (h2 x List.mem_cons_self)
              refine ⟨fun y hy => ?_, by rw [List.map_cons, List.sum_cons, List.map_cons, List.sum_cons, a2, b2]⟩
              rcases List.mem_cons.mp hy with rfl | hy
              · exact b1
              · exact a1 y hy
        obtain ⟨a1, a2⟩ := key ds es h hg ho
        refine ⟨a1, ?_⟩
        show 1 + _ = 1 + _
        rw [a2]
      | dct _ _ => cases h
      | non => cases h
      | bl _ => cases h
      | int _ => cases h
      | str _ => cases h
    | dct ks ds =>
      cases u with
      | dct js es =>
        obtain ⟨h1, h2⟩ := D.dct.inj h
        rw [← h1] at h2
        have e := map_ext h2
        obtain ⟨g1, g2, g3, g4⟩ := (show ds.length = ks.length ∧ ks.Nodup ∧ (∀ k ∈ ks, isKey k = true) ∧ ∀ d ∈ ds, Gd n d from hg)
        obtain ⟨o1, o2, _, o4⟩ := (show es.length = js.length ∧ js.Nodup ∧ (∀ k ∈ js, k.length ≤ 8 ∧ Pr k) ∧ ∀ d ∈ es, DOk n d from ho)
        have pm : js.Perm ks := (skeys_perm js).symm.trans (by rw [← h1]; exact skeys_perm ks)
        have at' : ∀ k ∈ js, Gd n (look js es k) ∧ npN n (look js es k) = npN n (look ks ds k) := fun k hk => by
          have hks : k ∈ ks := pm.mem_iff.mp hk
          exact ih _ _ (e k ((skeys_perm ks).mem_iff.mpr hks)) (g4 _ (look_mem g1 hks)) (o4 _ (look_mem o1 hk))
        refine ⟨⟨o1, o2, fun k hk => g3 k (pm.mem_iff.mp hk), fun d hd => ?_⟩, ?_⟩
        · rw [← look_map js es o1 o2] at hd
          obtain ⟨k, hk, rfl⟩ := List.mem_map.mp hd
          exact (at' k hk).1
        · show 1 + (es.map (npN n)).sum = 1 + (ds.map (npN n)).sum
          rw [← look_sum (npN n) js es o1 o2, ← look_sum (npN n) ks ds g1 g2, ← sum_perm (fun k => npN n (look ks ds k)) pm]
          exact congrArg (1 + ·) (congrArg List.sum (List.map_congr_left fun k hk => (at' k hk).2))
      | lst _ => cases h
      | non => cases h
      | bl _ => cases h
      | int _ => cases h
      | str _ => cases h
    | non => cases u <;> first | exact ⟨trivial, rfl⟩ | cases h
    | bl b => cases u <;> first | exact ⟨trivial, rfl⟩ | cases h
    | int b =>
      cases u with
      | int c => cases h; exact ⟨hg, rfl⟩
      | _ => cases h
    | str b =>
      cases u with
      | str c => cases h; exact ⟨hg, rfl⟩
      | _ => cases h
theorem laid_joinL : ∀ (ys : List Str), ys ≠ [] → ∀ g, GapC g → LaidT ys (g ++ TL.joinL [32] (ys.map fun y => y.cps.toList))
  | [], h, _, _ => absurd rfl h
  | [y], _, g, hg => by
    refine ⟨g, [], hg, ?_, tail_s0⟩
    simp [TL.joinL]
  | y :: z :: r, _, g, hg => by
    refine ⟨g, [32] ++ TL.joinL [32] ((z :: r).map fun y => y.cps.toList), hg, ?_, laid_joinL (z :: r) (by simp) [32] ⟨gap_sp (.inl rfl) gap_nil, fun c e => by cases e; exact .inl rfl⟩⟩
    simp [TL.joinL]
theorem laid_join {ys : List Str} (h : ys ≠ []) : LaidT ys (Txt.join " " ys).cps.toList := by
  rw [join_list, show (" " : Str).cps.toList = [32] by decide +kernel]
  exact laid_joinL ys h [] ⟨gap_nil, fun c e => by cases e⟩
theorem short_sum {B : Nat} {ys : List Str} (h : Short B ys) : (ys.map (·.length)).sum ≤ ys.length * B := by
  have h1 := sum_le (l := ys) (f := (·.length)) (g := fun _ => B) (fun y hy => h y hy)
  rw [List.map_const', List.sum_replicate_nat] at h1
  exact h1
/-- what is read of a right text -/
theorem read_right {t : D} {ys : List Str} {l : List Nat} (hg : Gd 60 t) (hw : WrP 60 t ys) (hn : npN 60 t ≤ 1000) (h : LaidT ys l) : ∃ t' n m, datumA (rowA l) = .ok t' n m ∧ Gd 60 t' ∧ npN 60 t' ≤ 1000 ∧ wtN 60 t' ≤ 1000000 ∧ DOk 60 t' ∧ shN 60 t' = shN 60 t ∧ wrN 60 t' = wrN 60 t := by
  obtain ⟨t', n, m, h1, h2⟩ := read_laid hg hw hn h
  obtain ⟨f1, f2⟩ := datum_fits h1
  obtain ⟨g1, g2⟩ := gd_cn 60 t t' h2.symm hg f1
  obtain ⟨c1, c2⟩ := cn_same 60 t' t h2
  exact ⟨t', n, m, h1, g1, by omega, by omega, f1, c1, c2⟩
end Toy


/-! a call by names alone; a call of a def that may raise, where it does not -/
namespace L2
open PySem PySem.Spec PyProof.Rows PySem.W
theorem passX0 {P : Program} {w : World} {X : Cx} : Passes (L2.CX P w) X E0 := by
  intro pins σ H s e s' I h
  obtain ⟨a, B, H', cls, d, _, _, _, _, _, _, _, h⟩ := h
  exact h.elim
theorem pe_callK0 {X : Cx} {CX : CXT} {k : Nat} {f : Addr} {fd : FuncData} {ps ks : List Str} {sp : Sp} {E : XK} {x : Str}
    {p pos : Pos} {kws : List Keyword} {tk : TA} {g : List Value → List Value → List Value} {gV : List V → List V → List V}
    (F : FnOk X.prog X.w X.K X.mg X.base CX k f fd ps sp) (hr : Room k X.A) (hg : Gl X x) (hm : X.mg x = some (.ref f)) (hk : keepIn X.K (.ref f) = true) (hb : KBinds X.K fd ps ks g gV) (hx : Passes CX X E) (hkw : PK X kws tk)
    (hall : ((backToKw pos (keywordEach kws X.env)).all fun x => x.fst.isSome) = true := by rfl)
    (hks : List.filterMap (fun x => x.fst) (backToKw pos (keywordEach kws X.env)) = ks := by rfl)
    (hdb : (x == Str.ofString "__debug__") = false := by rfl)
    (hpl : (((backTo pos (starEach [] X.env)).any fun x => x.fst) || (backToKw pos (keywordEach kws X.env)).any fun x => x.fst.isNone) = false := by rfl) :
    PE X (.Call (.Name x p) [] kws pos) (tCallK sp gV E tNil tk) := by
  refine ⟨fun pins s σ H Q I h => wpAny_Call_Name_kw (ld_glob I hg hm (callWith_KW0 I.ok.mod.kin hk hall (thn (hkw.run pos pins s σ H (fun zs H2 => sp (gV [] zs) H2 Q E) I h) fun ws s2 x => ?_) hpl) hdb)⟩
  obtain ⟨zs, H2, I2, rz, q2⟩ := x
  refine ⟨Inv.kIn I2, ?_⟩
  rw [hks]
  exact run_fnk F hr hb hx I2 .nil rz q2
end L2
namespace Toy
open PySem PySem.Spec L2 PyProof.Rows PySem.W
/-! ### the law's test of a datum -/
abbrev sRi : Stmt := top 55
abbrev NRi : List Str := ["_law_tape", "_law_item", "_law_least", "_law_other"]
theorem scRi : FnScope NRi ["_law_tape", "_law_item"] (defScope sRi) := ⟨rfl, rfl, rfl, by decide +kernel, rfl, by decide +kernel, by decide +kernel⟩
/-- a datum beside the tape, and its sizes -/
structure Fine (d : Addr) (c : Nat) (H G : Hp) (v : V) (t : D) : Prop where
  dv : Dv 60 G v t
  part : Part d G H
  g : Gd 60 t
  m : Sm 60 t
  s : StL c 60 t
  p : npN 60 t ≤ 1000
  z : 5 * npN 60 t * (2 * c + 54) + 40 ≤ 1000000
  c : c ≤ 200
def spRi : Sp := fun vs H Q _ => ∃ (d l : Addr) (n c : Nat) (v : V) (t : D) (G : Hp), vs = [.ref d, v] ∧ Tape H d l n ∧ n + 50 * npN 60 t ≤ 700000 ∧ Fine d c H G v t ∧
  ∀ H', After d l n (50 * npN 60 t) H H' → Q (.bl true) H'
abbrev gApp {α : Type} (a b : List α) : List α := a ++ b
section
variable {P : Program} {w : World} {K : PySem.W.Frag} {mg : Str → Option Value} {base : Heap} {CT : Addr}
theorem ok_rt {f fD fW fS fR fL : Addr} {fd dD dW dS dR dL : FuncData} (F : Fun K "_law_right" "_law_right" sRi f fd)
    (GD : FnOk P w K mg base CX0 63 fD dD ["_law_tape", "_law_item", "_law_is_least"] (spDp 60)) (mD : mg "_law_data_pieces" = some (.ref fD)) (kD : PySem.W.keepIn K (.ref fD) = true) (bD : Binds K dD ["_law_tape", "_law_item", "_law_is_least"] [])
    (GW : FnOk P w K mg base CX0 63 fW dW ["datum"] spWd) (mW : mg "write_datum" = some (.ref fW)) (kW : PySem.W.keepIn K (.ref fW) = true) (bW : Binds K dW ["datum"] []) (bWk : KBinds K dW ["datum"] ["datum"] gApp gApp)
    (GS : FnOk P w K mg base CX0 62 fS dS ["_law_item"] (spSh 60)) (mSh : mg "_law_shown" = some (.ref fS)) (kSh : PySem.W.keepIn K (.ref fS) = true) (bSh : Binds K dS ["_law_item"] [])
    (GR : FnOk P w K mg base (L2.CX P w) 126 fR dR ["text"] (spDR CT K)) (mR : mg "read_datum" = some (.ref fR)) (kR : PySem.W.keepIn K (.ref fR) = true) (bR : Binds K dR ["text"] []) (bRk : KBinds K dR ["text"] ["text"] gApp gApp)
    (GL : FnOk P w K mg base CX0 4 fL dL ["_law_tape", "_law_pieces"] spLa) (mL : mg "_law_laid" = some (.ref fL)) (kL : PySem.W.keepIn K (.ref fL) = true) (bL : Binds K dL ["_law_tape", "_law_pieces"] []) :
    FnOk P w K mg base CX0 127 f fd ["_law_tape", "_law_item"] spRi := by
  refine F.ok (k := 126) scRi (fun vs H Q E h => ?_) (fun cdv A outer s H vs Q E hr h => ?_)
  · obtain ⟨d, l, n, c, v, t, G, rfl, _⟩ := h
    rfl
  · obtain ⟨d, l, n, c, v, t, G, rfl, hT, hn, ⟨hv, hG, hg, hsm, hst, hnp, hz, hc⟩, q⟩ := h
    have hr62 := hr.mono (show 62 ≤ 126 by decide)
    have hr63 := hr.mono (show 63 ≤ 126 by decide)
    have hr4 := hr.mono (show 4 ≤ 126 by decide)
    refine ⟨_, pss_cons (ps_set (i := 2) scRi.nd rfl (Or.inl rfl) (pe_bm PySem.F.plainAttrs_str PySem.F.slot_str_join PySem.F.type_str_join mt_join pe_str (pa_cons (pe_call GD hr63 (by rfl) mD kD bD .nil pass0 (pa_cons (pv 0) (pa_cons (pv 1) (pa_cons pe_bl pa_nil)))) pa_nil)))
      (pss_cons (ps_if (PW.pt (pw_or (pt_cmpR op_ne (pe_call GW hr63 (by rfl) mW kW bW .nil pass0 (pa_cons (pv 1) pa_nil)) (pv 2) (nomark _))
          (pw_or1 (pt_cmpR op_ne (pe_call GS hr62 (by rfl) mSh kSh bSh .nil pass0 (pa_cons (pe_call (E := E0) GR hr (by rfl) mR kR bR .nil passX0 (pa_cons (pv 2) pa_nil)) pa_nil)) (pe_call GS hr62 (by rfl) mSh kSh bSh .nil pass0 (pa_cons (pv 1) pa_nil)) (nomark _)))))
        (pss_one (ps_ret pe_bl)) pss_nil)
      (pss_cons (ps_set (i := 3) scRi.nd rfl (Or.inl rfl) (pe_call GL hr4 (by rfl) mL kL bL .nil pass0 (pa_cons (pv 0) (pa_cons (pe_call GD hr63 (by rfl) mD kD bD .nil pass0 (pa_cons (pv 0) (pa_cons (pv 1) (pa_cons pe_bl pa_nil)))) pa_nil))))
      (pss_one (ps_ret (pe_and (pe_cmpR op_eq (pe_call GS hr62 (by rfl) mSh kSh bSh .nil pass0 (pa_cons (pe_call (E := E0) GR hr (by rfl) mR kR bR .nil passX0 (pa_cons (pv 3) pa_nil)) pa_nil)) (pe_call GS hr62 (by rfl) mSh kSh bSh .nil pass0 (pa_cons (pv 1) pa_nil)) (nomark _))
        (pe_one (pe_cmpR op_eq (pe_callK0 GW hr63 (by rfl) mW kW bWk pass0 (pk_cons (pe_callK0 (E := E0) GR hr (by rfl) mR kR bRk passX0 (pk_cons (pv 3) pk_nil)) pk_nil)) (pv 2) (nomark _)))))))), ?_⟩
    have hsz := wr_size hg hst
    have hdok := gd_dok 60 t hg
    have hwt := wt_np 60 t
    have hB : (wrN 60 t).length * (2 * c + 34) ≤ 5 * npN 60 t * (2 * c + 54) := Nat.mul_le_mul (by omega) (by omega)
    have hlb : ∀ {ys : List Str}, ys.length + 3 ≤ 5 * npN 60 t → Short (2 * c + 34) ys → (ys.map (·.length)).sum + ys.length * 1 ≤ 1000000 := fun {ys} h1 h2 => by
      have h3 := short_sum h2
      have h4 : ys.length * (2 * c + 34) ≤ 5 * npN 60 t * (2 * c + 34) := Nat.mul_le_mul_right _ (by omega)
      have h5 : 5 * npN 60 t * (2 * c + 54) = 5 * npN 60 t * (2 * c + 34) + 5 * npN 60 t * 20 := by rw [← Nat.mul_add]
      omega
    have shown : ∀ {H1 : Hp} {v1 : V} {t1 : D} {te : TE} {σ : L2.St} {R : VK}, Dv 60 H1 v1 t1 → DOk 60 t1 → wtN 60 t1 ≤ 1000000 → (∀ H2, Same H1 H2 → R (.str (shN 60 t1)) H2) → spSh 60 [v1] H1 R E0 := fun {H1 v1 t1 te σ R} h1 h2 h3 k => ⟨v1, t1, 60, rfl, Nat.le_refl _, h1, h2, h3, k⟩
    have read : ∀ {H1 : Hp} {z : Str} {ys : List Str} {R : VK}, z.length ≤ 1000000 → WrP 60 t ys → LaidT ys z.cps.toList → (∀ H2 u t', Same H1 H2 → Dv 60 H2 u t' → Gd 60 t' → npN 60 t' ≤ 1000 → wtN 60 t' ≤ 1000000 → DOk 60 t' → shN 60 t' = shN 60 t → wrN 60 t' = wrN 60 t → R u H2) → spDR CT K [.str z] H1 R E0 := fun {H1 z ys R} h1 h2 h3 k => by
      obtain ⟨t', n', m', e, g1, g2, g3, g4, g5, g6⟩ := read_right hg h2 hnp h3
      refine ⟨_, rfl, .inl ⟨z, rfl, h1⟩, fun z' hz' => ?_, fun hn => absurd rfl (hn z)⟩
      cases hz'
      rw [e]
      exact fun H2 u s2 hu => k H2 u t' s2 (dv_new hu) g1 g2 g3 g4 g5 g6
    refine asg_run ⟨rfl, _, rfl, _, rfl, d, l, n, 60, v, t, true, G, Nat.le_refl _, rfl, hT, by omega, hv, hg, hsm, hnp, hG, fun H1 r1 ys1 a1 _ tx1 w1 e1 => ?_⟩
    obtain rfl := e1 rfl
    have hjl : (Txt.join " " (wrN 60 t)).length ≤ 1000000 := by
      have h1 := join_len " " (wrN 60 t)
      have h2 := hlb hsz.1 hsz.2.2
      have h3 : ∀ ys : List Str, (ys.map fun y => y.length + (" " : Str).length).sum = (ys.map (·.length)).sum + ys.length * 1 := fun ys => by
        induction ys with
        | nil => rfl
        | cons y ys ih =>
          have e : (" " : Str).length = 1 := rfl
          rw [List.map_cons, List.sum_cons, ih, List.map_cons, List.sum_cons, List.length_cons]
          omega
      rw [h3] at h1
      omega
    refine ⟨" ", r1, wrN 60 t, rfl, rfl, .inl (SqL.of tx1), ?_, ?_⟩
    · have := hlb hsz.1 hsz.2.2
      have e : (" " : Str).length = 1 := rfl
      rw [e]
      omega
    dsimp only [gName]
    have hla : LaidT (wrN 60 t) (Txt.join " " (wrN 60 t)).cps.toList := laid_join hsz.2.1
    have hsm2 : ((wrN 60 t).map (·.length)).sum ≤ 10000000 := by
      have := hlb hsz.1 hsz.2.2
      omega
    have dvA : ∀ {k : Nat} {H' : Hp}, After d l n k H H' → Dv 60 H' v t := fun {k H'} a => hv.mono (fun b o _ e => ((hG.up a.1) b o e).2) (Nat.le_refl _)
    have hwt1 : wtN 60 t ≤ 1000000 := by omega
    refine ifs_valS (v := false) (fun Q' kk => ?_) (fun h => by cases h) (fun _ H2 s2 => nxt_run ?_)
    · refine tor_valS (b := false) (c := false) (fun Q' kk => ?_) (fun _ H2 s2 Q' kk => ?_) kk
      · refine ⟨_, rfl, v, t, rfl, ⟨dvA a1, hg, hnp⟩, hsm2, fun H2 s2 => ⟨_, rfl, rfl, _, rfl, ?_⟩⟩
        rw [dec_s, decide_eq_true rfl]
        exact kk H2 s2
      · refine ⟨_, rfl, read hjl (wr_wrP 60 t) hla fun H3 u t' s3 hu g1 g2 g3 g4 g5 g6 => ⟨_, _, 60, rfl, Nat.le_refl _, hu, g4, g3, fun H4 s4 => ⟨_, rfl, _, _, 60, rfl, Nat.le_refl _, dvA (a1.same (s2.trans (s3.trans s4))), hdok, hwt1, fun H5 s5 => ⟨rfl, _, rfl, ?_⟩⟩⟩⟩
        rw [g5, dec_s, decide_eq_true rfl]
        exact kk H5 (s3.trans (s4.trans s5))
    have a2 := a1.same s2
    refine asg_run ⟨_, rfl, _, rfl, _, rfl, d, l, n + 20 * npN 60 t, 60, v, t, false, G, Nat.le_refl _, rfl, a2.2, by omega, hv, hg, hsm, hnp, hG.up a2.1, fun H3 r3 ys3 a3 _ tx3 w3 _ => ?_⟩
    have hs3 := wrp_size 60 t ys3 hg hst w3
    have hB3 : ys3.length * (2 * c + 34 + 20) ≤ 5 * npN 60 t * (2 * c + 54) := Nat.mul_le_mul (by omega) (by omega)
    refine ⟨d, l, r3, n + 20 * npN 60 t + 20 * npN 60 t, 2 * c + 34, ys3, rfl, a3.2, by omega, tx3, hs3.2.1, by omega, by omega, hs3.2.2, fun H4 z a4 hz4 hl4 => ?_⟩
    dsimp only [gName]
    have a5 : After d l n (50 * npN 60 t) H H4 := ((a2.trans a3).trans (by rw [← Nat.add_assoc]; exact a4)).more (by omega)
    refine ret_run ⟨_, rfl, read hz4 w3 hl4 fun H5 u t' s5 hu g1 g2 g3 g4 g5 g6 => ⟨_, _, 60, rfl, Nat.le_refl _, hu, g4, g3, fun H6 s6 => ⟨_, rfl, _, _, 60, rfl, Nat.le_refl _, dvA (a5.same (s5.trans s6)), hdok, hwt1, fun H7 s7 => ⟨rfl, _, rfl, ?_⟩⟩⟩⟩
    rw [g5, decide_eq_true rfl]
    refine iteT ⟨_, rfl, read hz4 w3 hl4 fun H8 u8 t8 s8 hu8 k1 k2 k3 k4 k5 k6 => ⟨u8, t8, rfl, ⟨hu8, k1, k2⟩, by rw [k6]; exact hsm2, fun H9 s9 => ⟨_, rfl, rfl, ?_⟩⟩⟩
    rw [k6, decide_eq_true rfl]
    exact q H9 (a5.same (s5.trans (s6.trans (s7.trans (s8.trans s9)))))
end
end Toy


namespace Toy
open PySem PySem.Spec L2 PyProof.Rows PySem.W
/-! ### the law -/
abbrev sLaw : Stmt := top 56
abbrev NLw : List Str := ["_law_script", "_law_tape", "_law_turn", "_law_again", "_law_deep", "_law_k"]
theorem scLw : FnScope NLw ["_law_script"] (defScope sLaw) := ⟨rfl, rfl, rfl, by decide +kernel, rfl, by decide +kernel, by decide +kernel⟩
def spLaw (K : PySem.W.Frag) : Sp := fun vs H Q _ => ∃ (a : Addr) (ns : List Int), vs = [.ref a] ∧ SqL K H a (ns.map V.int) ∧ ns.length ≤ 63 ∧ ∀ H', Q (.bl true) H'
/-- the heap but the tape -/
def hide (d : Addr) (H : Hp) : Hp := fun b => if b = d then none else H b
theorem hide_some {d : Addr} {H : Hp} {b : Addr} {o : HO} (h : hide d H b = some o) : b ≠ d ∧ H b = some o := by
  unfold hide at h
  split at h
  · cases h
  · rename_i hb
    exact ⟨hb, h⟩
theorem hide_of {d : Addr} {H : Hp} {b : Addr} {o : HO} (hb : b ≠ d) (h : H b = some o) : hide d H b = some o := by
  unfold hide
  rw [if_neg hb]
  exact h
theorem hide_but {d : Addr} {H H' : Hp} (s : But d H H') : ∀ b o, hide d H b = some o → hide d H' b = some o := fun b o e => by
  obtain ⟨h1, h2⟩ := hide_some e
  exact hide_of h1 (s b o h1 h2)
theorem fine_of {d : Addr} {c k bb : Nat} {H : Hp} {v : V} {t : D} (hd : Dv k (hide d H) v t) (hf : Fit c k bb t) (hk : k ≤ 60) (hb : bb ≤ 1000) (hz : 5 * bb * (2 * c + 54) + 40 ≤ 1000000) (hc : c ≤ 200) : Fine d c H (hide d H) v t ∧ npN 60 t ≤ bb := by
  have e : k + (60 - k) = 60 := by omega
  have h := hf.to (60 - k)
  rw [e] at h
  have hp := h.p
  have h1 : 5 * npN 60 t * (2 * c + 54) ≤ 5 * bb * (2 * c + 54) := Nat.mul_le_mul_right _ (by omega)
  exact ⟨⟨hd.mono (fun b o _ e => e) hk, fun b o e => hide_some e, h.g, h.m, h.s, by omega, by omega, hc⟩, hp⟩
theorem nodup_one (x : Str) : [x].Nodup := List.nodup_cons.mpr ⟨fun h => (by cases h), List.nodup_nil⟩
theorem paired_rep {α β : Type} {F : α → β → Prop} {x : α} {y : β} (h : F x y) : ∀ n : Nat, Paired F (List.replicate n x) (List.replicate n y)
  | 0 => .nil
  | n + 1 => .cons h (paired_rep h n)
structure LawT (mg : Str → Option Value) : Prop where
  len : mg "len" = none
  range : mg "range" = none
  min : mg "min" = none
section
variable {P : Program} {w : World} {K : PySem.W.Frag} {mg : Str → Option Value} {base : Heap}
theorem body_law {f fB fD fPi fLe fDt fRi : Addr} {dB dD dPi dLe dDt dRi : FuncData} (L : LawT mg)
    (GB : FnOk P w K mg base CX0 1 fB dB ["_law_script"] (spBegin K)) (mB : mg "_law_begin" = some (.ref fB)) (kB : PySem.W.keepIn K (.ref fB) = true) (bB : Binds K dB ["_law_script"] [])
    (GD : FnOk P w K mg base CX0 1 fD dD ["_law_tape", "_law_many"] spDraw) (mD : mg "_law_draw" = some (.ref fD)) (kD : PySem.W.keepIn K (.ref fD) = true) (bD : Binds K dD ["_law_tape", "_law_many"] [])
    (GPi : FnOk P w K mg base CX0 2 fPi dPi ["_law_tape", "_law_items"] spPick) (GPs : FnOk P w K mg base CX0 2 fPi dPi ["_law_tape", "_law_items"] spPickS) (mPi : mg "_law_pick" = some (.ref fPi)) (kPi : PySem.W.keepIn K (.ref fPi) = true) (bPi : Binds K dPi ["_law_tape", "_law_items"] [])
    (GLe : FnOk P w K mg base CX0 4 fLe dLe ["_law_tape"] spLe) (mLe : mg "_law_leaf" = some (.ref fLe)) (kLe : PySem.W.keepIn K (.ref fLe) = true) (bLe : Binds K dLe ["_law_tape"] [])
    (GDt : FnOk P w K mg base CX0 10 fDt dDt ["_law_tape", "_law_deep"] (spDt 5)) (mDt : mg "_law_datum" = some (.ref fDt)) (kDt : PySem.W.keepIn K (.ref fDt) = true) (bDt : Binds K dDt ["_law_tape", "_law_deep"] [])
    (GRi : FnOk P w K mg base CX0 127 fRi dRi ["_law_tape", "_law_item"] spRi) (mRi : mg "_law_right" = some (.ref fRi)) (kRi : PySem.W.keepIn K (.ref fRi) = true) (bRi : Binds K dRi ["_law_tape", "_law_item"] []) :
    BodyOk P w K mg base 127 NLw "law" (defScope sLaw) (defBody sLaw) f (spLaw K) := by
  intro cdv s H vs Q E hr h
  obtain ⟨a, ns, rfl, hS, hlen, q⟩ := h
  have hr1 := hr.mono (show 1 ≤ 127 by decide)
  have hr2 := hr.mono (show 2 ≤ 127 by decide)
  have hr4 := hr.mono (show 4 ≤ 127 by decide)
  have hr10 := hr.mono (show 10 ≤ 127 by decide)
  refine ⟨_, PSs.nox (pss_cons (ps_set (i := 1) scLw.nd rfl (Or.inr rfl) (pe_call GB hr1 (by rfl) mB kB bB .nil pass0 (pa_cons (pv 0) pa_nil)))
    (pss_cons (ps_for PassesOwn.never rfl (pi_range1 (by rfl) L.range (pa_cons (pe_op op_add pe_int (pe_callB (call_min2 rfl) (by rfl) L.min (by decide +kernel) (pa_cons pe_int (pa_cons (pe_callB call_len_seq (by rfl) L.len PySem.boot_len (pa_cons (pv 0) pa_nil)) pa_nil)))) pa_nil)) (pg_name (i := 2) scLw.nd rfl (Or.inl rfl))
      (pss_one (ps_for PassesOwn.never rfl (pi_range1 (by rfl) L.range (pa_cons pe_int pa_nil)) (pg_name (i := 3) scLw.nd rfl (Or.inl rfl))
        (pss_one (ps_if (pt_not (pt_val (pe_call GRi hr (by rfl) mRi kRi bRi .nil pass0 (pa_cons (pv 1) (pa_cons (pe_call GDt hr10 (by rfl) mDt kDt bDt .nil pass0 (pa_cons (pv 1) (pa_cons pe_int pa_nil))) pa_nil))))) (pss_one (ps_ret pe_bl)) pss_nil)))))
    (pss_cons (ps_set (i := 4) scLw.nd rfl (Or.inl rfl) (pe_call GPi hr2 (by rfl) mPi kPi bPi .nil pass0 (pa_cons (pv 1) (pa_cons (pe_lst (pa_cons (pe_lst pa_nil) (pa_cons pe_dnewK (pa_cons pe_int pa_nil)))) pa_nil))))
    (pss_cons (ps_for PassesOwn.never rfl (pi_range1 (by rfl) L.range (pa_cons pe_int pa_nil)) (pg_name (i := 5) scLw.nd rfl (Or.inl rfl))
      (pss_one (ps_set (i := 4) scLw.nd rfl (Or.inl rfl) (pe_ifExp (pt_cmpR op_eq (pe_call GD hr1 (by rfl) mD kD bD .nil pass0 (pa_cons (pv 1) (pa_cons pe_int pa_nil))) pe_int (nomark _)) (pe_lst (pa_cons (pv 4) pa_nil))
        (pe_disp (pps_cons (pe_call GPi hr2 (by rfl) mPi kPi bPi .nil pass0 (pa_cons (pv 1) (pa_cons (pe_lst (pa_cons pe_str (pa_cons pe_str pa_nil))) pa_nil))) (pv 4) pps_nil) (by rfl) (by rfl) (fun z => by cases z) (by decide))))))
    (pss_cons (ps_if (PW.pt (pw_or (pt_not (pt_val (pe_call GRi hr (by rfl) mRi kRi bRi .nil pass0 (pa_cons (pv 1) (pa_cons (pv 4) pa_nil)))))
        (pw_or1 (pt_not (pt_val (pe_call GRi hr (by rfl) mRi kRi bRi .nil pass0 (pa_cons (pv 1) (pa_cons (pe_op op_rep (pe_lst (pa_cons (pe_call GLe hr4 (by rfl) mLe kLe bLe .nil pass0 (pa_cons (pv 1) pa_nil)) pa_nil)) (pe_call GPi hr2 (by rfl) mPi kPi bPi .nil pass0 (pa_cons (pv 1) (pa_cons (pe_lst (pa_cons pe_int (pa_cons pe_int pa_nil))) pa_nil)))) pa_nil))))))))
      (pss_one (ps_ret pe_bl)) pss_nil)
    (pss_one (ps_ret (pe_call GRi hr (by rfl) mRi kRi bRi .nil pass0 (pa_cons (pv 1) (pa_cons (pe_bm PySem.F.plainAttrs_str PySem.F.slot_str_join PySem.F.type_str_join mt_join pe_str
      (pa_cons (pe_lc (own := [("_law_k", 5)]) (g := gName 5) (by rfl) scLw.nd (pi_range1 (by rfl) L.range (pa_cons (pe_call GPi hr2 (by rfl) mPi kPi bPi .nil pass0 (pa_cons (pv 1) (pa_cons (pe_lst (pa_cons pe_int (pa_cons pe_int pa_nil))) pa_nil))) pa_nil))
        (blkOk_by (own := [("_law_k", 5)]) (N := NLw) (sc := defScope sLaw) (by decide +kernel)) (fun _ _ _ _ _ => pg_name (i := 5) scLw.nd rfl (Or.inl rfl)) (fun _ _ _ _ _ => pts_nil)
        (fun _ _ _ _ _ => pe_call GPs hr2 (by rfl) mPi kPi bPi .nil pass0 (pa_cons (pv 1) (pa_cons pe_str pa_nil)))) pa_nil)) pa_nil))))))))))
    , ?_⟩
  have e16 : sizeLine = 16777216 := by decide
  refine ⟨_, rfl, a, ns, rfl, hS, hlen, fun H1 d l s1 nd nl nld hT => ?_⟩
  have hS1 := s1.seq hS
  refine ⟨_, rfl, _, _, rfl, .inl hS1, _, _, rfl, _, _, rfl, rfl, _, rfl, ?_, ?_, ?_⟩
  · have e : (List.map V.int ns).length = ns.length := List.length_map _
    split <;> omega
  · have e : (List.map V.int ns).length = ns.length := List.length_map _
    split <;> omega
  generalize hn : (5 + (if (((List.map V.int ns).length : Nat) : Int) < 5 then (((List.map V.int ns).length : Nat) : Int) else 5) : Int).toNat = n
  have hn10 : n ≤ 10 := by
    rw [← hn]
    split <;> omega
  have hbn : bn 4 = 121 := rfl
  refine for_range (lo := 0) (n := n) (fun i σ H' => ∃ o2 o3 o4 o5 : Option V, σ = [some (.ref a), some (.ref d), o2, o3, o4, o5] ∧ Tape H' d l (40600 * i)) ⟨_, _, _, _, rfl, hT⟩ ?_ ?_
  · rintro tn σ H2 htn ⟨o2, o3, o4, o5, rfl, t2⟩
    refine ⟨4, rfl, by decide, by decide, ?_⟩
    refine for_range (lo := 0) (n := (4 : Int).toNat) (fun i σ H' => ∃ o2 o3 o4 o5 : Option V, σ = [some (.ref a), some (.ref d), o2, o3, o4, o5] ∧ Tape H' d l (40600 * tn + 10150 * i)) ⟨_, _, _, _, rfl, t2⟩ ?_ ?_
    · rintro i σ H3 hi ⟨o2, o3, o4, o5, rfl, t3⟩
      have hi4 : i < 4 := hi
      refine ⟨_, rfl, _, rfl, d, l, 40600 * tn + 10150 * i, 4, by decide, rfl, t3, by omega, fun H4 v a4 hv => ?_⟩
      obtain ⟨t, hd, hf⟩ := hv
      have hd' : Dv 5 (hide d H4) v t := hd.mono (fun b o _ e => by
        obtain ⟨e1, e2⟩ := newH_some.mp e
        obtain ⟨o1, ho⟩ := t3.at.1
        exact hide_of (fun z => by rw [z, ho] at e1; cases e1) e2) (Nat.le_refl _)
      obtain ⟨hfine, hnp⟩ := fine_of (bb := bn 4) (c := 4) hd' hf (by decide) (by decide) (by decide) (by decide)
      refine ⟨d, l, 40600 * tn + 10150 * i + 16 * 4 ^ 4, 4, v, t, hide d H4, rfl, a4.2, by omega, hfine, fun H5 a5 => ⟨_, rfl, iteF ?_⟩⟩
      exact ⟨_, _, _, _, rfl, a5.2.more (by omega)⟩
    · rintro σ H3 ⟨o2, o3, o4, o5, rfl, t3⟩
      exact ⟨_, _, _, _, rfl, t3.more (by show _ + 10150 * 4 ≤ _; omega)⟩
  · rintro σ H2 ⟨o2, o3, o4, o5, rfl, t2⟩
    have a2 := After.refl t2
    dsimp only
    refine asg_run ⟨_, rfl, few (by show 0 ≤ 1000; decide), fun p1 n1 => fun p2 n2 => ⟨few (by show 3 ≤ 1000; decide), fun p3 n3 => ?_⟩⟩
    have a3 := a2.same (same_new (u := .lst [.ref p1, .ref p2, .int 1]) (same_new (u := .dK []) (same_new (u := .lst []) same_id n1) n2) n3)
    have h12 : p1 ≠ p2 := ne_of_none upd_same n2
    have h23 : p2 ≠ p3 := ne_of_none upd_same n3
    have hp1 : (upd (upd (upd H2 p1 (.lst [])) p2 (.dK [])) p3 (.lst [.ref p1, .ref p2, .int 1])) p1 = some (.lst []) := same_new (same_new same_id n2) n3 _ _ upd_same
    have hp2 : (upd (upd (upd H2 p1 (.lst [])) p2 (.dK [])) p3 (.lst [.ref p1, .ref p2, .int 1])) p2 = some (.dK []) := same_new same_id n3 _ _ upd_same
    have hp3 : (upd (upd (upd H2 p1 (.lst [])) p2 (.dK [])) p3 (.lst [.ref p1, .ref p2, .int 1])) p3 = some (.lst [.ref p1, .ref p2, .int 1]) := upd_same
    generalize upd (upd (upd H2 p1 (.lst [])) p2 (.dK [])) p3 (.lst [V.ref p1, .ref p2, .int 1]) = H3 at a3 hp1 hp2 hp3 ⊢
    have np1 : p1 ≠ d := tape_ne a3.2 hp1
    have np2 : p2 ≠ d := by
      intro z
      obtain ⟨o, ho⟩ := a2.2.at.1
      have e := same_new (u := .lst []) (same_id (H := H2)) n1 _ _ ho
      rw [z, e] at n2
      cases n2
    refine ⟨d, l, p3, 40600 * n, _, rfl, a3.2, by omega, hp3, by simp, by show 3 < 1000000; decide, fun H4 v0 b4 t4 hv0 => ?_⟩
    have a4 := a3.draw b4 t4
    have hdeep : ∃ t, Dv 1 (hide d H4) v0 t ∧ Fit 4 1 1 t := by
      simp only [List.mem_cons, List.not_mem_nil, or_false] at hv0
      rcases hv0 with rfl | rfl | rfl
      · refine ⟨.lst [], ?_, fun d h => (by cases h), fun d h => (by cases h), fun d h => (by cases h), Nat.le_refl _⟩
        simp only [Dv]
        exact ⟨p1, [], rfl, hide_of np1 (b4 _ _ np1 hp1), .nil⟩
      · refine ⟨.dct [] [], ?_, ⟨rfl, .nil, fun d h => (by cases h), fun d h => (by cases h)⟩, fun d h => (by cases h), ⟨by decide, fun d h => (by cases h)⟩, Nat.le_refl _⟩
        simp only [Dv]
        exact ⟨p2, [], rfl, hide_of np2 (b4 _ _ np2 hp2), rfl, .nil, .nil⟩
      · refine ⟨.int 1, by simp [Dv], ?_, trivial, trivial, Nat.le_refl _⟩
        show (1 : Int).natAbs ≤ 10 ^ 30
        decide
    obtain ⟨t0, hd0, hf0⟩ := hdeep
    clear hv0 hp1 hp2 hp3
    dsimp only [gName]
    refine ⟨59, rfl, by decide, by decide, ?_⟩
    refine for_range (lo := 0) (n := (59 : Int).toNat) (fun i σ H' => ∃ (o2 o3 o5 : Option V) (v : V) (t : D), σ = [some (.ref a), some (.ref d), o2, o3, some v, o5] ∧ After d l (40600 * n) (1 + 2 * i) H2 H' ∧ Dv (i + 1) (hide d H') v t ∧ Fit 4 (i + 1) (i + 1) t)
      ⟨_, _, _, v0, t0, rfl, a4, hd0, hf0⟩ ?_ ?_
    · rintro i σ H5 hi ⟨o2, o3, o5, v, t, rfl, a5, hd5, hf5⟩
      have hi59 : i < 59 := hi
      refine ⟨_, rfl, d, l, 40600 * n + (1 + 2 * i), 2, rfl, a5.2, by omega, by decide, by decide, fun H6 r b6 t6 r0 r2 => ⟨rfl, _, rfl, ?_⟩⟩
      have a6 := a5.draw b6 t6
      have hd6 : Dv (i + 1) (hide d H6) v t := hd5.mono (fun b o _ e => hide_but b6 b o e) (Nat.le_refl _)
      refine ite2 (fun _ => ?_) (fun _ => ?_)
      · refine ⟨_, rfl, few (by show 1 ≤ 1000; decide), fun p np => ?_⟩
        have a7 := a6.same (same_new (u := .lst [v]) same_id np)
        have hp : (upd H6 p (.lst [v])) p = some (.lst [v]) := upd_same
        have npd := tape_ne a7.2 hp
        refine ⟨_, _, _, .ref p, .lst [t], rfl, a7.more (by omega), ?_, ?_⟩
        · simp only [Dv]
          exact ⟨p, [v], rfl, hide_of npd hp, .cons (hd6.mono (fun b o _ e => hide_but (Same.but (same_new same_id np) d) b o e) (Nat.le_refl _)) .nil⟩
        · have hm : ∀ x ∈ [t], x = t := fun x hx => List.mem_singleton.mp hx
          refine ⟨fun x hx => by rw [hm x hx]; exact hf5.g, fun x hx => by rw [hm x hx]; exact hf5.s, fun x hx => by rw [hm x hx]; exact hf5.m, ?_⟩
          have := hf5.p
          show 1 + (npN (i + 1) t + 0) ≤ _
          omega
      · refine fun p np => ?_
        have s7 := same_new (u := .dK []) (same_id (H := H6)) np
        have hp7 : (upd H6 p (.dK [])) p = some (.dK []) := upd_same
        generalize upd H6 p (.dK []) = H7 at s7 hp7 ⊢
        refine ⟨_, rfl, few (by show 2 ≤ 1000; decide), fun p8 n8 => ?_⟩
        have s8 := same_new (u := .lst [.str "a", .str "end"]) (same_id (H := H7)) n8
        have hp8 := s8 _ _ hp7
        have hq8 : (upd H7 p8 (.lst [.str "a", .str "end"])) p8 = some (.lst [.str "a", .str "end"]) := upd_same
        generalize upd H7 p8 (.lst [V.str "a", .str "end"]) = H8 at s8 hp8 hq8 ⊢
        have a8 := (a6.same s7).same s8
        have npd : p ≠ d := by
          intro z
          obtain ⟨o1, ho⟩ := a6.2.at.1
          rw [z, ho] at np
          cases np
        refine ⟨d, l, p8, 40600 * n + (1 + 2 * i + 1), _, rfl, a8.2, by omega, hq8, by simp, by show 2 < 1000000; decide, fun H9 kk b9 t9 hkk => ?_⟩
        have a9 := a8.draw b9 t9
        have hp9 := b9 _ _ npd hp8
        obtain ⟨key, rfl, hkey⟩ : ∃ key : Str, kk = .str key ∧ isKey key = true := by
          simp only [List.mem_cons, List.not_mem_nil, or_false] at hkk
          rcases hkk with e | e <;> exact ⟨_, e, by decide +kernel⟩
        refine ⟨_, rfl, hp9, [(Sum.inr key, v)], rfl, by show 1 ≤ 15; decide, ?_⟩
        have ek : mergeK [] [((Sum.inr key : Key), v)] = kvOf [key] [v] := rfl
        rw [ek]
        have hpX : (upd H9 p (.dK (kvOf [key] [v]))) p = some (.dK (kvOf [key] [v])) := upd_same
        refine ⟨_, _, _, .ref p, .dct [key] [t], rfl, ?_, ?_, ?_⟩
        · exact (a9.put (a6.dom p np) t2).more (by omega)
        · simp only [Dv]
          refine ⟨p, [v], rfl, hide_of npd hpX, rfl, nodup_one _, .cons (hd6.mono (fun b o _ e => ?_) (Nat.le_refl _)) .nil⟩
          obtain ⟨e1, e2⟩ := hide_some e
          exact hide_of e1 ((upd_ne (ne_of_none e2 np)).trans (b9 _ _ e1 (s8 _ _ (s7 _ _ e2))))
        · have hm : ∀ x ∈ [t], x = t := fun x hx => List.mem_singleton.mp hx
          refine ⟨⟨rfl, nodup_one _, fun x hx => by rw [List.mem_singleton.mp hx]; exact hkey, fun x hx => by rw [hm x hx]; exact hf5.g⟩, fun x hx => by rw [hm x hx]; exact hf5.s, ⟨by show 1 ≤ 20; decide, fun x hx => by rw [hm x hx]; exact hf5.m⟩, ?_⟩
          have := hf5.p
          show 1 + (npN (i + 1) t + 0) ≤ _
          omega
    · rintro σ H5 ⟨o2, o3, o5, v, t, rfl, a5, hd5, hf5⟩
      have a5 : After d l (40600 * n) 119 H2 H5 := a5
      dsimp only
      obtain ⟨hfine, hnp⟩ := fine_of (c := 4) (bb := 60) hd5 hf5 (by decide) (by decide) (by decide) (by decide)
      refine ⟨_, rfl, _, rfl, d, l, 40600 * n + 119, 4, v, t, hide d H5, rfl, a5.2, by omega, hfine, fun H6 a6 => ⟨_, rfl, iteF ?_⟩⟩
      have a6' := (a5.trans a6).more (show 119 + 50 * npN 60 t ≤ 3200 by omega)
      refine ⟨_, rfl, _, rfl, d, l, 40600 * n + 3200, rfl, a6'.2, by omega, fun H7 v7 a7 hv7 => ⟨few (by show 1 ≤ 1000; decide), fun p8 n8 => ?_⟩⟩
      have s8 := same_new (u := .lst [v7]) (same_id (H := H7)) n8
      have hp8 : (upd H7 p8 (.lst [v7])) p8 = some (.lst [v7]) := upd_same
      generalize upd H7 p8 (.lst [v7]) = H8 at s8 hp8 ⊢
      refine ⟨_, rfl, few (by show 2 ≤ 1000; decide), fun p9 n9 => ?_⟩
      have s9 := same_new (u := .lst [.int 998, .int 999]) (same_id (H := H8)) n9
      have hq9 : (upd H8 p9 (.lst [.int 998, .int 999])) p9 = some (.lst [.int 998, .int 999]) := upd_same
      have hp9 := s9 _ _ hp8
      generalize upd H8 p9 (.lst [V.int 998, .int 999]) = H9 at s9 hq9 hp9 ⊢
      have a9 := ((a6'.trans a7).same s8).same s9
      refine ⟨d, l, p9, 40600 * n + (3200 + 8), _, rfl, a9.2, by omega, hq9, by simp, by show 2 < 1000000; decide, fun H10 vk b10 t10 hvk => ?_⟩
      have a10 := a9.draw b10 t10
      have hp10 := b10 _ _ (tape_ne a9.2 hp9) hp9
      obtain ⟨m, rfl, hm⟩ : ∃ m : Nat, vk = .int (m : Int) ∧ m ≤ 999 := by
        simp only [List.mem_cons, List.not_mem_nil, or_false] at hvk
        rcases hvk with e | e
        · exact ⟨998, e, by decide⟩
        · exact ⟨999, e, by decide⟩
      refine ⟨p8, (m : Int), [v7], rfl, rfl, hp10, by omega, by omega, by show 1 * (m : Int).toNat ≤ _; omega, fun p11 n11 => ?_⟩
      have em : (List.replicate (m : Int).toNat [v7]).flatten = List.replicate m v7 := by
        rw [Int.toNat_natCast, List.flatten_replicate_singleton]
      rw [em]
      have s11 := same_new (u := .lst (List.replicate m v7)) (same_id (H := H10)) n11
      have hp11 : (upd H10 p11 (.lst (List.replicate m v7))) p11 = some (.lst (List.replicate m v7)) := upd_same
      generalize upd H10 p11 (.lst (List.replicate m v7)) = H11 at s11 hp11 ⊢
      have a11 := a10.same s11
      obtain ⟨t7, hd7, hf7⟩ := Dr.leaf hv7 0 (hide d H11)
      have hmr : ∀ x ∈ List.replicate m t7, x = t7 := fun x hx => List.eq_of_mem_replicate hx
      have hdL : Dv 2 (hide d H11) (.ref p11) (.lst (List.replicate m t7)) := by
        simp only [Dv]
        exact ⟨p11, _, rfl, hide_of (tape_ne a11.2 hp11) hp11, paired_rep hd7 m⟩
      have hfL : Fit 4 2 1000 (.lst (List.replicate m t7)) := by
        refine ⟨fun x hx => by rw [hmr x hx]; exact hf7.g, fun x hx => by rw [hmr x hx]; exact hf7.s, fun x hx => by rw [hmr x hx]; exact hf7.m, ?_⟩
        show 1 + ((List.replicate m t7).map (npN 1)).sum ≤ 1000
        rw [List.map_replicate, List.sum_replicate_nat]
        have h1 : npN 1 t7 ≤ 1 := hf7.p
        have h2 : m * npN 1 t7 ≤ m * 1 := Nat.mul_le_mul_left _ h1
        omega
      obtain ⟨hfineL, hnpL⟩ := fine_of (c := 4) (bb := 1000) hdL hfL (by decide) (by decide) (by decide) (by decide)
      refine ⟨d, l, 40600 * n + (3200 + 8 + 1), 4, _, _, hide d H11, rfl, a11.2, by omega, hfineL, fun H12 a12 => ⟨_, rfl, iteF (nx_run ?_)⟩⟩
      have a12' := (a11.trans a12).more (show 3200 + 8 + 1 + 50 * npN 60 (.lst (List.replicate m t7)) ≤ 53300 by omega)
      dsimp only
      clear hdL hfL hfineL hnpL hmr
      refine ret_run ⟨_, rfl, rfl, _, rfl, few (by show 2 ≤ 1000; decide), fun p13 n13 => ?_⟩
      have s13 := same_new (u := .lst [.int 199, .int 200]) (same_id (H := H12)) n13
      have hq13 : (upd H12 p13 (.lst [.int 199, .int 200])) p13 = some (.lst [.int 199, .int 200]) := upd_same
      generalize upd H12 p13 (.lst [V.int 199, .int 200]) = H13 at s13 hq13 ⊢
      have a13 := a12'.same s13
      refine ⟨d, l, p13, 40600 * n + 53300, _, rfl, a13.2, by omega, hq13, by simp, by show 2 < 1000000; decide, fun H14 vk b14 t14 hvk => ?_⟩
      have a14 := a13.draw b14 t14
      obtain ⟨r, rfl, hr200⟩ : ∃ r : Nat, vk = .int (r : Int) ∧ r ≤ 200 := by
        simp only [List.mem_cons, List.not_mem_nil, or_false] at hvk
        rcases hvk with e | e
        · exact ⟨199, e, by decide⟩
        · exact ⟨200, e, by decide⟩
      refine ⟨(r : Int), rfl, by omega, by omega, fun D nD => ?_⟩
      have nD0 := a14.dom D nD
      have hpr : ∀ c ∈ ("a\\\"~ " : Str).cps.toList, (32 ≤ c ∧ c ≤ 126) ∧ c ≠ 37 := by decide +kernel
      refine lc_range (lo := 0) (n := (r : Int).toNat) (fun i H' => ∃ cs : List Nat, H' D = some (.lst (cs.map fun c => V.str (sg c))) ∧ cs.length = i ∧ (∀ c ∈ cs, (32 ≤ c ∧ c ≤ 126) ∧ c ≠ 37) ∧ After d l (40600 * n) (53301 + i) H2 H') ⟨[], upd_same, rfl, (fun c hc => by cases hc), a14.put nD0 t2⟩ ?_ ?_
      · rintro i H' hi ⟨cs, hD, hlc, hp, a15⟩
        have hi2 : i < r := by rw [Int.toNat_natCast] at hi; exact hi
        refine ⟨rfl, _, rfl, d, l, 40600 * n + (53301 + i), _, rfl, a15.2, by omega, by decide +kernel, by decide +kernel, fun H16 c b16 t16 hc => ?_⟩
        have hD2 : H16 D = some (.lst (cs.map fun c => V.str (sg c))) := b16 _ _ (tape_ne a15.2 hD) hD
        refine ⟨_, hD2, by rw [List.length_map]; exact lines (by omega), cs ++ [c], by rw [upd_same, List.map_append]; rfl, by rw [List.length_append, hlc]; rfl, fun e he => ?_, ?_⟩
        · rw [List.mem_append, List.mem_singleton] at he
          rcases he with he | rfl
          · exact hp e he
          · exact hpr _ hc
        · have a16 : After d l (40600 * n) (53301 + i + 1) H2 H16 := a15.draw b16 t16
          exact a16.put nD0 t2
      · rintro H' ⟨cs, hD, hlc, hp, a15⟩
        rw [Int.toNat_natCast] at hlc a15
        have ej : Txt.join ("" : Str) (cs.map sg) = told cs := rfl
        refine ⟨_, D, cs.map sg, rfl, rfl, .inl (SqL.of (by rw [List.map_map]; exact hD)), ?_, ?_⟩
        · rw [sum_ones, List.length_map]
          have e0 : ("" : Str).length = 0 := rfl
          rw [e0]
          omega
        rw [ej, told_eq]
        have hlz : (⟨cs.toArray⟩ : Str).length ≤ 200 := by show cs.toArray.size ≤ 200; rw [List.size_toArray]; omega
        have hfS : Fit 200 1 1 (.str ⟨cs.toArray⟩) := ⟨leafT_of hlz fun c hc => hp c (by simpa using hc), hlz, trivial, Nat.le_refl _⟩
        obtain ⟨hfineS, hnpS⟩ := fine_of (d := d) (H := H') (c := 200) (bb := 1) (v := .str ⟨cs.toArray⟩) (t := .str ⟨cs.toArray⟩) (by simp [Dv]) hfS (by decide) (by decide) (by decide) (by decide)
        exact ⟨d, l, 40600 * n + (53301 + r), 200, _, _, hide d H', rfl, a15.2, by omega, hfineS, fun H17 a17 => q H17⟩
end
end Toy


namespace Toy
open PySem PySem.Spec PyProof.Rows L2
/-! ### the head: what the top has written, as one answer -/
def freeB (K : PySem.W.Frag) (c : Addr) (f : Str) : Bool := decide (PySem.W.takerIn K c f = some none) && He.eqO (PySem.W.findIn K (.ref c) f) (some none)
def btL : List Value := [.type "ValueError", .type "Exception", .type "BaseException", .type "object"]
def ownB (K : PySem.W.Frag) (c fi : Addr) : Bool :=
  PySem.W.excInitIn K c btL "ValueError.__new__" && (PySem.W.excOver K c btL && (PySem.W.hasDictIn K c && (He.eqO (PySem.W.findIn K (.ref c) "__setattr__") (some (some (.builtin "object.__setattr__"))) &&
  (He.eqO (PySem.W.findIn K (.ref c) "__getattribute__") (some (some (.builtin "BaseException.__getattribute__"))) && (He.eqO (PySem.W.findIn K (.ref c) "__getattr__") (some none) && (decide (PySem.W.subIn K (.ref c) (.type "BaseException") = some true) &&
  (PySem.W.keepIn K (.ref c) && (He.eqO (PySem.W.findIn K (.ref c) "__init__") (some (some (.ref fi))) && (decide (PySem.W.typeIn K (.ref fi) = some (.type "function")) && (He.eqO (PySem.W.findIn K (.ref c) "__class__") (some (some (.builtin "object.__class__"))) &&
  decide (PySem.W.mroIn K c (.type "object") = some true)))))))))))
def CT (K : PySem.W.Frag) : Addr := He.ga K "InvalidText"
def CP (K : PySem.W.Frag) : Addr := He.ga K "Piece"
def CD (K : PySem.W.Frag) : Addr := He.ga K "DatumReader"
def clsB (K : PySem.W.Frag) : Bool := ownB K (CT K) (He.ma K (CT K) "__init__") && (freeB K (CT K) "index" && (decide (PySem.W.kitOne K (.ref (CT K)) (.type "ValueError") = some true) && (decide (PySem.W.exmOne K (.ref (CT K)) (.ref (CT K)) = some true) && (decide (PySem.W.typeIn K (.ref (CT K)) = some (.type "type")) &&
  (decide (PySem.W.specialIn K (.builtin "object.__class__") "__get__" = some (some (.builtin "getset_descriptor.__get__"))) && decide (PySem.W.takesIn K (.builtin "object.__class__") = some true))))))
def sysB (K : PySem.W.Frag) : Bool := match K.lookup sysModules with
  | some o => o.cls == .type "dict"
  | none => false
def keysB (K : PySem.W.Frag) (d : Addr) (ks : List Str) : Bool := match K.lookup d with
  | some ⟨_, _, .dict es _, _⟩ => es.toList.all fun e => !e.refKey && (match e.key with
    | .str y _ => decide (y ∈ ks)
    | _ => true)
  | _ => false
theorem keysB_ok {K : PySem.W.Frag} {d : Addr} {ks : List Str} (h : keysB K d ks = true) {x : Str} (hx : x ∉ ks) : PySem.W.nsIn K d x = some none := by
  unfold keysB at h
  unfold PySem.W.nsIn
  split at h
  · rename_i es n sl e
    rw [List.all_eq_true] at h
    have h1 : es.toList.find? (·.key.isStr x) = none := by
      rw [List.find?_eq_none]
      intro e he hs
      have z := h e he
      rw [Bool.and_eq_true] at z
      cases hk : e.key with
      | str y t =>
        rw [hk] at hs
        have e2 : y = x := eq_of_beq hs
        have z2 := z.2
        rw [hk] at z2
        exact hx (e2 ▸ of_decide_eq_true z2)
      | _ => rw [hk] at hs; cases hs
    have h2 : es.toList.any (·.refKey) = false := by
      rw [List.any_eq_false]
      intro e he
      have z := h e he
      rw [Bool.and_eq_true] at z
      have z1 := z.1
      intro q
      rw [q] at z1
      cases z1
    rw [e]
    simp only [h1, h2]
    rfl
  · cases h
def leavesL : List (Str × He.Dv) := [("null", .non), ("yes", .bl true), ("no", .bl false)]
def leavesB (K : PySem.W.Frag) : Bool := keysB K (He.ga K "LEAVES") ["null", "yes", "no"] && He.valsB K (He.ga K "LEAVES") leavesL
/-! DatumReader.__init__, a def over the cell __class__ -/
abbrev R : PySem.W.OpenRow := PySem.W.OpenLaw.row PySem.Challenge.rw_sieveways_k71_data_written_and_read
def FD (K : PySem.W.Frag) : Addr := He.ma K (CD K) "__init__"
def FR (K : PySem.W.Frag) : Addr := He.ma K (He.ga K "Reader") "__init__"
abbrev FnC : Type := Option (Str × Str × Arguments × FuncBody × Scope × Addr × List Str × Value × Addr)
def fnC (K : PySem.W.Frag) : FnC := match K.lookup (FD K) with
  | some ⟨_, _, .func fd, _⟩ => some (fd.name, fd.qualname, fd.params, fd.body, fd.scope, fd.globals, fd.closure.map Prod.fst, fd.defaults, fd.builtins)
  | _ => none
def diV : FnC := some ("__init__", "DatumReader.__init__", defArgs sDI, .stmts (defBody sDI), defScope sDI, mainGlobals, ["__class__"], .none, builtinsNs)
def cdB (K : PySem.W.Frag) (cda : Addr) : Bool := match K.lookup cda with
  | some ⟨_, _, .fields vs, _⟩ => (match (vs[2]? : Option Value) with
    | some (.str file _) => (R.prog.main.file : Str) == file
    | _ => false)
  | _ => false
def ccB (K : PySem.W.Frag) (cc : Addr) : Bool := match K.lookup cc with
  | some ⟨_, _, .cell (some (.ref D)), _⟩ => decide (D = CD K)
  | _ => false
def clB (K : PySem.W.Frag) : Bool := (PySem.W.clsIn K (CD K)).isSome && (decide (PySem.W.mroIn K (CD K) (.ref (CD K)) = some true) && (He.eqO (PySem.W.nsIn K cStatics "thirdparty.any") (some none) && (He.eqO (PySem.W.ks_superIn K (CD K) (CD K) "__init__") (some (some (.ref (FR K)))) && (decide (PySem.W.typeIn K (.ref (FR K)) = some (.type "function")) && PySem.W.fnIn K (FR K)))))
def diB2 (K : PySem.W.Frag) : List (Str × Addr) → Value → Bool
  | [(_, cc)], .ref cda => PySem.W.codeIn K (.ref cda) "DatumReader.__init__" && (cdB K cda && (ccB K cc && clB K))
  | _, _ => false
def diB (K : PySem.W.Frag) : Bool := match K.lookup (FD K) with
  | some ⟨_, _, .func fd, _⟩ => diB2 K fd.closure fd.code
  | _ => false
def exB (K : PySem.W.Frag) : Bool := clsB K && (sysB K && (leavesB K && (diB K && !decide (CD K = CP K))))
def ts : List He.Tab := [(fun K => He.ga K "LEAVES", ["null", "yes", "no"])]
def tf : List He.Defn := []
def mOf (x m q : Str) (st : Stmt) : He.DefD := ⟨(x, some m), m, q, defArgs st, defBody st, defScope st, [], []⟩
def hdOf (x : Str) (st : Stmt) : He.DefD := ⟨(x, none), x, x, defArgs st, defBody st, defScope st, [], []⟩
def fn0 : List He.DefD := [hdOf "pieces_of" sPs, hdOf "_gap_end" sGap, hdOf "_piece_at" sAt, hdOf "_piece" sPc, hdOf "_run_end" sRun, hdOf "_number_piece" sNum, hdOf "_string_piece" sStr, hdOf "is_leaf" sLf, hdOf "_is_text" sTx, hdOf "datum_read" sDR, hdOf "read_datum" sRD, hdOf "steps_into" sStp, hdOf "_listed" sLis, hdOf "leaf_piece" sLfp, hdOf "datum_pieces" sPd, hdOf "write_datum" sWd]
def fn1 : List He.DefD := [hdOf "_law_begin" sBegin, hdOf "_law_draw" sDraw, hdOf "_law_pick" sPick, hdOf "_law_shuffled" sShuf, hdOf "_law_string" sSt, hdOf "_law_leaf" sLe, hdOf "_law_row" sRow, hdOf "_law_leaf_piece" sLp, hdOf "_law_datum" sDt, hdOf "_law_shown" sSh, hdOf "_law_data_pieces" sDp, hdOf "_law_gap" sGp, hdOf "_law_is_apart" sAp, hdOf "_law_laid" sLa, hdOf "_law_right" sRi, hdOf "law" sLaw]
def fn2 : List He.DefD := [mOf "Piece" "__init__" "Piece.__init__" sPcI, mOf "DatumReader" "piece" "Reader.piece" sPiece, mOf "DatumReader" "is_at" "Reader.is_at" sIsAt, mOf "DatumReader" "refuse" "Reader.refuse" sRef, mOf "DatumReader" "taken" "Reader.taken" sTaken, mOf "DatumReader" "expect" "Reader.expect" sExp, mOf "DatumReader" "expect_other" "Reader.expect_other" sExpO, mOf "DatumReader" "expect_leaf" "Reader.expect_leaf" sExpL, mOf "DatumReader" "read_part" "DatumReader.read_part" sRead, mOf "DatumReader" "_list" "DatumReader._list" sList, mOf "DatumReader" "_dict" "DatumReader._dict" sDict, mOf "Reader" "__init__" "Reader.__init__" sRI, mOf "InvalidText" "__init__" "InvalidText.__init__" (inClass (top 2) 0)]
def fn : List He.DefD := fn0 ++ fn1 ++ fn2
def fa0 : List He.Fa := [.glo "pieces_of", .glo "_gap_end", .glo "_piece_at", .glo "_piece", .glo "_run_end", .glo "_number_piece", .glo "_string_piece", .glo "is_leaf", .glo "_is_text", .glo "datum_read", .glo "read_datum", .glo "steps_into", .glo "_listed", .glo "leaf_piece", .glo "datum_pieces", .glo "write_datum"]
def fa1 : List He.Fa := [.glo "_law_begin", .glo "_law_draw", .glo "_law_pick", .glo "_law_shuffled", .glo "_law_string", .glo "_law_leaf", .glo "_law_row", .glo "_law_leaf_piece", .glo "_law_datum", .glo "_law_shown", .glo "_law_data_pieces", .glo "_law_gap", .glo "_law_is_apart", .glo "_law_laid", .glo "_law_right", .glo "law"]
def fa2 : List He.Fa := [.glo "Piece", .glo "DatumReader", .glo "InvalidText", .glo "LEAVES", .free "all", .free "bool", .free "dict", .free "int", .free "isinstance", .free "len", .free "list", .free "min", .free "ord", .free "range", .free "repr", .free "sorted"]
def fa3 : List He.Fa := [.free "str", .free "super", .int "GREATEST" 1000000000000000000000000000000, .int "MOST_DIGITS" 31, .int "MOST_INDEX" 99, .int "MOST_LETTERS_data" 200, .int "MOST_LETTERS_words" 8, .int "MOST_LEVELS" 60, .int "MOST_PARTS" 1000, .int "PERCENT_SIGN" 37, .str "DIGITS" digS, .str "LETTERS" letS, .str "MARKS" mrkS, .cls "Piece", .mkr "Piece", .noat "Piece" "kind"]
def fa4 : List He.Fa := [.noat "Piece" "told", .noat "Piece" "at", .noat "Piece" "end", .cls "DatumReader", .mkr "DatumReader", .noat "DatumReader" "pieces", .noat "DatumReader" "number", .noat "DatumReader" "many_open", .noat "DatumReader" "pairs", .noat "DatumReader" "many_parts", .meth "DatumReader" "piece", .meth "DatumReader" "is_at", .meth "DatumReader" "refuse", .meth "DatumReader" "taken", .meth "DatumReader" "expect", .meth "DatumReader" "expect_other"]
def fa5 : List He.Fa := [.meth "DatumReader" "expect_leaf", .meth "DatumReader" "read_part", .meth "DatumReader" "_list", .meth "DatumReader" "_dict"]
def fa : List He.Fa := fa0 ++ fa1 ++ fa2 ++ fa3 ++ fa4 ++ fa5
/-! sys.modules beside what the module's names reach -/
def frS (g : Addr → Option Obj) : PySem.W.Frag := He.frT g (sysModules :: cStatics :: He.asD g 5)
def obK (g : Addr → Option Obj) : He.AlX := (He.obsT fa fn ts (frS g), exB (frS g) && He.tabsB g tf (frS g))
theorem sayK {w : World} {h : Heap} (e : obK h.get? = He.valX fn ts w) : He.SaysX fa fn ts tf exB w h (frS h.get?) := by
  have e1 : He.obsT fa fn ts (frS h.get?) = He.valT fn ts w := (Prod.mk.inj e).1
  obtain ⟨e2, e3⟩ := He.ba (show (exB (frS h.get?) && He.tabsB h.get? tf (frS h.get?)) = true from (Prod.mk.inj e).2)
  have hall : ∀ p ∈ tf, PySem.W.codeHdIn (frS h.get?) (He.cT (frS h.get?) p).1 (He.cT (frS h.get?) p).2 = true ∧ ∃ o, h.get? (He.cT (frS h.get?) p).2 = some o ∧ He.emptyTab o = true := by
    intro p hp
    obtain ⟨a1, a2⟩ := He.ba (List.all_eq_true.mp e3 p hp)
    refine ⟨a1, ?_⟩
    revert a2
    cases h.get? (He.cT (frS h.get?) p).2 with
    | none => exact fun z => by cases z
    | some o => exact fun z => ⟨o, rfl, z⟩
  refine ⟨e1, e2, fun p hp => (hall p hp).1, fun p hp => ?_, fun p hp => ?_⟩
  · obtain ⟨_, o, z1, z2⟩ := hall p hp
    exact He.frT_none z1 z2
  · obtain ⟨_, o, z1, z2⟩ := hall p hp
    rw [z1, He.emptyTab_eq z2]
def hk : PySem.W.Hook where
  α := He.AlX × FnC
  obs := fun s => (obK s.heap.get?, fnC (frS s.heap.get?))
  val := fun w => (He.valX fn ts w, diV)
  says := fun w h => ∃ K : PySem.W.Frag, K.In h ∧ He.SaysX fa fn ts tf exB w h K ∧ fnC K = diV
  of := fun _ _ e => ⟨_, He.frT_in, sayK (Prod.mk.inj e).1, (Prod.mk.inj e).2⟩
  keeps := fun _ _ _ ⟨K, hK, c, c2⟩ k => ⟨K, PySem.W.Frag.In.keeps hK k, ⟨c.t, c.more, c.hd, c.out, fun p hp => k _ _ (c.empty p hp)⟩, c2⟩
def ob (s : PySem.W.SharedT) : He.AlX × FnC := (obK (HandSHeadRun.getT s), fnC (frS (HandSHeadRun.getT s)))
theorem ob_eq (s : PySem.W.SharedT) : ob s = hk.obs s.abs := by
  have e : HandSHeadRun.getT s = s.abs.heap.get? := funext (HandSHeadRun.getT_eq s)
  show (obK (HandSHeadRun.getT s), fnC (frS (HandSHeadRun.getT s))) = (obK s.abs.heap.get?, fnC (frS s.abs.heap.get?))
  rw [e]
def looseX : List Str := ["_wall"]
def looseN0 : List Str := ["pieces_of", "_gap_end", "_piece_at", "_piece", "_run_end", "_number_piece", "_string_piece", "is_leaf", "_is_text", "datum_read", "read_datum", "steps_into", "_listed", "leaf_piece", "datum_pieces", "write_datum", "_law_begin", "_law_draw"]
def looseN1 : List Str := ["_law_pick", "_law_shuffled", "_law_string", "_law_leaf", "_law_row", "_law_leaf_piece", "_law_datum", "_law_shown", "_law_data_pieces", "_law_gap", "_law_is_apart", "_law_laid", "_law_right", "Piece", "Reader", "DatumReader", "InvalidText", "LEAVES"]
def looseN2 : List Str := ["GREATEST", "MOST_DIGITS", "MOST_INDEX", "MOST_LETTERS_data", "MOST_LETTERS_words", "MOST_LEVELS", "MOST_PARTS", "PERCENT_SIGN", "DIGITS", "LETTERS", "MARKS"]
def looseN : List Str := looseX ++ looseN0 ++ looseN1 ++ looseN2
end Toy


namespace Toy
open PySem PySem.Spec PyProof.Rows L2
/-! a text's hash asks the world whether a special's get may raise: the run is told for either answer -/
def wB (b : Bool) (w : World) : World := ⟨w.draws, {w.params with followText := fun x => match decide (x = "special-get-raises") with | true => b | false => w.params.followText x}⟩
theorem wB_eq (w : World) : wB (w.params.followText "special-get-raises") w = w := by
  have e : (fun x => match decide (x = "special-get-raises") with | true => w.params.followText "special-get-raises" | false => w.params.followText x) = w.params.followText := by
    funext x
    by_cases h : x = "special-get-raises"
    · subst h; rfl
    · rw [decide_eq_false h]
  unfold wB
  rw [e]
theorem runT (w : World) : HandSHeadRun.RunEq R (PySem.W.view R.prog [56]) hk ob 9000 looseN (wB true w) := by
  intro os
  kernel_rfl
theorem runF (w : World) : HandSHeadRun.RunEq R (PySem.W.view R.prog [56]) hk ob 9000 looseN (wB false w) := by
  intro os
  kernel_rfl
theorem run (w : World) : HandSHeadRun.RunEq R (PySem.W.view R.prog [56]) hk ob 9000 looseN w := by
  have z := wB_eq w
  cases h : w.params.followText "special-get-raises" with
  | true =>
    rw [h] at z
    exact (congrArg (HandSHeadRun.RunEq R (PySem.W.view R.prog [56]) hk ob 9000 looseN) z).mp (runT w)
  | false =>
    rw [h] at z
    exact (congrArg (HandSHeadRun.RunEq R (PySem.W.view R.prog [56]) hk ob 9000 looseN) z).mp (runF w)
end Toy


namespace Toy
open PySem PySem.Spec PyProof.Rows L2 PySem.KX
/-! ### the facts, read off the head's answer -/
theorem fun_of {K : PySem.W.Frag} {x q : Str} {st : Stmt} {f : Addr} {fd : FuncData} (F : FunD K x q (defArgs st) (defBody st) (defScope st) [] [] f fd) : Fun K x q st f fd := by
  obtain ⟨oc, od, dV, kV, doc, pm, an, cdv, ct, osl, rfl, lk, hcd, hD, _⟩ := F.ex
  rcases hD with ⟨_, rfl⟩ | ⟨e, _⟩
  · exact ⟨⟨oc, od, kV, doc, pm, an, cdv, ct, osl, rfl, lk, hcd⟩, F.kp⟩
  · exact absurd rfl e
theorem and2 {a b : Bool} (h : (a && b) = true) : a = true ∧ b = true := Bool.and_eq_true_iff.mp h
section
variable {K : PySem.W.Frag} (c : clsB K = true)
include c
theorem ex_own : Own K (CT K) (He.ma K (CT K) "__init__") "ValueError" "ValueError.__new__" "ValueError.__init__" btL := by
  obtain ⟨o, h⟩ := and2 c
  obtain ⟨_, h⟩ := and2 h
  obtain ⟨_, h⟩ := and2 h
  obtain ⟨_, h⟩ := and2 h
  obtain ⟨_, h⟩ := and2 h
  obtain ⟨s1, s2⟩ := and2 h
  obtain ⟨o1, o⟩ := and2 o
  obtain ⟨o2, o⟩ := and2 o
  obtain ⟨o3, o⟩ := and2 o
  obtain ⟨o4, o⟩ := and2 o
  obtain ⟨o5, o⟩ := and2 o
  obtain ⟨o6, o⟩ := and2 o
  obtain ⟨o7, o⟩ := and2 o
  obtain ⟨o8, o⟩ := and2 o
  obtain ⟨o9, o⟩ := and2 o
  obtain ⟨o10, o⟩ := and2 o
  obtain ⟨o11, o12⟩ := and2 o
  exact ⟨PySem.F.excBase_ValueError, PySem.F.store_ValueError, o1, o2, o3, He.eqO_ok o4, He.eqO_ok o5, He.eqO_ok o6, of_decide_eq_true o7, o8, He.eqO_ok o9, of_decide_eq_true o10, He.eqO_ok o11, of_decide_eq_true s1, of_decide_eq_true s2, of_decide_eq_true o12⟩
theorem ex_free : Free K (CT K) "index" := by
  obtain ⟨_, h⟩ := and2 c
  obtain ⟨h, _⟩ := and2 h
  obtain ⟨a, b⟩ := and2 h
  exact ⟨of_decide_eq_true a, He.eqO_ok b⟩
theorem ex_clR : ClR K (CT K) := by
  have o := ex_own c
  obtain ⟨_, h⟩ := and2 c
  obtain ⟨_, h⟩ := and2 h
  obtain ⟨_, h⟩ := and2 h
  obtain ⟨_, h⟩ := and2 h
  obtain ⟨h1, _⟩ := and2 h
  exact ⟨o.exc, of_decide_eq_true h1⟩
end
/-- the maker of a class of one field -/
theorem mk_cl1 {K : PySem.W.Frag} (c : clsB K = true) {qual : Str} {fd : FuncData} {a1 a2 q1 q2 q3 q4 : Pos}
    (F : FunD K "__init__" qual (argsOf [arg1 "self" a1, arg1 "index" a2]) [setS "index" q1 q2 q3 q4] (scOf ["self", "index"]) [] [] (He.ma K (CT K) "__init__") fd)
    (b1 : ∀ (kV doc pm : Value) (an : Option Addr) (cdv ct self v : Value), bindArgs (PySem.W.fnOf "__init__" qual (argsOf [arg1 "self" a1, arg1 "index" a2]) [setS "index" q1 q2 q3 q4] (scOf ["self", "index"]) .none kV doc pm an cdv ct) ⟨[self, v], []⟩ = pure [(("self" : Str), self), ("index", v)])
    (b2 : ∀ (kV doc pm : Value) (an : Option Addr) (cdv ct self v : Value), bindArgs (PySem.W.fnOf "__init__" qual (argsOf [arg1 "self" a1, arg1 "index" a2]) [setS "index" q1 q2 q3 q4] (scOf ["self", "index"]) .none kV doc pm an cdv ct) ⟨[self], [("index", v)]⟩ = pure [(("self" : Str), self), ("index", v)]) : Cl1 K (CT K) "index" := by
  have O := ex_own c
  refine ⟨⟨_, _, _, _, _, qual, fd, a1, a2, q1, q2, q3, q4, O, F, ?_⟩, ex_free c, by decide +kernel, by decide +kernel, O.kp⟩
  obtain ⟨oc, od, dV, kV, doc, pm, an, cdv, ct, osl, rfl, lk, hcd, hD, _⟩ := F.ex
  rcases hD with ⟨_, rfl⟩ | ⟨e, _⟩
  · exact ⟨fun s self v => .of_eq (b1 kV doc pm an cdv ct (.ref self) v), fun s self v => .of_eq (b2 kV doc pm an cdv ct (.ref self) v)⟩
  · exact absurd rfl e
/-- one argument, by place or by its name -/
theorem kbind1 {K : PySem.W.Frag} {x qual : Str} {params : Arguments} {body : List Stmt} {scope : Scope} {f : Addr} {fd : FuncData} {nm : Str} (F : FunD K x qual params body scope [] [] f fd)
    (b1 : ∀ (kV doc pm : Value) (an : Option Addr) (cdv ct v : Value), bindArgs (PySem.W.fnOf x qual params body scope .none kV doc pm an cdv ct) ⟨[v], []⟩ = pure [(nm, v)])
    (b2 : ∀ (kV doc pm : Value) (an : Option Addr) (cdv ct v : Value), bindArgs (PySem.W.fnOf x qual params body scope .none kV doc pm an cdv ct) ⟨[], [(nm, v)]⟩ = pure [(nm, v)]) : KBinds K fd [nm] [nm] gApp gApp := by
  obtain ⟨oc, od, dV, kV, doc, pm, an, cdv, ct, osl, rfl, lk, hcd, hD, _⟩ := F.ex
  rcases hD with ⟨_, rfl⟩ | ⟨e, _⟩
  · refine ⟨fun s us ws _ hl => ?_, fun r1 r2 => paired_app r1 r2⟩
    match us, ws, hl with
    | [v], [], _ => exact .of_eq (b1 kV doc pm an cdv ct v)
    | [], [v], _ => exact .of_eq (b2 kV doc pm an cdv ct v)
  · exact absurd rfl e
/-! DatumReader.__init__ -/
theorem cd_ok {K : PySem.W.Frag} {cda : Addr} (h : cdB K cda = true) : ∃ oc od vs osl file tf, K.lookup cda = some ⟨oc, od, .fields vs, osl⟩ ∧ vs[2]? = some (.str file tf) ∧ ((R.prog.main.file : Str) == file) = true := by
  unfold cdB at h
  cases e : K.lookup cda with
  | none => rw [e] at h; cases h
  | some ob =>
    obtain ⟨oc, od, dt, osl⟩ := ob
    rw [e] at h
    cases dt with
    | fields vs =>
      have h2 : (match (vs[2]? : Option Value) with
        | some (.str file _) => (R.prog.main.file : Str) == file
        | _ => false) = true := h
      cases e2 : vs[2]? with
      | none => rw [e2] at h2; cases h2
      | some v =>
        rw [e2] at h2
        cases v with
        | str file tf => exact ⟨oc, od, vs, osl, file, tf, rfl, e2, h2⟩
        | _ => cases h2
    | _ => cases h
theorem cc_ok {K : PySem.W.Frag} {cc : Addr} (h : ccB K cc = true) : ∃ oc od osl, K.lookup cc = some ⟨oc, od, .cell (some (.ref (CD K))), osl⟩ := by
  unfold ccB at h
  cases e : K.lookup cc with
  | none => rw [e] at h; cases h
  | some ob =>
    obtain ⟨oc, od, dt, osl⟩ := ob
    rw [e] at h
    cases dt with
    | cell x =>
      cases x with
      | none => cases h
      | some v =>
        cases v with
        | ref D =>
          have e3 : D = CD K := of_decide_eq_true h
          subst e3
          exact ⟨oc, od, osl, rfl⟩
        | _ => cases h
    | _ => cases h
theorem di_ok {K : PySem.W.Frag} (e : fnC K = diV) (h : diB K = true) : ∃ fd, DIni K R.prog (CD K) (FD K) (FR K) fd := by
  unfold fnC at e
  unfold diB at h
  cases q : K.lookup (FD K) with
  | none => rw [q] at h; cases h
  | some ob =>
    obtain ⟨oc, od, dt, osl⟩ := ob
    rw [q] at h e
    cases dt with
    | func fd =>
      obtain ⟨n1, n2, n3, n4, n5, n6, n7, n8, n9, n10, n11, n12, n13, n14, n15⟩ := fd
      have e2 : (some (n1, n2, n3, n4, n5, n6, n7.map Prod.fst, n8, n15) : FnC) = diV := e
      unfold diV at e2
      simp only [Option.some.injEq, Prod.mk.injEq] at e2
      obtain ⟨h1, h2, h3, h4, h5, h6, h7, h8, h9⟩ := e2
      subst h1 h2 h3 h4 h5 h6 h8 h9
      have h0 : diB2 K n7 n13 = true := h
      cases n7 with
      | nil => exact absurd h7 (by simp)
      | cons p ps =>
        cases ps with
        | cons p2 ps => exact absurd (congrArg List.length h7) (by simp)
        | nil =>
          obtain ⟨y, cc⟩ := p
          have ey : y = "__class__" := (List.cons.inj h7).1
          subst ey
          cases n13 with
          | ref cda =>
            obtain ⟨k1, k⟩ := and2 (show (PySem.W.codeIn K (.ref cda) "DatumReader.__init__" && (cdB K cda && (ccB K cc && clB K))) = true from h0)
            obtain ⟨k2, k⟩ := and2 k
            obtain ⟨k3, k⟩ := and2 k
            obtain ⟨k4, k⟩ := and2 k
            obtain ⟨k5, k⟩ := and2 k
            obtain ⟨k6, k⟩ := and2 k
            obtain ⟨k7, k⟩ := and2 k
            obtain ⟨k8, k9⟩ := and2 k
            refine ⟨_, ⟨cda, cc, n9, n10, n11, n14, oc, n12, od, osl, rfl, q, k1, ⟨⟨_, _, _, q⟩, cd_ok k2, cc_ok k3, Option.isSome_iff_exists.mp k4, of_decide_eq_true k5, He.eqO_ok k6, He.eqO_ok k7, of_decide_eq_true k8, k9, ?_⟩⟩, ?_⟩
            · decide +kernel
            · exact Binds.all fun us hl => match us, hl with | [_, _], _ => rfl
          | _ => cases h0
    | _ => cases h
theorem lv_vals {K : PySem.W.Frag} {w : World} (D : ∃ es n, KDict K w (He.ga K "LEAVES") es n) (h : He.valsB K (He.ga K "LEAVES") leavesL = true) : ∀ z v, leafOf z = some v → KDct K w (He.ga K "LEAVES") z v := by
  obtain ⟨es, n, D⟩ := D
  intro z v e
  have one : ∀ q ∈ leavesL, KDct K w (He.ga K "LEAVES") q.1 (q.2.v K) := fun q hq => by
    obtain ⟨u, e, r⟩ := He.valsB_ok h hq
    exact ⟨es, n, u, D.at_, D.lit, e, r⟩
  unfold leafOf at e
  split at e
  · rename_i hz; cases e; subst hz; exact one ("null", .non) (by simp [leavesL])
  · split at e
    · rename_i hz; cases e; subst hz; exact one ("yes", .bl true) (by simp [leavesL])
    · split at e
      · rename_i hz; cases e; subst hz; exact one ("no", .bl false) (by simp [leavesL])
      · cases e
theorem lv_not {z : Str} (h : leafOf z = none) : z ∉ (["null", "yes", "no"] : List Str) := by
  intro hm
  simp only [List.mem_cons, List.not_mem_nil, or_false] at hm
  rcases hm with rfl | rfl | rfl <;> exact absurd h (by decide +kernel)
theorem facts {w : World} {K : PySem.W.Frag} {h : Heap} {mg : Str → Option Value} {f : Addr} (X : K.In h) (G : h.Ns mainGlobals mg) (hfa : mg ("law" : Str) = some (.ref f)) (S : He.SaysX fa fn ts tf exB w h K) (S2 : fnC K = diV) :
    ∃ fd : FuncData, FunD K "law" "law" (defArgs sLaw) (defBody sLaw) (defScope sLaw) [] [] f fd ∧ (∀ (s : Shared) (v : Value), BindsTo s fd ⟨[v], []⟩ [("_law_script", v)]) ∧ ∀ base : Heap, K.In base → base.Ns mainGlobals mg → BodyOk R.prog w K mg base 127 NLw "law" (defScope sLaw) (defBody sLaw) f (spLaw K) := by
  obtain ⟨dPs, FPs⟩ := S.t.d.def_ 0 (d := hdOf "pieces_of" sPs) rfl
  have mPs := He.glo_ok X G (S.t.d.fact 0 (f := .glo "pieces_of") rfl)
  obtain ⟨dGap, FGap⟩ := S.t.d.def_ 1 (d := hdOf "_gap_end" sGap) rfl
  have mGap := He.glo_ok X G (S.t.d.fact 1 (f := .glo "_gap_end") rfl)
  obtain ⟨dAt, FAt⟩ := S.t.d.def_ 2 (d := hdOf "_piece_at" sAt) rfl
  have mAt := He.glo_ok X G (S.t.d.fact 2 (f := .glo "_piece_at") rfl)
  obtain ⟨dPc, FPc⟩ := S.t.d.def_ 3 (d := hdOf "_piece" sPc) rfl
  have mPc := He.glo_ok X G (S.t.d.fact 3 (f := .glo "_piece") rfl)
  obtain ⟨dRun, FRun⟩ := S.t.d.def_ 4 (d := hdOf "_run_end" sRun) rfl
  have mRun := He.glo_ok X G (S.t.d.fact 4 (f := .glo "_run_end") rfl)
  obtain ⟨dNum, FNum⟩ := S.t.d.def_ 5 (d := hdOf "_number_piece" sNum) rfl
  have mNum := He.glo_ok X G (S.t.d.fact 5 (f := .glo "_number_piece") rfl)
  obtain ⟨dStr, FStr⟩ := S.t.d.def_ 6 (d := hdOf "_string_piece" sStr) rfl
  have mStr := He.glo_ok X G (S.t.d.fact 6 (f := .glo "_string_piece") rfl)
  obtain ⟨dLf, FLf⟩ := S.t.d.def_ 7 (d := hdOf "is_leaf" sLf) rfl
  have mLf := He.glo_ok X G (S.t.d.fact 7 (f := .glo "is_leaf") rfl)
  obtain ⟨dTx, FTx⟩ := S.t.d.def_ 8 (d := hdOf "_is_text" sTx) rfl
  have mTx := He.glo_ok X G (S.t.d.fact 8 (f := .glo "_is_text") rfl)
  obtain ⟨dDR, FDR⟩ := S.t.d.def_ 9 (d := hdOf "datum_read" sDR) rfl
  have mDR := He.glo_ok X G (S.t.d.fact 9 (f := .glo "datum_read") rfl)
  obtain ⟨dRD, FRD⟩ := S.t.d.def_ 10 (d := hdOf "read_datum" sRD) rfl
  have mRD := He.glo_ok X G (S.t.d.fact 10 (f := .glo "read_datum") rfl)
  obtain ⟨dStp, FStp⟩ := S.t.d.def_ 11 (d := hdOf "steps_into" sStp) rfl
  have mStp := He.glo_ok X G (S.t.d.fact 11 (f := .glo "steps_into") rfl)
  obtain ⟨dLis, FLis⟩ := S.t.d.def_ 12 (d := hdOf "_listed" sLis) rfl
  have mLis := He.glo_ok X G (S.t.d.fact 12 (f := .glo "_listed") rfl)
  obtain ⟨dLfp, FLfp⟩ := S.t.d.def_ 13 (d := hdOf "leaf_piece" sLfp) rfl
  have mLfp := He.glo_ok X G (S.t.d.fact 13 (f := .glo "leaf_piece") rfl)
  obtain ⟨dPd, FPd⟩ := S.t.d.def_ 14 (d := hdOf "datum_pieces" sPd) rfl
  have mPd := He.glo_ok X G (S.t.d.fact 14 (f := .glo "datum_pieces") rfl)
  obtain ⟨dWd, FWd⟩ := S.t.d.def_ 15 (d := hdOf "write_datum" sWd) rfl
  have mWd := He.glo_ok X G (S.t.d.fact 15 (f := .glo "write_datum") rfl)
  obtain ⟨dB, FB⟩ := S.t.d.def_ 16 (d := hdOf "_law_begin" sBegin) rfl
  have mB := He.glo_ok X G (S.t.d.fact 16 (f := .glo "_law_begin") rfl)
  obtain ⟨dD, FD⟩ := S.t.d.def_ 17 (d := hdOf "_law_draw" sDraw) rfl
  have mD := He.glo_ok X G (S.t.d.fact 17 (f := .glo "_law_draw") rfl)
  obtain ⟨dPi, FPi⟩ := S.t.d.def_ 18 (d := hdOf "_law_pick" sPick) rfl
  have mPi := He.glo_ok X G (S.t.d.fact 18 (f := .glo "_law_pick") rfl)
  obtain ⟨dShf, FShf⟩ := S.t.d.def_ 19 (d := hdOf "_law_shuffled" sShuf) rfl
  have mShf := He.glo_ok X G (S.t.d.fact 19 (f := .glo "_law_shuffled") rfl)
  obtain ⟨dSt, FSt⟩ := S.t.d.def_ 20 (d := hdOf "_law_string" sSt) rfl
  have mSt := He.glo_ok X G (S.t.d.fact 20 (f := .glo "_law_string") rfl)
  obtain ⟨dLe, FLe⟩ := S.t.d.def_ 21 (d := hdOf "_law_leaf" sLe) rfl
  have mLe := He.glo_ok X G (S.t.d.fact 21 (f := .glo "_law_leaf") rfl)
  obtain ⟨dRow, FRow⟩ := S.t.d.def_ 22 (d := hdOf "_law_row" sRow) rfl
  have mRow := He.glo_ok X G (S.t.d.fact 22 (f := .glo "_law_row") rfl)
  obtain ⟨dLp, FLp⟩ := S.t.d.def_ 23 (d := hdOf "_law_leaf_piece" sLp) rfl
  have mLp := He.glo_ok X G (S.t.d.fact 23 (f := .glo "_law_leaf_piece") rfl)
  obtain ⟨dDt, FDt⟩ := S.t.d.def_ 24 (d := hdOf "_law_datum" sDt) rfl
  have mDt := He.glo_ok X G (S.t.d.fact 24 (f := .glo "_law_datum") rfl)
  obtain ⟨dSh, FSh⟩ := S.t.d.def_ 25 (d := hdOf "_law_shown" sSh) rfl
  have mSh := He.glo_ok X G (S.t.d.fact 25 (f := .glo "_law_shown") rfl)
  obtain ⟨dDp, FDp⟩ := S.t.d.def_ 26 (d := hdOf "_law_data_pieces" sDp) rfl
  have mDp := He.glo_ok X G (S.t.d.fact 26 (f := .glo "_law_data_pieces") rfl)
  obtain ⟨dGp, FGp⟩ := S.t.d.def_ 27 (d := hdOf "_law_gap" sGp) rfl
  have mGp := He.glo_ok X G (S.t.d.fact 27 (f := .glo "_law_gap") rfl)
  obtain ⟨dAp, FAp⟩ := S.t.d.def_ 28 (d := hdOf "_law_is_apart" sAp) rfl
  have mAp := He.glo_ok X G (S.t.d.fact 28 (f := .glo "_law_is_apart") rfl)
  obtain ⟨dLa, FLa⟩ := S.t.d.def_ 29 (d := hdOf "_law_laid" sLa) rfl
  have mLa := He.glo_ok X G (S.t.d.fact 29 (f := .glo "_law_laid") rfl)
  obtain ⟨dRi, FRi⟩ := S.t.d.def_ 30 (d := hdOf "_law_right" sRi) rfl
  have mRi := He.glo_ok X G (S.t.d.fact 30 (f := .glo "_law_right") rfl)
  obtain ⟨dL, FL⟩ := S.t.d.def_ 31 (d := hdOf "law" sLaw) rfl
  have mL := He.glo_ok X G (S.t.d.fact 31 (f := .glo "law") rfl)
  obtain ⟨dPcI, FPcI⟩ := S.t.d.def_ 32 (d := mOf "Piece" "__init__" "Piece.__init__" sPcI) rfl
  obtain ⟨dpiece, Fpiece⟩ := S.t.d.def_ 33 (d := mOf "DatumReader" "piece" "Reader.piece" sPiece) rfl
  obtain ⟨disAt, FisAt⟩ := S.t.d.def_ 34 (d := mOf "DatumReader" "is_at" "Reader.is_at" sIsAt) rfl
  obtain ⟨dref, Fref⟩ := S.t.d.def_ 35 (d := mOf "DatumReader" "refuse" "Reader.refuse" sRef) rfl
  obtain ⟨dtaken, Ftaken⟩ := S.t.d.def_ 36 (d := mOf "DatumReader" "taken" "Reader.taken" sTaken) rfl
  obtain ⟨dexp, Fexp⟩ := S.t.d.def_ 37 (d := mOf "DatumReader" "expect" "Reader.expect" sExp) rfl
  obtain ⟨dexpO, FexpO⟩ := S.t.d.def_ 38 (d := mOf "DatumReader" "expect_other" "Reader.expect_other" sExpO) rfl
  obtain ⟨dexpL, FexpL⟩ := S.t.d.def_ 39 (d := mOf "DatumReader" "expect_leaf" "Reader.expect_leaf" sExpL) rfl
  obtain ⟨dread, Fread⟩ := S.t.d.def_ 40 (d := mOf "DatumReader" "read_part" "DatumReader.read_part" sRead) rfl
  obtain ⟨dlist, Flist⟩ := S.t.d.def_ 41 (d := mOf "DatumReader" "_list" "DatumReader._list" sList) rfl
  obtain ⟨ddict, Fdict⟩ := S.t.d.def_ 42 (d := mOf "DatumReader" "_dict" "DatumReader._dict" sDict) rfl
  obtain ⟨dRI, FRI⟩ := S.t.d.def_ 43 (d := mOf "Reader" "__init__" "Reader.__init__" sRI) rfl
  obtain ⟨dI, FI⟩ := S.t.d.def_ 44 (d := mOf "InvalidText" "__init__" "InvalidText.__init__" (inClass (top 2) 0)) rfl
  have g_Piece := He.glo_ok X G (S.t.d.fact 32 (f := .glo "Piece") rfl)
  have g_DatumReader := He.glo_ok X G (S.t.d.fact 33 (f := .glo "DatumReader") rfl)
  have g_InvalidText := He.glo_ok X G (S.t.d.fact 34 (f := .glo "InvalidText") rfl)
  have g_LEAVES := He.glo_ok X G (S.t.d.fact 35 (f := .glo "LEAVES") rfl)
  have z_all := He.free_ok X G (S.t.d.fact 36 (f := .free "all") rfl)
  have z_bool := He.free_ok X G (S.t.d.fact 37 (f := .free "bool") rfl)
  have z_dict := He.free_ok X G (S.t.d.fact 38 (f := .free "dict") rfl)
  have z_int := He.free_ok X G (S.t.d.fact 39 (f := .free "int") rfl)
  have z_isinstance := He.free_ok X G (S.t.d.fact 40 (f := .free "isinstance") rfl)
  have z_len := He.free_ok X G (S.t.d.fact 41 (f := .free "len") rfl)
  have z_list := He.free_ok X G (S.t.d.fact 42 (f := .free "list") rfl)
  have z_min := He.free_ok X G (S.t.d.fact 43 (f := .free "min") rfl)
  have z_ord := He.free_ok X G (S.t.d.fact 44 (f := .free "ord") rfl)
  have z_range := He.free_ok X G (S.t.d.fact 45 (f := .free "range") rfl)
  have z_repr := He.free_ok X G (S.t.d.fact 46 (f := .free "repr") rfl)
  have z_sorted := He.free_ok X G (S.t.d.fact 47 (f := .free "sorted") rfl)
  have z_str := He.free_ok X G (S.t.d.fact 48 (f := .free "str") rfl)
  have z_super := He.free_ok X G (S.t.d.fact 49 (f := .free "super") rfl)
  obtain ⟨t_GREATEST, m_GREATEST⟩ := He.int_ok X G (S.t.d.fact 50 (f := .int "GREATEST" 1000000000000000000000000000000) rfl)
  have r_GREATEST : L2.RelV (.int (10 ^ 30)) (.int 1000000000000000000000000000000 t_GREATEST) := ⟨t_GREATEST, rfl⟩
  obtain ⟨t_MOST_DIGITS, m_MOST_DIGITS⟩ := He.int_ok X G (S.t.d.fact 51 (f := .int "MOST_DIGITS" 31) rfl)
  have r_MOST_DIGITS : L2.RelV (.int 31) (.int 31 t_MOST_DIGITS) := ⟨t_MOST_DIGITS, rfl⟩
  obtain ⟨t_MOST_INDEX, m_MOST_INDEX⟩ := He.int_ok X G (S.t.d.fact 52 (f := .int "MOST_INDEX" 99) rfl)
  have r_MOST_INDEX : L2.RelV (.int 99) (.int 99 t_MOST_INDEX) := ⟨t_MOST_INDEX, rfl⟩
  obtain ⟨t_MOST_LETTERS_data, m_MOST_LETTERS_data⟩ := He.int_ok X G (S.t.d.fact 53 (f := .int "MOST_LETTERS_data" 200) rfl)
  have r_MOST_LETTERS_data : L2.RelV (.int 200) (.int 200 t_MOST_LETTERS_data) := ⟨t_MOST_LETTERS_data, rfl⟩
  obtain ⟨t_MOST_LETTERS_words, m_MOST_LETTERS_words⟩ := He.int_ok X G (S.t.d.fact 54 (f := .int "MOST_LETTERS_words" 8) rfl)
  have r_MOST_LETTERS_words : L2.RelV (.int 8) (.int 8 t_MOST_LETTERS_words) := ⟨t_MOST_LETTERS_words, rfl⟩
  obtain ⟨t_MOST_LEVELS, m_MOST_LEVELS⟩ := He.int_ok X G (S.t.d.fact 55 (f := .int "MOST_LEVELS" 60) rfl)
  have r_MOST_LEVELS : L2.RelV (.int 60) (.int 60 t_MOST_LEVELS) := ⟨t_MOST_LEVELS, rfl⟩
  obtain ⟨t_MOST_PARTS, m_MOST_PARTS⟩ := He.int_ok X G (S.t.d.fact 56 (f := .int "MOST_PARTS" 1000) rfl)
  have r_MOST_PARTS : L2.RelV (.int 1000) (.int 1000 t_MOST_PARTS) := ⟨t_MOST_PARTS, rfl⟩
  obtain ⟨t_PERCENT_SIGN, m_PERCENT_SIGN⟩ := He.int_ok X G (S.t.d.fact 57 (f := .int "PERCENT_SIGN" 37) rfl)
  have r_PERCENT_SIGN : L2.RelV (.int 37) (.int 37 t_PERCENT_SIGN) := ⟨t_PERCENT_SIGN, rfl⟩
  obtain ⟨t_DIGITS, m_DIGITS⟩ := He.str_ok X G (S.t.d.fact 58 (f := .str "DIGITS" digS) rfl)
  have r_DIGITS : L2.RelV (.str digS) (.str digS t_DIGITS) := ⟨t_DIGITS, rfl⟩
  obtain ⟨t_LETTERS, m_LETTERS⟩ := He.str_ok X G (S.t.d.fact 59 (f := .str "LETTERS" letS) rfl)
  have r_LETTERS : L2.RelV (.str letS) (.str letS t_LETTERS) := ⟨t_LETTERS, rfl⟩
  obtain ⟨t_MARKS, m_MARKS⟩ := He.str_ok X G (S.t.d.fact 60 (f := .str "MARKS" mrkS) rfl)
  have r_MARKS : L2.RelV (.str mrkS) (.str mrkS t_MARKS) := ⟨t_MARKS, rfl⟩
  have cls_Piece := He.cls_ok (S.t.d.fact 61 (f := .cls "Piece") rfl)
  have mkr_Piece := He.mkr_ok (S.t.d.fact 62 (f := .mkr "Piece") rfl)
  have no_Piece_kind := He.noat_ok (S.t.d.fact 63 (f := .noat "Piece" "kind") rfl)
  have no_Piece_told := He.noat_ok (S.t.d.fact 64 (f := .noat "Piece" "told") rfl)
  have no_Piece_at := He.noat_ok (S.t.d.fact 65 (f := .noat "Piece" "at") rfl)
  have no_Piece_end := He.noat_ok (S.t.d.fact 66 (f := .noat "Piece" "end") rfl)
  have cls_DatumReader := He.cls_ok (S.t.d.fact 67 (f := .cls "DatumReader") rfl)
  have mkr_DatumReader := He.mkr_ok (S.t.d.fact 68 (f := .mkr "DatumReader") rfl)
  have no_DatumReader_pieces := He.noat_ok (S.t.d.fact 69 (f := .noat "DatumReader" "pieces") rfl)
  have no_DatumReader_number := He.noat_ok (S.t.d.fact 70 (f := .noat "DatumReader" "number") rfl)
  have no_DatumReader_many_open := He.noat_ok (S.t.d.fact 71 (f := .noat "DatumReader" "many_open") rfl)
  have no_DatumReader_pairs := He.noat_ok (S.t.d.fact 72 (f := .noat "DatumReader" "pairs") rfl)
  have no_DatumReader_many_parts := He.noat_ok (S.t.d.fact 73 (f := .noat "DatumReader" "many_parts") rfl)
  have me_piece := He.meth_ok (S.t.d.fact 74 (f := .meth "DatumReader" "piece") rfl)
  have me_is_at := He.meth_ok (S.t.d.fact 75 (f := .meth "DatumReader" "is_at") rfl)
  have me_refuse := He.meth_ok (S.t.d.fact 76 (f := .meth "DatumReader" "refuse") rfl)
  have me_taken := He.meth_ok (S.t.d.fact 77 (f := .meth "DatumReader" "taken") rfl)
  have me_expect := He.meth_ok (S.t.d.fact 78 (f := .meth "DatumReader" "expect") rfl)
  have me_expect_other := He.meth_ok (S.t.d.fact 79 (f := .meth "DatumReader" "expect_other") rfl)
  have me_expect_leaf := He.meth_ok (S.t.d.fact 80 (f := .meth "DatumReader" "expect_leaf") rfl)
  have me_read_part := He.meth_ok (S.t.d.fact 81 (f := .meth "DatumReader" "read_part") rfl)
  have me__list := He.meth_ok (S.t.d.fact 82 (f := .meth "DatumReader" "_list") rfl)
  have me__dict := He.meth_ok (S.t.d.fact 83 (f := .meth "DatumReader" "_dict") rfl)
  have hm := S.more
  obtain ⟨x0, hm⟩ := and2 hm
  obtain ⟨x1, hm⟩ := and2 hm
  obtain ⟨x2, hm⟩ := and2 hm
  obtain ⟨x3, x4⟩ := and2 hm
  obtain ⟨x5, x6⟩ := and2 x2
  have C1 : Cl1 K (CT K) "index" := mk_cl1 x0 FI (fun _ _ _ _ _ _ _ _ => rfl) (fun _ _ _ _ _ _ _ _ => rfl)
  have CR := ex_clR x0
  have hne : CD K ≠ CP K := by
    intro e
    rw [decide_eq_true e] at x4
    cases x4
  have LD := S.t.tab 0 (t := (fun K => He.ga K "LEAVES", ["null", "yes", "no"])) rfl
  have LS := lv_vals LD x6
  have LN : ∀ z, leafOf z = none → PySem.W.nsIn K (He.ga K "LEAVES") z = some none := fun z hz => keysB_ok x5 (lv_not hz)
  obtain ⟨dDI, DI⟩ := di_ok S2 x3
  have TP : PCls K (CP K) (He.ma K (CP K) "__init__") := ⟨cls_Piece, mkr_Piece, no_Piece_kind, no_Piece_told, no_Piece_at, no_Piece_end⟩
  have TC : RCls K (CD K) := ⟨cls_DatumReader, no_DatumReader_pieces, no_DatumReader_number, no_DatumReader_many_open, no_DatumReader_pairs, no_DatumReader_many_parts⟩
  have bPs : Binds K dPs ["text"] [] := FPs.bindsN fun _ _ _ _ _ _ us hl => match us, hl with | [_], _ => rfl
  have bGap : Binds K dGap ["text", "at"] [] := FGap.bindsN fun _ _ _ _ _ _ us hl => match us, hl with | [_, _], _ => rfl
  have bAt : Binds K dAt ["text", "at"] [] := FAt.bindsN fun _ _ _ _ _ _ us hl => match us, hl with | [_, _], _ => rfl
  have bPc : Binds K dPc ["kind", "told", "at", "end", "is_right"] [] := FPc.bindsN fun _ _ _ _ _ _ us hl => match us, hl with | [_, _, _, _, _], _ => rfl
  have bRun : Binds K dRun ["text", "at", "letters"] [] := FRun.bindsN fun _ _ _ _ _ _ us hl => match us, hl with | [_, _, _], _ => rfl
  have bNum : Binds K dNum ["kind", "text", "at", "begin", "greatest"] [] := FNum.bindsN fun _ _ _ _ _ _ us hl => match us, hl with | [_, _, _, _, _], _ => rfl
  have bStr : Binds K dStr ["text", "at"] [] := FStr.bindsN fun _ _ _ _ _ _ us hl => match us, hl with | [_, _], _ => rfl
  have bLf : Binds K dLf ["value"] [] := FLf.bindsN fun _ _ _ _ _ _ us hl => match us, hl with | [_], _ => rfl
  have bTx : Binds K dTx ["text"] [] := FTx.bindsN fun _ _ _ _ _ _ us hl => match us, hl with | [_], _ => rfl
  have bDR : Binds K dDR ["text"] [] := FDR.bindsN fun _ _ _ _ _ _ us hl => match us, hl with | [_], _ => rfl
  have bRD : Binds K dRD ["text"] [] := FRD.bindsN fun _ _ _ _ _ _ us hl => match us, hl with | [_], _ => rfl
  have bStp : Binds K dStp ["datum"] [] := FStp.bindsN fun _ _ _ _ _ _ us hl => match us, hl with | [_], _ => rfl
  have bLis : Binds K dLis ["rows"] [] := FLis.bindsN fun _ _ _ _ _ _ us hl => match us, hl with | [_], _ => rfl
  have bLfp : Binds K dLfp ["leaf"] [] := FLfp.bindsN fun _ _ _ _ _ _ us hl => match us, hl with | [_], _ => rfl
  have bPd : Binds K dPd ["datum"] [] := FPd.bindsN fun _ _ _ _ _ _ us hl => match us, hl with | [_], _ => rfl
  have bWd : Binds K dWd ["datum"] [] := FWd.bindsN fun _ _ _ _ _ _ us hl => match us, hl with | [_], _ => rfl
  have bB : Binds K dB ["_law_script"] [] := FB.bindsN fun _ _ _ _ _ _ us hl => match us, hl with | [_], _ => rfl
  have bD : Binds K dD ["_law_tape", "_law_many"] [] := FD.bindsN fun _ _ _ _ _ _ us hl => match us, hl with | [_, _], _ => rfl
  have bPi : Binds K dPi ["_law_tape", "_law_items"] [] := FPi.bindsN fun _ _ _ _ _ _ us hl => match us, hl with | [_, _], _ => rfl
  have bShf : Binds K dShf ["_law_tape", "_law_items"] [] := FShf.bindsN fun _ _ _ _ _ _ us hl => match us, hl with | [_, _], _ => rfl
  have bSt : Binds K dSt ["_law_tape"] [] := FSt.bindsN fun _ _ _ _ _ _ us hl => match us, hl with | [_], _ => rfl
  have bLe : Binds K dLe ["_law_tape"] [] := FLe.bindsN fun _ _ _ _ _ _ us hl => match us, hl with | [_], _ => rfl
  have bRow : Binds K dRow ["_law_rows"] [] := FRow.bindsN fun _ _ _ _ _ _ us hl => match us, hl with | [_], _ => rfl
  have bLp : Binds K dLp ["_law_leaf_here"] [] := FLp.bindsN fun _ _ _ _ _ _ us hl => match us, hl with | [_], _ => rfl
  have bDt : Binds K dDt ["_law_tape", "_law_deep"] [] := FDt.bindsN fun _ _ _ _ _ _ us hl => match us, hl with | [_, _], _ => rfl
  have bSh : Binds K dSh ["_law_item"] [] := FSh.bindsN fun _ _ _ _ _ _ us hl => match us, hl with | [_], _ => rfl
  have bDp : Binds K dDp ["_law_tape", "_law_item", "_law_is_least"] [] := FDp.bindsN fun _ _ _ _ _ _ us hl => match us, hl with | [_, _, _], _ => rfl
  have bGp : Binds K dGp ["_law_tape", "_law_is_needed"] [] := FGp.bindsN fun _ _ _ _ _ _ us hl => match us, hl with | [_, _], _ => rfl
  have bAp : Binds K dAp ["_law_one", "_law_other"] [] := FAp.bindsN fun _ _ _ _ _ _ us hl => match us, hl with | [_, _], _ => rfl
  have bLa : Binds K dLa ["_law_tape", "_law_pieces"] [] := FLa.bindsN fun _ _ _ _ _ _ us hl => match us, hl with | [_, _], _ => rfl
  have bRi : Binds K dRi ["_law_tape", "_law_item"] [] := FRi.bindsN fun _ _ _ _ _ _ us hl => match us, hl with | [_, _], _ => rfl
  have bPcI : Binds K dPcI ["self", "kind", "told", "at", "end"] [] := FPcI.bindsN fun _ _ _ _ _ _ us hl => match us, hl with | [_, _, _, _, _], _ => rfl
  have bpiece : Binds K dpiece ["self"] [] := Fpiece.bindsN fun _ _ _ _ _ _ us hl => match us, hl with | [_], _ => rfl
  have bisAt : Binds K disAt ["self", "told"] [] := FisAt.bindsN fun _ _ _ _ _ _ us hl => match us, hl with | [_, _], _ => rfl
  have bref : Binds K dref ["self"] [] := Fref.bindsN fun _ _ _ _ _ _ us hl => match us, hl with | [_], _ => rfl
  have btaken : Binds K dtaken ["self"] [] := Ftaken.bindsN fun _ _ _ _ _ _ us hl => match us, hl with | [_], _ => rfl
  have bexp : Binds K dexp ["self", "told"] [] := Fexp.bindsN fun _ _ _ _ _ _ us hl => match us, hl with | [_, _], _ => rfl
  have bexpO : Binds K dexpO ["self", "kind", "others"] [] := FexpO.bindsN fun _ _ _ _ _ _ us hl => match us, hl with | [_, _, _], _ => rfl
  have bexpL : Binds K dexpL ["self"] [] := FexpL.bindsN fun _ _ _ _ _ _ us hl => match us, hl with | [_], _ => rfl
  have bread : Binds K dread ["self", "level"] [] := Fread.bindsN fun _ _ _ _ _ _ us hl => match us, hl with | [_, _], _ => rfl
  have blist : Binds K dlist ["self", "level"] [] := Flist.bindsN fun _ _ _ _ _ _ us hl => match us, hl with | [_, _], _ => rfl
  have bdict : Binds K ddict ["self", "level"] [] := Fdict.bindsN fun _ _ _ _ _ _ us hl => match us, hl with | [_, _], _ => rfl
  have bRI : Binds K dRI ["self", "text"] [] := FRI.bindsN fun _ _ _ _ _ _ us hl => match us, hl with | [_, _], _ => rfl
  have kWd : KBinds K dWd ["datum"] ["datum"] gApp gApp := kbind1 FWd (fun _ _ _ _ _ _ _ => rfl) (fun _ _ _ _ _ _ _ => rfl)
  have kRD : KBinds K dRD ["text"] ["text"] gApp gApp := kbind1 FRD (fun _ _ _ _ _ _ _ => rfl) (fun _ _ _ _ _ _ _ => rfl)
  have e := hfa.symm.trans mL
  cases e
  refine ⟨dL, FL, fun s v => FL.bindsA (ps := ["_law_script"]) (fun _ _ _ _ _ _ us hl => match us, hl with | [_], _ => rfl) s [v] rfl, fun base _ _ => ?_⟩
  have GD : FnOk R.prog w K mg base CX0 1 _ dD ["_law_tape", "_law_many"] spDraw := ok_draw (fun_of FD) z_len z_int
  have GB : FnOk R.prog w K mg base CX0 1 _ dB ["_law_script"] (spBegin K) := ok_begin (fun_of FB) 
  have GPi : FnOk R.prog w K mg base CX0 2 _ dPi ["_law_tape", "_law_items"] spPick := ok_pick (fun_of FPi) GD mD FD.kp bD z_len
  have GPiS : FnOk R.prog w K mg base CX0 2 _ dPi ["_law_tape", "_law_items"] spPickS := ok_pickS (fun_of FPi) GD mD FD.kp bD z_len
  have GShf : FnOk R.prog w K mg base CX0 2 _ dShf ["_law_tape", "_law_items"] spShuf := ok_shuf (fun_of FShf) GD mD FD.kp bD z_len z_list
  have GSt : FnOk R.prog w K mg base CX0 3 _ dSt ["_law_tape"] spSt := ok_st (fun_of FSt) GD mD FD.kp bD GPiS mPi FPi.kp bPi z_range
  have GLe : FnOk R.prog w K mg base CX0 4 _ dLe ["_law_tape"] spLe := ok_le (fun_of FLe) GD mD FD.kp bD GPi mPi FPi.kp bPi GSt mSt FSt.kp bSt
  have GRow : FnOk R.prog w K mg base CX0 1 _ dRow ["_law_rows"] spRow := ok_row (fun_of FRow) 
  have GLp : FnOk R.prog w K mg base CX0 1 _ dLp ["_law_leaf_here"] spLp := ok_lp (fun_of FLp) z_isinstance z_str z_repr
  have GDt : FnOk R.prog w K mg base CX0 10 _ dDt ["_law_tape", "_law_deep"] (spDt 5) := ok_dt (fun_of FDt) GD mD FD.kp bD GShf mShf FShf.kp bShf GLe mLe FLe.kp bLe mDt FDt.kp bDt z_range z_dict 5
  have GSh : FnOk R.prog w K mg base CX0 62 _ dSh ["_law_item"] (spSh 60) := ok_sh (fun_of FSh) mSh FSh.kp bSh z_isinstance z_list z_dict z_sorted z_repr 60
  have GDp : FnOk R.prog w K mg base CX0 63 _ dDp ["_law_tape", "_law_item", "_law_is_least"] (spDp 60) := ok_dp (fun_of FDp) GLp mLp FLp.kp bLp GRow mRow FRow.kp bRow GShf mShf FShf.kp bShf mDp FDp.kp bDp z_isinstance z_list z_dict z_sorted 60
  have GGp : FnOk R.prog w K mg base CX0 3 _ dGp ["_law_tape", "_law_is_needed"] spGp := ok_gp (fun_of FGp) GPi mPi FPi.kp bPi
  have GAp : FnOk R.prog w K mg base CX0 1 _ dAp ["_law_one", "_law_other"] spAp := ok_ap (fun_of FAp) z_len
  have GLa : FnOk R.prog w K mg base CX0 4 _ dLa ["_law_tape", "_law_pieces"] spLa := ok_la (fun_of FLa) GGp mGp FGp.kp bGp GAp mAp FAp.kp bAp GPi mPi FPi.kp bPi z_int
  have GStp : FnOk R.prog w K mg base CX0 1 _ dStp ["datum"] spStp := ok_stp (fun_of FStp) z_isinstance z_list z_dict z_range z_len z_sorted
  have GLis : FnOk R.prog w K mg base CX0 1 _ dLis ["rows"] spLis := ok_lis (fun_of FLis) 
  have GLfp : FnOk R.prog w K mg base CX0 1 _ dLfp ["leaf"] spLfp := ok_lfp (fun_of FLfp) z_isinstance z_bool z_str
  have GPd : FnOk R.prog w K mg base CX0 62 _ dPd ["datum"] (spPd 60) := ok_pd (fun_of FPd) GLis mLis FLis.kp bLis GStp mStp FStp.kp bStp GLfp mLfp FLfp.kp bLfp mPd FPd.kp bPd z_isinstance z_list z_dict 60
  have GWd : FnOk R.prog w K mg base CX0 63 _ dWd ["datum"] spWd := ok_wd (fun_of FWd) GPd mPd FPd.kp bPd
  have GPcI : FnOk R.prog w K mg base CX0 1 _ dPcI ["self", "kind", "told", "at", "end"] (spPcI (CP K)) := ok_pcI TP (fun_of FPcI) 
  have GPc : FnOk R.prog w K mg base CX0 3 _ dPc ["kind", "told", "at", "end", "is_right"] (spPc (CP K)) := ok_pc TP (fun_of FPc) GPcI g_Piece bPcI
  have GRun : FnOk R.prog w K mg base CX0 1 _ dRun ["text", "at", "letters"] spRun := ok_run (fun_of FRun) z_len
  have GGap : FnOk R.prog w K mg base CX0 1 _ dGap ["text", "at"] spGap := ok_gap (fun_of FGap) z_len
  have GTx : FnOk R.prog w K mg base CX0 1 _ dTx ["text"] spTx := ok_txt (fun_of FTx) m_MOST_LETTERS_data r_MOST_LETTERS_data m_PERCENT_SIGN r_PERCENT_SIGN z_len z_ord z_all
  have GLf : FnOk R.prog w K mg base CX0 2 _ dLf ["value"] spLfS := ok_lf (fun_of FLf) GTx mTx FTx.kp bTx m_GREATEST r_GREATEST z_isinstance z_bool z_int z_str
  have GNum : FnOk R.prog w K mg base CX0 4 _ dNum ["kind", "text", "at", "begin", "greatest"] (spNum (CP K)) := ok_num (fun_of FNum) GRun mRun FRun.kp bRun GPc mPc FPc.kp bPc m_DIGITS r_DIGITS m_MOST_DIGITS r_MOST_DIGITS z_len z_int
  have GStr : FnOk R.prog w K mg base CX0 4 _ dStr ["text", "at"] (spStr (CP K)) := ok_str (fun_of FStr) GLf mLf FLf.kp bLf GPc mPc FPc.kp bPc z_len
  have GAt : FnOk R.prog w K mg base CX0 5 _ dAt ["text", "at"] (spAt (CP K)) := ok_at (fun_of FAt) GRun mRun FRun.kp bRun GNum mNum FNum.kp bNum GStr mStr FStr.kp bStr GPc mPc FPc.kp bPc m_LETTERS r_LETTERS m_DIGITS r_DIGITS m_MOST_LETTERS_words r_MOST_LETTERS_words m_MOST_INDEX r_MOST_INDEX m_GREATEST r_GREATEST m_MARKS r_MARKS
  have GPs : FnOk R.prog w K mg base CX0 6 _ dPs ["text"] (spPs (CP K)) := ok_ps (fun_of FPs) TP GPcI g_Piece bPcI GGap mGap FGap.kp bGap GAt mAt FAt.kp bAt z_len
  have Gpiece : FnOk R.prog w K mg base CX0 1 _ dpiece ["self"] (spPiece (CD K) (CP K)) := ok_piece (fun_of Fpiece) TC
  have GisAt : FnOk R.prog w K mg base CX0 2 _ disAt ["self", "told"] (spIsAt (CD K) (CP K)) := ok_isAt (fun_of FisAt) TC TP me_piece Gpiece bpiece
  have Gref : FnOk R.prog w K mg base (L2.CX R.prog w) 2 _ dref ["self"] (spRef (CD K) (CP K) (CT K)) := ok_ref (fun_of Fref) TC TP C1 CR g_InvalidText me_piece Gpiece bpiece
  have Gtaken : FnOk R.prog w K mg base CX0 1 _ dtaken ["self"] (spTaken (CD K) (CP K)) := ok_taken (fun_of Ftaken) TC hne
  have Gexp : FnOk R.prog w K mg base (L2.CX R.prog w) 3 _ dexp ["self", "told"] (spExp (CD K) (CP K) (CT K)) := ok_exp (fun_of Fexp) TC me_is_at GisAt bisAt me_refuse Gref bref me_taken Gtaken btaken
  have GexpO : FnOk R.prog w K mg base (L2.CX R.prog w) 3 _ dexpO ["self", "kind", "others"] (spExpO (CD K) (CP K) (CT K)) := ok_expO (fun_of FexpO) TC TP me_piece Gpiece bpiece me_refuse Gref bref me_taken Gtaken btaken
  have GexpL : FnOk R.prog w K mg base (L2.CX R.prog w) 3 _ dexpL ["self"] (spExpL (CD K) (CP K) (CT K)) := ok_expL (fun_of FexpL) TC TP me_piece Gpiece bpiece me_refuse Gref bref me_taken Gtaken btaken g_LEAVES LD LS LN
  have M : RMeth R.prog w K mg base (CD K) (CP K) (CT K) := ⟨_, _, _, _, _, _, _, _, _, _, _, _, me_is_at, me_refuse, me_taken, me_expect, me_expect_other, me_expect_leaf, GisAt, Gref, Gtaken, Gexp, GexpO, GexpL, bisAt, bref, btaken, bexp, bexpO, bexpL⟩
  have Gread : FnOk R.prog w K mg base (L2.CX R.prog w) 124 _ dread ["self", "level"] (spRead (CD K) (CP K) (CT K) 60) := ok_read (fun_of Fread) (fun_of Flist) (fun_of Fdict) TC M hne me_read_part bread me__list blist me__dict bdict m_MOST_PARTS r_MOST_PARTS m_MOST_LEVELS r_MOST_LEVELS 60
  have GRI : FnOk R.prog w K mg base (L2.CX R.prog w) 7 _ dRI ["self", "text"] (spRI (CD K) (CP K) (CT K) K) := ok_ri (fun_of FRI) TC C1 CR g_InvalidText GPs mPs FPs.kp bPs z_isinstance z_str
  have GDI : FnOk R.prog w K mg base (L2.CX R.prog w) 8 _ dDI ["self", "text"] (spDI (CD K) (CP K) (CT K) K) := ok_di DI TC GRI bRI z_super
  have GDR : FnOk R.prog w K mg base (L2.CX R.prog w) 125 _ dDR ["text"] (spDR (CT K) K) := ok_dr (fun_of FDR) TC TP M mkr_DatumReader g_DatumReader GDI DI.bd me_read_part Gread bread me_piece Gpiece bpiece
  have GRD : FnOk R.prog w K mg base (L2.CX R.prog w) 126 _ dRD ["text"] (spDR (CT K) K) := ok_rd (fun_of FRD) GDR mDR FDR.kp bDR
  have GRi : FnOk R.prog w K mg base CX0 127 _ dRi ["_law_tape", "_law_item"] spRi := ok_rt (fun_of FRi) GDp mDp FDp.kp bDp GWd mWd FWd.kp bWd kWd GSh mSh FSh.kp bSh GRD mRD FRD.kp bRD kRD GLa mLa FLa.kp bLa
  exact body_law ⟨z_len, z_range, z_min⟩ GB mB FB.kp bB GD mD FD.kp bD GPi GPiS mPi FPi.kp bPi GLe mLe FLe.kp bLe GDt mDt FDt.kp bDt GRi mRi FRi.kp bRi
end Toy


open PySem PySem.W PySem.Calls PyProof.Rows
set_option maxRecDepth 100000 in
set_option maxHeartbeats 0 in
theorem PySem.Challenge.cw_sieveways_k71_data_written_and_read_holds : PySem.Challenge.rw_sieveways_k71_data_written_and_read.Holds := by
  w_on; o_law
  refine HandSHeadRun.head_any (r := OpenLaw.row PySem.Challenge.rw_sieveways_k71_data_written_and_read) (q := view (OpenLaw.row PySem.Challenge.rw_sieveways_k71_data_written_and_read).prog [56]) (H := Toy.hk) (ob := Toy.ob) (M := 9000) (loose := Toy.looseN) (d := HandSHeadRun.topDef (OpenLaw.row PySem.Challenge.rw_sieveways_k71_data_written_and_read).prog 56) (kwd := []) Toy.ob_eq
    (by kernel_rfl) (fun s => by kernel_rfl) Toy.run (by kernel_rfl) (by kernel_rfl) (by kernel_rfl) (by rfl) (by first | assumption | decide +kernel) (by decide +kernel) ⟨rfl, rfl, rfl, rfl, rfl, by decide +kernel⟩ ?hw ?hc
  case hw => w_witness2
  case hc =>
    refine L2.walkG (l := PySem.Challenge.rw_sieveways_k71_data_written_and_read) (n := 63) (k := 127) (x := "_law_script") rfl (by decide) (by kernel_rfl) ⟨rfl, by decide, by decide⟩ ?F
    intro w mg fa h Y G hmg0
    obtain ⟨K, KX, c, c2⟩ := Y
    have hmg : mg ("law" : PySem.Str) = some (.ref fa) := by
      have e : (HandSHeadRun.topDef (OpenLaw.row PySem.Challenge.rw_sieveways_k71_data_written_and_read).prog 56).name = ("law" : PySem.Str) := by kernel_rfl
      rw [← e]
      exact hmg0
    obtain ⟨fd, FD, hb, hF⟩ := Toy.facts (w := w) KX G hmg c c2
    exact ⟨K, fd, _, _, _, _, _, Toy.NLw, Toy.spLaw K, KX, FD, Toy.scLw, hb, fun H a ns hl hS => ⟨a, ns, rfl, hS, hl, fun _ => rfl⟩, hF⟩

