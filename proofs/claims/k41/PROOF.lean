import PyProof.Rows.All
import Wide.All
import OpenK.AllK
import Wide.FinOn
import HandS.ForMost
import HandS.Flow
import HandS.Wide
import HandS.Small
import HandS.ExcValue
import HandS.Defaults
import HandS.IsInst
import HandS.More
import HandS.Strs
import HandS.Style
import HandS.Conv
import HandS.Zip
import HandS.Deep
import HandS.TupAny
import PyProof.P3In
import PyProof.CallFns
import HandS.Text
import HandS.HeadEnd
import KE.KStateDown
import HandS.Head0
import HandS.Head1
import HandS.Head2
import HandS.HeadHook1
import HandS.HeadHook2
import HandS.HeadHook3
import HandS.HeadHook4
import PySem.Challenge.RW_sieveways_k41_patterns_that_cover
set_option Elab.async false
set_option linter.all false
set_option maxRecDepth 100000
set_option maxHeartbeats 0
namespace Toy
open PySem L2
def top (i : Nat) : Stmt := PySem.Challenge.pw_sieveways_k41_patterns_that_cover.main.body.getD i (.Pass ⟨0, 0, 0, 0⟩)
abbrev sBegin : Stmt := top 6
abbrev sDraw : Stmt := top 7
abbrev sPick : Stmt := top 8
/-! ### the tape -/
def kC : Key := Sum.inr ("cells" : Str)
def kA : Key := Sum.inr ("place" : Str)
def kL : Key := Sum.inr ("left" : Str)
def tp (l : Addr) (a f : Int) : List (Key × V) := [(kC, .ref l), (kA, .int a), (kL, .int f)]
theorem k_ca : ¬ (kC = kA) := by decide +kernel
theorem k_cl : ¬ (kC = kL) := by decide +kernel
theorem k_al : ¬ (kA = kL) := by decide +kernel
theorem k_la : ¬ (kL = kA) := by decide +kernel
theorem tp_cells (l : Addr) (a f : Int) : valV (tp l a f) kC = some (.ref l) := by
  unfold tp
  rw [valV_pos rfl]
theorem tp_at (l : Addr) (a f : Int) : valV (tp l a f) kA = some (.int a) := by
  unfold tp
  rw [valV_neg k_ca, valV_pos rfl]
theorem tp_left (l : Addr) (a f : Int) : valV (tp l a f) kL = some (.int f) := by
  unfold tp
  rw [valV_neg k_cl, valV_neg k_al, valV_pos rfl]
theorem put_at (l : Addr) (a f b : Int) : putK (tp l a f) kA (.int b) = tp l b f := by
  unfold tp putK
  rw [if_pos (by simp)]
  simp only [List.map_cons, List.map_nil]
  rw [if_neg k_ca, if_pos trivial, if_neg k_la]
theorem put_left (l : Addr) (a f b : Int) : putK (tp l a f) kL (.int b) = tp l a b := by
  unfold tp putK
  rw [if_pos (by simp)]
  simp only [List.map_cons, List.map_nil]
  rw [if_neg k_cl, if_neg k_al, if_pos trivial]
section
variable {H : Hp} {d l : Addr} {a f : Int} (h : H d = some (.dK (tp l a f)))
include h
theorem get_cells : DGet H d (.str ("cells" : Str)) (some (.ref l)) := by
  have z := DGet.k (k := kC) h
  rw [tp_cells] at z
  exact z
theorem get_at : DGet H d (.str ("place" : Str)) (some (.int a)) := by
  have z := DGet.k (k := kA) h
  rw [tp_at] at z
  exact z
theorem get_left : DGet H d (.str ("left" : Str)) (some (.int f)) := by
  have z := DGet.k (k := kL) h
  rw [tp_left] at z
  exact z
theorem set_at (b : Int) : DPut H d (.str ("place" : Str)) (.int b) (upd H d (.dK (tp l b f))) := by
  have z := DPut.k (k := kA) (v := .int b) h (by show 3 < sizeLine; decide)
  rw [put_at] at z
  exact z
theorem set_left (b : Int) : DPut H d (.str ("left" : Str)) (.int b) (upd H d (.dK (tp l a b))) := by
  have z := DPut.k (k := kL) (v := .int b) h (by show 3 < sizeLine; decide)
  rw [put_left] at z
  exact z
end
/-- at d a tape, of which at most n draws were made -/
def Tape (H : Hp) (d l : Addr) (n : Nat) : Prop := ∃ (ns : List Int) (a f : Int), H d = some (.dK (tp l a f)) ∧ H l = some (.lst (ns.map V.int)) ∧ ns ≠ [] ∧ ns.length ≤ 1000 ∧ 0 ≤ a ∧ a ≤ n
/-- all that stood stands, but at d -/
def But (d : Addr) (H H' : Hp) : Prop := ∀ b o, b ≠ d → H b = some o → H' b = some o
theorem But.refl {d : Addr} {H : Hp} : But d H H := fun _ _ _ e => e
theorem But.trans {d : Addr} {H H1 H2 : Hp} (a : But d H H1) (b : But d H1 H2) : But d H H2 := fun x o n e => b x o n (a x o n e)
theorem But.upd {d : Addr} {H H1 : Hp} {u : HO} (a : But d H H1) : But d H (upd H1 d u) := fun x o n e => by
  rw [upd_ne n]
  exact a x o n e
theorem But.new {d p : Addr} {H H1 : Hp} {u : HO} (a : But d H H1) (hp : H1 p = none) : But d H (L2.upd H1 p u) := fun x o n e => by
  rw [upd_ne (ne_of_none (a x o n e) hp)]
  exact a x o n e
def spDraw : Sp := fun vs H Q _ => ∃ (d l : Addr) (n : Nat) (m : Int), vs = [.ref d, .int m] ∧ Tape H d l n ∧ n ≤ 1000000 ∧ 0 < m ∧ m < 1000000 ∧
  ∀ H' r, But d H H' → Tape H' d l (n + 1) → 0 ≤ r → r < m → Q (.int r) H'
section
variable {P : Program} {w : World} {K : PySem.W.Frag} {mg : Str → Option Value} {base : Heap}
theorem scD : FnScope ["_law_tape", "_law_many", "_law_place", "_law_cells", "_law_cell", "_law_digit"] ["_law_tape", "_law_many"] (defScope sDraw) := ⟨rfl, rfl, rfl, by decide +kernel, rfl, by decide +kernel, by decide +kernel⟩
theorem ok_draw {f : Addr} {fd : FuncData} (F : Fun K "_law_draw" "_law_draw" sDraw f fd) (mLen : mg "len" = none) (mInt : mg "int" = none) : FnOk P w K mg base CX0 1 f fd ["_law_tape", "_law_many"] spDraw := by
  refine F.ok scD (fun vs H Q E h => ?_) (fun cdv A outer s H vs Q E hr h => ?_)
  · obtain ⟨d, l, n, m, rfl, _⟩ := h
    rfl
  · obtain ⟨d, l, n, m, rfl, ⟨ns, a, f, hd, hl, hne, hlen, a0, an⟩, hn, m0, m1, q⟩ := h
    have hu := hu_of hr
    refine ⟨_, pss_cons (ps_if (pt_cmpR op_lt (pe_dget hu (pv 0) pe_str (fun _ _ => rfl)) (pv 1) (nomark _))
      (pss_cons (ps_par (i := 2) (j := 3) rfl scD.nd rfl rfl (by decide) rfl rfl (pa_cons (pe_dget hu (pv 0) pe_str (fun _ _ => rfl)) (pa_cons (pe_dget hu (pv 0) pe_str (fun _ _ => rfl)) pa_nil)) (by rfl))
      (pss_cons (ps_asg (pe_tup (pa_cons (pe_ix ix_list (pv 3) (pe_op op_mod (pe_callTy call_int1 (by rfl) mInt (by decide +kernel) (pa_cons (pv 2) pa_nil)) (pe_callB call_len_seq (by rfl) mLen PySem.boot_len (pa_cons (pv 3) pa_nil))) (fun _ _ => rfl)) (pa_cons (pe_op op_add (pv 2) pe_int) pa_nil)))
          (pg_tup rfl (pgs_cons (pg_name (i := 4) scD.nd rfl (.inl rfl)) (pgs_cons (pg_sub (pv 0) pe_str (set_dict hu)) pgs_nil))))
      (pss_cons (ps_dput hu (pv 0) pe_str (pe_op op_mod (pe_callTy call_int1 (by rfl) mInt (by decide +kernel) (pa_cons (pe_op op_pow (pe_op op_add (pe_op op_add (pe_op op_mod (pe_callTy call_int1 (by rfl) mInt (by decide +kernel) (pa_cons (pv 4) pa_nil)) pe_int) (pe_op op_mul pe_int (pv 2))) pe_int) pe_int) pa_nil)) (pe_op op_add (pe_op op_pow pe_int pe_int) pe_int)) rfl)
      (pss_one (ps_if (PW.pt (pw_and (pt_cmpR op_ge (pv 4) (pe_op op_pow pe_int pe_int) (nomark _)) (pw_and1 (pt_cmpR op_lt (pv 2) (pe_callB call_len_seq (by rfl) mLen PySem.boot_len (pa_cons (pv 3) pa_nil)) (nomark _)))))
        (pss_one (ps_dput hu (pv 0) pe_str (pe_op op_sub (pv 4) (pe_op op_pow pe_int pe_int)) rfl)) pss_nil)))))
      pss_nil)
      (pss_cons (ps_asg (pe_tup (pa_cons (pe_op op_mod (pe_callTy call_int1 (by rfl) mInt (by decide +kernel) (pa_cons (pe_dget hu (pv 0) pe_str (fun _ _ => rfl)) pa_nil)) (pv 1)) (pa_cons (pe_op op_fdivW (pe_dget hu (pv 0) pe_str (fun _ _ => rfl)) (pv 1)) pa_nil)))
          (pg_tup rfl (pgs_cons (pg_name (i := 5) scD.nd rfl (.inl rfl)) (pgs_cons (pg_sub (pv 0) pe_str (set_dict hu)) pgs_nil))))
      (pss_one (ps_ret (pv 5)))), ?_⟩
    refine ⟨_, rfl, d, _, rfl, get_left hd, _, rfl, _, _, rfl, rfl, _, rfl, ?_⟩
    refine ite2 (fun c => ?_) (fun c => ?_)
    · have e0 : ((ns.map V.int).length : Int) = (ns.length : Int) := by rw [List.length_map]
      have lp : 0 < ns.length := List.length_pos_iff.mpr hne
      obtain ⟨j, hj, ej⟩ : ∃ j : Nat, j < ns.length ∧ a % ((ns.map V.int).length : Int) = (j : Int) := by
        rw [e0]
        have h1 : 0 ≤ a % (ns.length : Int) := Int.emod_nonneg a (by omega)
        have h2 : a % (ns.length : Int) < (ns.length : Int) := Int.emod_lt_of_pos a (by omega)
        exact ⟨(a % (ns.length : Int)).toNat, by omega, by omega⟩
      have hat : atI (ns.map V.int) (j : Int) = some (.int ns[j]) := atI_nat (by rw [List.getElem?_map, List.getElem?_eq_getElem hj]; rfl)
      refine ⟨_, rfl, d, _, rfl, get_at hd, _, rfl, d, _, rfl, get_cells hd, _, _, rfl, ?_⟩
      refine ⟨_, rfl, _, rfl, .inl ⟨_, rfl, _, rfl, l, _, rfl, .inl (SqL.of hl), _, _, rfl, rfl, (by show 0 < ((ns.map V.int).length : Int); omega), ?_⟩⟩
      refine ⟨l, _, _, .int ns[j], rfl, rfl, SqL.of hl, (by rw [ej]; exact hat), _, rfl, _, _, rfl, rfl, (by show 2 ≤ sizeLine; decide), fun t nt => ?_⟩
      have ndt : d ≠ t := ne_of_none hd nt
      have nlt : l ≠ t := ne_of_none hl nt
      have nld : l ≠ d := ne_of hl hd (by intro z; cases z)
      refine ⟨t, _, rfl, SqT.of upd_same, rfl, _, _, rfl, _, _, rfl, _, rfl, d, _, rfl, set_at (by rw [upd_ne ndt]; exact hd) _, rfl, ?_⟩
      generalize hcell : ns[j] = cell
      have h63 : 0 ≤ cell % 2147483587 := Int.emod_nonneg _ (by decide)
      have h64 : cell % 2147483587 < 2147483587 := Int.emod_lt_of_pos _ (by decide)
      refine ⟨_, rfl, .inl ⟨_, rfl, _, _, rfl, rfl, (by show (0 : Int) < 2147483587; decide), _, rfl, _, _, rfl, rfl, (.inl ⟨by decide, by decide⟩), _, _, rfl, rfl, _, _, rfl, rfl, _, _, rfl, rfl, ⟨by decide, by decide, by omega⟩, .inl ⟨_, rfl, _, _, rfl, rfl, ⟨by decide, by decide, by decide⟩, _, _, rfl, rfl, _, _, rfl, rfl, (by show (0 : Int) < 10 ^ 50 + 151; decide), ?_⟩⟩⟩
      refine ⟨_, rfl, d, _, rfl, set_left upd_same _, ?_⟩
      refine ⟨_, rfl, _, _, rfl, rfl, ⟨by decide, by decide, by decide⟩, _, _, rfl, rfl, _, rfl, ?_⟩
      refine ite2 (fun c1 => ?_) (fun c1 => ?_)
      · refine ⟨_, rfl, _, rfl, l, _, rfl, .inl (SqL.of (by rw [upd_ne nld, upd_ne nld, upd_ne nlt]; exact hl)), _, _, rfl, rfl, _, rfl, ?_⟩
        refine ite2 (fun c2 => ?_) (fun c2 => ?_)
        · refine ⟨_, rfl, _, _, rfl, rfl, ⟨by decide, by decide, by decide⟩, _, _, rfl, rfl, _, rfl, d, _, rfl, set_left upd_same _, ?_⟩
          refine ⟨_, rfl, d, _, rfl, get_left upd_same, .inl ⟨_, rfl, _, rfl, _, _, rfl, rfl, m0, _, rfl, d, _, rfl, get_left upd_same, _, rfl, _, _, rfl, rfl, wide_div (b := 64) m0 (by omega) (by decide) (by decide), (by show 2 ≤ sizeLine; decide), fun t2 nt2 => ?_⟩⟩
          have ndt2 : d ≠ t2 := ne_of_none upd_same nt2
          refine ⟨t2, _, rfl, SqT.of upd_same, rfl, _, _, rfl, _, _, rfl, _, rfl, d, _, rfl, set_left (by rw [upd_ne ndt2]; exact upd_same) _, rfl, _, rfl, q _ _ ((((But.refl : But d H H).new nt).upd.upd.upd).new nt2).upd ?_ (Int.emod_nonneg _ (by omega)) (Int.emod_lt_of_pos _ m0)⟩
          have nlt2 : l ≠ t2 := ne_of_none (by rw [upd_ne nld, upd_ne nld, upd_ne nld, upd_ne nlt]; exact hl) nt2
          exact ⟨ns, a + 1, _, upd_same, by rw [upd_ne nld, upd_ne nlt2, upd_ne nld, upd_ne nld, upd_ne nld, upd_ne nlt]; exact hl, hne, hlen, by omega, by push_cast; omega⟩
        · refine ⟨_, rfl, d, _, rfl, get_left upd_same, .inl ⟨_, rfl, _, rfl, _, _, rfl, rfl, m0, _, rfl, d, _, rfl, get_left upd_same, _, rfl, _, _, rfl, rfl, wide_div (b := 64) m0 (by omega) (by decide) (by decide), (by show 2 ≤ sizeLine; decide), fun t2 nt2 => ?_⟩⟩
          have ndt2 : d ≠ t2 := ne_of_none upd_same nt2
          refine ⟨t2, _, rfl, SqT.of upd_same, rfl, _, _, rfl, _, _, rfl, _, rfl, d, _, rfl, set_left (by rw [upd_ne ndt2]; exact upd_same) _, rfl, _, rfl, q _ _ ((((But.refl : But d H H).new nt).upd.upd).new nt2).upd ?_ (Int.emod_nonneg _ (by omega)) (Int.emod_lt_of_pos _ m0)⟩
          have nlt2 : l ≠ t2 := ne_of_none (by rw [upd_ne nld, upd_ne nld, upd_ne nlt]; exact hl) nt2
          exact ⟨ns, a + 1, _, upd_same, by rw [upd_ne nld, upd_ne nlt2, upd_ne nld, upd_ne nld, upd_ne nlt]; exact hl, hne, hlen, by omega, by push_cast; omega⟩
      · refine iteF ?_
        refine ⟨_, rfl, d, _, rfl, get_left upd_same, .inl ⟨_, rfl, _, rfl, _, _, rfl, rfl, m0, _, rfl, d, _, rfl, get_left upd_same, _, rfl, _, _, rfl, rfl, wide_div (b := 64) m0 (by omega) (by decide) (by decide), (by show 2 ≤ sizeLine; decide), fun t2 nt2 => ?_⟩⟩
        have ndt2 : d ≠ t2 := ne_of_none upd_same nt2
        refine ⟨t2, _, rfl, SqT.of upd_same, rfl, _, _, rfl, _, _, rfl, _, rfl, d, _, rfl, set_left (by rw [upd_ne ndt2]; exact upd_same) _, rfl, _, rfl, q _ _ ((((But.refl : But d H H).new nt).upd.upd).new nt2).upd ?_ (Int.emod_nonneg _ (by omega)) (Int.emod_lt_of_pos _ m0)⟩
        have nlt2 : l ≠ t2 := ne_of_none (by rw [upd_ne nld, upd_ne nld, upd_ne nlt]; exact hl) nt2
        exact ⟨ns, a + 1, _, upd_same, by rw [upd_ne nld, upd_ne nlt2, upd_ne nld, upd_ne nld, upd_ne nlt]; exact hl, hne, hlen, by omega, by push_cast; omega⟩
    · refine ⟨_, rfl, d, _, rfl, get_left hd, .inl ⟨_, rfl, _, rfl, _, _, rfl, rfl, m0, _, rfl, d, _, rfl, get_left hd, _, rfl, _, _, rfl, rfl, wide_div (b := 64) m0 (by omega) (by decide) (by decide), (by show 2 ≤ sizeLine; decide), fun t nt => ?_⟩⟩
      have ndt : d ≠ t := ne_of_none hd nt
      refine ⟨t, _, rfl, SqT.of upd_same, rfl, _, _, rfl, _, _, rfl, _, rfl, d, _, rfl, set_left (by rw [upd_ne ndt]; exact hd) _, rfl, _, rfl, q _ _ (((But.refl : But d H H)).new nt).upd ?_ (Int.emod_nonneg _ (by omega)) (Int.emod_lt_of_pos _ m0)⟩
      exact ⟨ns, a, _, upd_same, by rw [upd_ne (ne_of hl hd (by intro z; cases z)), upd_ne (ne_of_none hl nt)]; exact hl, hne, hlen, by omega, by push_cast; omega⟩
end
end Toy


namespace L2
open PySem PySem.Spec PyProof.Rows
section
variable {X : Cx}
/-- repr of a truth -/
def rReB : List V → Hp → VK → Prop := fun xs H Q => ∃ b, xs = [.bl b] ∧ Q (.str (if b then "True" else "False")) H
theorem call_reB : CallR X (.builtin "repr") rReB := by
  intro pins s σ H xs us Q I r h
  obtain ⟨b, rfl, q⟩ := h
  obtain ⟨u, rfl, ru⟩ := vals1 r
  cases ru
  exact PySem.P.repr_of_bool ⟨.str _, H, I.tok _, ⟨_, rfl⟩, q⟩
/-- x not in t, t a tuple of data of any depth -/
def rNotInU (K : PySem.W.Frag) : R2 := fun x y H Q => ∃ d ds, Dp K H x d ∧ Dp K H y (.tuple ds) ∧ SeqAt.shaped d = true ∧ SeqAt.shaped (.tuple ds) = true ∧ Q (.bl (!ds.any fun z => PyData.eqv z d)) H
theorem op_notInU (hu : X.A.units + 65 < cLine) : OpR X (compareOp .NotIn) (rNotInU X.K) := by
  intro pins s σ H x y v u Q I rx ry h
  obtain ⟨d, ds, hd, he, sd, se, q⟩ := h
  obtain ⟨as, r1⟩ := Dp.reads I d x v hd rx
  obtain ⟨bs, r2⟩ := Dp.reads I (.tuple ds) y u he ry
  have e1 : PyData.canLayAll0 ds = true := SeqAt.canLay_of_shaped se
  refine SeqAt.notIn_tuple_reads r2 r1 e1 (SeqAt.canLay_of_shaped sd) (room_in_shaped sd hu) ⟨.bl _, H, I, rfl, q⟩
end
end L2
namespace Toy
open PySem L2
theorem same_new {H H1 : Hp} {p : Addr} {u : HO} (a : Same H H1) (hp : H1 p = none) : Same H (upd H1 p u) := fun x o e => by
  rw [upd_ne (ne_of_none (a x o e) hp)]
  exact a x o e
theorem few {n : Nat} (h : n ≤ 1000) : n ≤ sizeLine := Nat.le_of_lt (small1000 h)
theorem Same.but {H H' : Hp} (s : Same H H') (z : Addr) : But z H H' := fun b o _ e => s b o e
theorem Tape.same {H H' : Hp} {d l : Addr} {n : Nat} (t : Tape H d l n) (s : Same H H') : Tape H' d l n := by
  obtain ⟨ns, a, f, h1, h2, h3⟩ := t
  exact ⟨ns, a, f, s _ _ h1, s _ _ h2, h3⟩
theorem Tape.more {H : Hp} {d l : Addr} {n m : Nat} (t : Tape H d l n) (h : n ≤ m) : Tape H d l m := by
  obtain ⟨ns, a, f, h1, h2, h3, h4, h5, h6⟩ := t
  exact ⟨ns, a, f, h1, h2, h3, h4, h5, by omega⟩
theorem Tape.dOf {H : Hp} {d l : Addr} {n : Nat} (t : Tape H d l n) : ∃ kvs, H d = some (.dK kvs) := by
  obtain ⟨ns, a, f, h1, _⟩ := t
  exact ⟨_, h1⟩
theorem Tape.lOf {H : Hp} {d l : Addr} {n : Nat} (t : Tape H d l n) : ∃ xs, H l = some (.lst xs) := by
  obtain ⟨ns, a, f, _, h1, _⟩ := t
  exact ⟨_, h1⟩
theorem Tape.upd {H : Hp} {d l b : Addr} {n : Nat} {u : HO} (t : Tape H d l n) (h1 : d ≠ b) (h2 : l ≠ b) : Tape (L2.upd H b u) d l n := by
  obtain ⟨ns, a, f, e1, e2, h⟩ := t
  exact ⟨ns, a, f, (upd_ne h1).trans e1, (upd_ne h2).trans e2, h⟩
/-- a list or a tuple is not the tape -/
theorem Tape.neL {H : Hp} {d l p : Addr} {n : Nat} {xs : List V} (t : Tape H d l n) (h : H p = some (.lst xs)) : p ≠ d := by
  obtain ⟨kvs, hd⟩ := t.dOf
  exact ne_of h hd (by intro z; cases z)
theorem Tape.neT {H : Hp} {d l p : Addr} {n : Nat} {xs : List V} (t : Tape H d l n) (h : H p = some (.tup xs)) : p ≠ d := by
  obtain ⟨kvs, hd⟩ := t.dOf
  exact ne_of h hd (by intro z; cases z)
theorem Tape.free {H : Hp} {d l p : Addr} {n : Nat} (t : Tape H d l n) (h : H p = none) : d ≠ p ∧ l ≠ p := by
  obtain ⟨_, h1⟩ := t.dOf
  obtain ⟨_, h2⟩ := t.lOf
  exact ⟨ne_of_none h1 h, ne_of_none h2 h⟩
/-- all tuples stand -/
def TK (H H' : Hp) : Prop := ∀ b xs, H b = some (.tup xs) → H' b = some (.tup xs)
theorem TK.refl {H : Hp} : TK H H := fun _ _ h => h
theorem TK.trans {H H1 H2 : Hp} (a : TK H H1) (b : TK H1 H2) : TK H H2 := fun x xs h => b x xs (a x xs h)
theorem Same.tk {H H' : Hp} (s : Same H H') : TK H H' := fun b _ h => s b _ h
theorem But.tk {H H' : Hp} {d l : Addr} {n : Nat} (b : But d H H') (t : Tape H d l n) : TK H H' := fun x xs h => b x _ (t.neT h) h
section
variable {P : Program} {w : World} {K : PySem.W.Frag} {mg : Str → Option Value} {base : Heap}
/-- a pick of a list, or of a text -/
def spPick : Sp := fun vs H Q _ => ∃ (d l : Addr) (n : Nat) (x : V), vs = [.ref d, x] ∧ Tape H d l n ∧ n ≤ 1000000 ∧
  ((∃ (p : Addr) (xs : List V), x = .ref p ∧ H p = some (.lst xs) ∧ xs ≠ [] ∧ xs.length < 1000 ∧ ∀ H' v, But d H H' → Tape H' d l (n + 1) → v ∈ xs → Q v H') ∨
   (∃ z : Str, x = .str z ∧ z.length ≠ 0 ∧ z.length < 1000 ∧ ∀ H' c, But d H H' → Tape H' d l (n + 1) → c ∈ z.cps.toList → Q (.str ⟨#[c]⟩) H'))
theorem scP : FnScope ["_law_tape", "_law_items"] ["_law_tape", "_law_items"] (defScope sPick) := ⟨rfl, rfl, rfl, by decide +kernel, rfl, by decide +kernel, by decide +kernel⟩
theorem ok_pick {f fD : Addr} {fd fdD : FuncData} (F : Fun K "_law_pick" "_law_pick" sPick f fd) (GD : FnOk P w K mg base CX0 1 fD fdD ["_law_tape", "_law_many"] spDraw) (mD : mg "_law_draw" = some (.ref fD)) (kD : PySem.W.keepIn K (.ref fD) = true) (bD : Binds K fdD ["_law_tape", "_law_many"] []) (mLen : mg "len" = none) : FnOk P w K mg base CX0 2 f fd ["_law_tape", "_law_items"] spPick := by
  refine F.ok scP (fun vs H Q E h => ?_) (fun cdv A outer s H vs Q E hr h => ?_)
  · obtain ⟨d, l, n, x, rfl, _⟩ := h
    rfl
  · obtain ⟨d, l, n, x, rfl, hT, hn, h⟩ := h
    refine ⟨_, pss_one (ps_ret (pe_ix ix_seq (pv 1) (pe_call GD hr rfl mD kD bD .nil pass0 (pa_cons (pv 0) (pa_cons (pe_callB call_len (by rfl) mLen PySem.boot_len (pa_cons (pv 1) pa_nil)) pa_nil))) (fun _ _ => rfl))), ?_⟩
    rcases h with ⟨p, xs, rfl, hp, hne, hlen, q⟩ | ⟨z, rfl, hne, hlen, q⟩
    · have lp : 0 < xs.length := List.length_pos_iff.mpr hne
      refine ⟨_, rfl, _, rfl, _, rfl, _, xs.length, rfl, .inl ⟨xs, SqL.of hp, rfl⟩, d, l, n, _, rfl, hT, hn, (by omega), (by omega), fun H1 r hb hT1 r0 r1 => ?_⟩
      obtain ⟨j, ej⟩ : ∃ j : Nat, r = (j : Int) := ⟨r.toNat, by omega⟩
      have hj : j < xs.length := by omega
      refine .inl ⟨p, xs, _, xs[j], rfl, rfl, SqL.of (hb _ _ (hT.neL hp) hp), (by rw [ej]; exact atI_nat (List.getElem?_eq_getElem hj)), q _ _ hb hT1 (List.getElem_mem hj)⟩
    · have lz : z.cps.toList.length = z.length := by simp [Str.length]
      refine ⟨_, rfl, _, rfl, _, rfl, _, z.length, rfl, ⟨few (by omega), rfl⟩, d, l, n, _, rfl, hT, hn, (by omega), (by omega), fun H1 r hb hT1 r0 r1 => ?_⟩
      obtain ⟨j, ej⟩ : ∃ j : Nat, r = (j : Int) := ⟨r.toNat, by omega⟩
      have hj : j < z.cps.toList.length := by omega
      refine .inr (.inr ⟨z, _, z.cps.toList[j], rfl, rfl, few (by omega), (by rw [ej]; exact atI_nat (List.getElem?_eq_getElem hj)), q _ _ hb hT1 (List.getElem_mem hj)⟩)
theorem cut63 (ns : List Int) (h : ns.length ≤ 63) : cutV (ns.map V.int) none (some 63) = ns.map V.int := by
  unfold cutV
  rw [show HT.sIx (ns.map V.int).length (ns.map V.int).length (some 63) = min 63 (ns.map V.int).length from HT.sIx_nat _ _ 63, HT.sIx_none, List.length_map, show min 63 ns.length = ns.length by omega, List.drop_zero, Nat.sub_zero]
  exact List.take_of_length_le (by rw [List.length_map]; exact Nat.le_refl _)
theorem merge_tp (l : Addr) : mergeK [] [(kC, V.ref l), (kA, V.int 0), (kL, V.int 0)] = tp l 0 0 := by
  unfold mergeK
  simp only [List.foldl_cons, List.foldl_nil]
  unfold putK
  simp [k_ca, k_cl, k_al]
  rfl
def spBegin (K : PySem.W.Frag) : Sp := fun vs H Q _ => ∃ (a : Addr) (ns : List Int), vs = [.ref a] ∧ SqL K H a (ns.map V.int) ∧ ns.length ≤ 63 ∧ ∀ H' d l, Same H H' → H d = none → H l = none → l ≠ d → Tape H' d l 0 → Q (.ref d) H'
theorem scB : FnScope ["_law_script"] ["_law_script"] (defScope sBegin) := ⟨rfl, rfl, rfl, by decide +kernel, rfl, by decide +kernel, by decide +kernel⟩
theorem ok_begin {f : Addr} {fd : FuncData} (F : Fun K "_law_begin" "_law_begin" sBegin f fd) : FnOk P w K mg base CX0 1 f fd ["_law_script"] (spBegin K) := by
  refine F.ok scB (fun vs H Q E h => ?_) (fun cdv A outer s H vs Q E hr h => ?_)
  · obtain ⟨a, ns, rfl, _⟩ := h
    rfl
  · obtain ⟨a, ns, rfl, hS, hlen, q⟩ := h
    refine ⟨_, pss_one (ps_ret (pe_disp (pps_cons pe_str (pe_orT (pe_slice sl_list (pv 0) po_none (po_some pe_int)) (pe_one (pe_lst (pa_cons pe_int pa_nil)))) (pps_cons pe_str pe_int (pps_cons pe_str pe_int pps_nil))) (by rfl) (by rfl) (fun z => by cases z) (by decide))), ?_⟩
    intro p np
    have s1 : Same H (upd H p (.dK [])) := same_new (fun _ _ e => e) np
    refine ⟨_, rfl, 63, rfl, a, _, rfl, s1.seq hS, fun c nc => ?_⟩
    have npc : p ≠ c := ne_of_none upd_same nc
    refine ⟨_, .inl ⟨_, SqL.of upd_same, rfl⟩, ?_⟩
    have fin : ∀ (H2 : Hp) (l : Addr) (ms : List Int), H l = none → Same (upd H p (.dK [])) H2 → H2 l = some (.lst (ms.map V.int)) → ms ≠ [] → ms.length ≤ 1000 → Q (.ref p) (upd H2 p (.dK (mergeK [] [(kC, V.ref l), (kA, V.int 0), (kL, V.int 0)]))) := by
      intro H2 l ms nl s2 hl h1 h2
      have npl : l ≠ p := ne_of hl (s2 _ _ upd_same) (by intro z; cases z)
      rw [merge_tp]
      refine q _ p l (fun b o e => ?_) np nl npl ⟨ms, 0, 0, upd_same, by rw [upd_ne npl]; exact hl, h1, h2, Int.le_refl _, Int.le_refl _⟩
      rw [upd_ne (ne_of_none e np)]
      exact s2 _ _ (s1 _ _ e)
    refine ite2 (fun c1 => ?_) (fun c1 => ?_)
    · refine ⟨Eq.trans (upd_ne npc) upd_same, [(kC, V.ref c), (kA, V.int 0), (kL, V.int 0)], rfl, (by show 3 ≤ 15; decide), fin _ c ns (by rw [upd_ne npc.symm] at nc; exact nc) (same_new (fun _ _ e => e) nc) (by rw [upd_same, cut63 ns hlen]) ?_ (by omega)⟩
      intro z
      rw [z] at c1
      exact Bool.false_ne_true c1
    · refine ⟨(by show 1 ≤ sizeLine; decide), fun e ne => ?_⟩
      have npe : p ≠ e := ne_of_none (Eq.trans (upd_ne npc) upd_same) ne
      refine ⟨Eq.trans (upd_ne npe) (Eq.trans (upd_ne npc) upd_same), [(kC, V.ref e), (kA, V.int 0), (kL, V.int 0)], rfl, (by show 3 ≤ 15; decide), fin _ e [0] (by rw [upd_ne (ne_of_none upd_same ne).symm, upd_ne npe.symm] at ne; exact ne) (same_new (same_new (fun _ _ e => e) nc) ne) upd_same (by decide) (by decide)⟩

end
end Toy


namespace Toy
open PySem PySem.Spec L2 PyProof.Rows
abbrev sStepC : Stmt := top 1
abbrev sCovP : Stmt := top 2
abbrev sCov : Stmt := top 4
abbrev sKeys : Stmt := top 9
abbrev sStep : Stmt := top 10
abbrev sPat : Stmt := top 11
abbrev sLoose : Stmt := top 12
abbrev sLCov : Stmt := top 13
abbrev sFits : Stmt := top 14
abbrev sLaw : Stmt := top 15
/-! ### steps and patterns -/
inductive Stp where
  | ev
  | fld (k : Str)
  | itm (i : Int)
  deriving DecidableEq
def Stp.vs : Stp → List V
  | .ev => [.str "every"]
  | .fld k => [.str "field", .str k]
  | .itm i => [.str "item", .int i]
def Stp.ds : Stp → List PyData
  | .ev => [.str "every"]
  | .fld k => [.str "field", .str k]
  | .itm i => [.str "item", .int i]
def Stp.py (s : Stp) : PyData := .tuple s.ds
def Stp.ok : Stp → Prop
  | .fld k => PyData.strOk k = true
  | _ => True
def StepAt (H : Hp) (v : V) (s : Stp) : Prop := (∃ t, v = .ref t ∧ H t = some (.tup s.vs)) ∧ s.ok
def PatAt (H : Hp) (a : Addr) (p : List Stp) : Prop := ∃ xs, H a = some (.tup xs) ∧ Paired (StepAt H) xs p
theorem StepAt.mono {H H' : Hp} {v : V} {s : Stp} (k : TK H H') (h : StepAt H v s) : StepAt H' v s := by
  obtain ⟨⟨t, e, ht⟩, o⟩ := h
  exact ⟨⟨t, e, k _ _ ht⟩, o⟩
theorem PatAt.mono {H H' : Hp} {a : Addr} {p : List Stp} (k : TK H H') (h : PatAt H a p) : PatAt H' a p := by
  obtain ⟨xs, ha, hp⟩ := h
  exact ⟨xs, k _ _ ha, L2.Paired.mapP hp fun _ _ z => z.mono k⟩
theorem vs_dp {K : PySem.W.Frag} {H : Hp} : ∀ s : Stp, DpAll K H s.vs s.ds
  | .ev => .cons (.str _) .nil
  | .fld k => .cons (.str _) (.cons (.str _) .nil)
  | .itm i => .cons (.str _) (.cons (.int _) .nil)
theorem StepAt.dp {K : PySem.W.Frag} {H : Hp} {v : V} {s : Stp} (h : StepAt H v s) : Dp K H v s.py := by
  obtain ⟨⟨t, rfl, ht⟩, _⟩ := h
  exact .tup (SqT.of ht) (vs_dp s)
theorem pats_dp {K : PySem.W.Frag} {H : Hp} : ∀ {xs : List V} {p : List Stp}, Paired (StepAt H) xs p → DpAll K H xs (p.map Stp.py)
  | _, _, .nil => .nil
  | _, _, .cons a r => .cons a.dp (pats_dp r)
theorem PatAt.dp {K : PySem.W.Frag} {H : Hp} {a : Addr} {p : List Stp} (h : PatAt H a p) : Dp K H (.ref a) (.tuple (p.map Stp.py)) := by
  obtain ⟨xs, ha, hp⟩ := h
  exact .tup (SqT.of ha) (pats_dp hp)
theorem py_eqv (x y : Stp) : PyData.eqv x.py y.py = decide (x = y) := by
  cases x <;> cases y <;> simp [Stp.py, Stp.ds, PyData.eqv, PyData.eqvAll] <;> first | rfl | decide +kernel | (rw [Bool.eq_iff_iff]; simp) | skip
theorem pys_eqv : ∀ p q : List Stp, PyData.eqvAll (p.map Stp.py) (q.map Stp.py) = decide (p = q)
  | [], [] => by simp [PyData.eqvAll]
  | [], _ :: _ => by simp [PyData.eqvAll]
  | _ :: _, [] => by simp [PyData.eqvAll]
  | x :: p, y :: q => by
    simp only [List.map_cons, PyData.eqvAll]
    rw [py_eqv, pys_eqv p q]
    by_cases h1 : x = y <;> by_cases h2 : p = q <;> simp [h1, h2]
theorem py_lay {s : Stp} (h : s.ok) : s.py.canLay0 = true := by
  cases s with
  | ev => simp only [Stp.py, Stp.ds, PyData.canLay0, PyData.canLayAll0]; decide +kernel
  | fld k =>
    have h' : PyData.strOk k = true := h
    simp only [Stp.py, Stp.ds, PyData.canLay0, PyData.canLayAll0, h']
    decide +kernel
  | itm i => simp only [Stp.py, Stp.ds, PyData.canLay0, PyData.canLayAll0]; decide +kernel
theorem py_depth (s : Stp) : s.py.depth = 1 := by
  cases s <;> simp [Stp.py, Stp.ds, PyData.depth, PyData.depthAll]
theorem py_shaped {s : Stp} (h : s.ok) : SeqAt.shaped s.py = true := by
  unfold SeqAt.shaped
  rw [py_lay h, py_depth]
  decide
theorem pys_lay : ∀ {p : List Stp}, (∀ s ∈ p, s.ok) → PyData.canLayAll0 (p.map Stp.py) = true
  | [], _ => by simp [PyData.canLayAll0]
  | s :: p, h => by
    simp only [List.map_cons, PyData.canLayAll0]
    rw [py_lay (h s List.mem_cons_self), pys_lay fun x hx => h x (List.mem_cons_of_mem _ hx)]
    rfl
theorem pys_depth : ∀ p : List Stp, PyData.depthAll (p.map Stp.py) ≤ 1
  | [] => by simp [PyData.depthAll]
  | s :: p => by
    have := pys_depth p
    have := py_depth s
    simp only [List.map_cons, PyData.depthAll]
    omega
theorem pys_shaped {p : List Stp} (h : ∀ s ∈ p, s.ok) : SeqAt.shaped (.tuple (p.map Stp.py)) = true := by
  unfold SeqAt.shaped
  have z := pys_depth p
  rw [show (PyData.tuple (p.map Stp.py)).canLay0 = true by simp only [PyData.canLay0]; exact pys_lay h, Bool.true_and]
  exact decide_eq_true (by simp only [PyData.depth]; omega)
theorem pair_ok {H : Hp} : ∀ {xs : List V} {p : List Stp}, Paired (StepAt H) xs p → ∀ s ∈ p, s.ok
  | _, _, .nil, _, h => nomatch h
  | _, _, .cons a r, s, h => by
    rcases List.mem_cons.mp h with e | e
    · exact e ▸ a.2
    · exact pair_ok r s e
theorem PatAt.ok {H : Hp} {a : Addr} {p : List Stp} (h : PatAt H a p) : ∀ s ∈ p, s.ok := by
  obtain ⟨xs, _, hp⟩ := h
  exact pair_ok hp
theorem paired_get {α β : Type} {R : α → β → Prop} : ∀ {us : List α} {ds : List β}, Paired R us ds → ∀ (i : Nat) (u : α), us[i]? = some u → ∃ d, ds[i]? = some d ∧ R u d
  | _, _, .nil, i, u, h => by simp at h
  | _, _, .cons r t, 0, u, h => ⟨_, rfl, by rw [← Option.some.inj h]; exact r⟩
  | _, _, .cons r t, i + 1, u, h => paired_get t i u h
theorem ints_lay : ∀ ns : List Int, PyData.canLayAll0 (ns.map PyData.int) = true
  | [] => by simp [PyData.canLayAll0]
  | n :: ns => by
    simp only [List.map_cons, PyData.canLayAll0, PyData.canLay0]
    rw [ints_lay ns]
    rfl
theorem ints_depth : ∀ ns : List Int, PyData.depthAll (ns.map PyData.int) ≤ 1
  | [] => by simp [PyData.depthAll]
  | n :: ns => by
    have := ints_depth ns
    simp only [List.map_cons, PyData.depthAll, PyData.depth]
    omega
theorem ints_shaped (ns : List Int) : SeqAt.shaped (.list (ns.map PyData.int)) = true := by
  unfold SeqAt.shaped
  have z := ints_depth ns
  rw [show (PyData.list (ns.map PyData.int)).canLay0 = true by simp only [PyData.canLay0]; exact ints_lay ns, Bool.true_and]
  exact decide_eq_true (by simp only [PyData.depth]; omega)
theorem ints_dp {K : PySem.W.Frag} {H : Hp} : ∀ ns : List Int, DpAll K H (ns.map V.int) (ns.map PyData.int)
  | [] => .nil
  | n :: ns => .cons (.int n) (ints_dp ns)
theorem ints_none (ns : List Int) : PyData.eqv (.list (ns.map PyData.int)) (.list []) = ns.isEmpty := by
  cases ns <;> simp [PyData.eqv, PyData.eqvAll]
/-! ### the mathematics -/
def covS (x y : Stp) : Bool := decide (x = .ev) || decide (x = y)
def covAll (p q : List Stp) : Bool := (List.zipWith covS p q).all id
def cov (p q : List Stp) : Bool := decide (p.length ≤ q.length) && covAll p q
def stepOf : V → Stp
  | .str k => .fld k
  | .int i => .itm i
  | _ => .ev
def fitS (x : V) (s : Stp) : Bool := decide (s = .ev) || decide (s = stepOf x)
def fitAll (xs : List V) (p : List Stp) : Bool := (List.zipWith fitS xs p).all id
def fit (xs : List V) (p : List Stp) : Bool := decide (xs.length = p.length) && fitAll xs p
theorem covAll_iff : ∀ {p q : List Stp}, covAll p q = true ↔ ∀ (i : Nat) (s t : Stp), p[i]? = some s → q[i]? = some t → covS s t = true
  | [], q => by simp [covAll]
  | s :: p, [] => by simp [covAll]
  | s :: p, t :: q => by
    have ih := @covAll_iff p q
    have e : covAll (s :: p) (t :: q) = (covS s t && covAll p q) := by simp [covAll]
    rw [e, Bool.and_eq_true, ih]
    constructor
    · rintro ⟨h1, h2⟩ i a b ha hb
      cases i with
      | zero => simp at ha hb; rw [← ha, ← hb]; exact h1
      | succ i => exact h2 i a b (by simpa using ha) (by simpa using hb)
    · intro h
      exact ⟨h 0 s t rfl rfl, fun i a b ha hb => h (i + 1) a b (by simpa using ha) (by simpa using hb)⟩
theorem fitAll_iff : ∀ {xs : List V} {p : List Stp}, fitAll xs p = true ↔ ∀ (i : Nat) (x : V) (s : Stp), xs[i]? = some x → p[i]? = some s → fitS x s = true
  | [], q => by simp [fitAll]
  | x :: xs, [] => by simp [fitAll]
  | x :: xs, t :: q => by
    have ih := @fitAll_iff xs q
    have e : fitAll (x :: xs) (t :: q) = (fitS x t && fitAll xs q) := by simp [fitAll]
    rw [e, Bool.and_eq_true, ih]
    constructor
    · rintro ⟨h1, h2⟩ i a b ha hb
      cases i with
      | zero => simp at ha hb; rw [← ha, ← hb]; exact h1
      | succ i => exact h2 i a b (by simpa using ha) (by simpa using hb)
    · intro h
      exact ⟨h 0 x t rfl rfl, fun i a b ha hb => h (i + 1) a b (by simpa using ha) (by simpa using hb)⟩
theorem covS_iff {x y : Stp} : covS x y = true ↔ x = .ev ∨ x = y := by simp [covS]
theorem fitS_iff {x : V} {s : Stp} : fitS x s = true ↔ s = .ev ∨ s = stepOf x := by simp [fitS]
theorem cov_iff {p q : List Stp} : cov p q = true ↔ p.length ≤ q.length ∧ ∀ (i : Nat) (s t : Stp), p[i]? = some s → q[i]? = some t → s = .ev ∨ s = t := by
  unfold cov
  rw [Bool.and_eq_true, covAll_iff, decide_eq_true_iff]
  simp only [covS_iff]
theorem fit_iff {xs : List V} {p : List Stp} : fit xs p = true ↔ xs.length = p.length ∧ ∀ (i : Nat) (x : V) (s : Stp), xs[i]? = some x → p[i]? = some s → s = .ev ∨ s = stepOf x := by
  unfold fit
  rw [Bool.and_eq_true, fitAll_iff, decide_eq_true_iff]
  simp only [fitS_iff]
theorem cov_refl (p : List Stp) : cov p p = true := cov_iff.mpr ⟨Nat.le_refl _, fun i s t h1 h2 => .inr (by rw [h1] at h2; exact Option.some.inj h2)⟩
theorem cov_nil (q : List Stp) : cov [] q = true := cov_iff.mpr ⟨Nat.zero_le _, fun i s t h1 h2 => by simp at h1⟩
theorem get_lt {α : Type} {l : List α} {i : Nat} {x : α} (h : l[i]? = some x) : i < l.length := (List.getElem?_eq_some_iff.mp h).1
theorem cov_trans {p q r : List Stp} (h1 : cov p q = true) (h2 : cov q r = true) : cov p r = true := by
  obtain ⟨a1, a2⟩ := cov_iff.mp h1
  obtain ⟨b1, b2⟩ := cov_iff.mp h2
  refine cov_iff.mpr ⟨Nat.le_trans a1 b1, fun i s t hs ht => ?_⟩
  have hi : i < q.length := Nat.lt_of_lt_of_le (get_lt hs) a1
  have hq : q[i]? = some q[i] := List.getElem?_eq_getElem hi
  rcases a2 i s _ hs hq with e | e
  · exact .inl e
  · rcases b2 i _ t hq ht with f | f
    · exact .inl (e.trans f)
    · exact .inr (e.trans f)
theorem cov_anti {p q : List Stp} (h1 : cov p q = true) (h2 : cov q p = true) : p = q := by
  obtain ⟨a1, a2⟩ := cov_iff.mp h1
  obtain ⟨b1, b2⟩ := cov_iff.mp h2
  refine List.ext_getElem (Nat.le_antisymm a1 b1) fun i hp hq => ?_
  have e1 := List.getElem?_eq_getElem hp
  have e2 := List.getElem?_eq_getElem hq
  rcases a2 i _ _ e1 e2 with e | e
  · rcases b2 i _ _ e2 e1 with f | f
    · rw [e, f]
    · exact f.symm
  · exact e
theorem fit_cut {xs : List V} {q w : List Stp} (h1 : fit xs q = true) (h2 : cov w q = true) : fit (xs.take w.length) w = true := by
  obtain ⟨a1, a2⟩ := fit_iff.mp h1
  obtain ⟨b1, b2⟩ := cov_iff.mp h2
  refine fit_iff.mpr ⟨by rw [List.length_take]; omega, fun i x s hx hs => ?_⟩
  have hi : i < w.length := get_lt hs
  rw [List.getElem?_take, if_pos hi] at hx
  have hq : q[i]? = some q[i] := List.getElem?_eq_getElem (by omega)
  rcases b2 i s _ hs hq with e | e
  · exact .inl e
  · rcases a2 i x _ hx hq with f | f
    · exact .inl (e.trans f)
    · exact .inr (e.trans f)
/-- the indexes at which a pattern does not cover -/
def badC (p q : List Stp) (k : Nat) : Bool := match p[k]?, q[k]? with
  | some s, some t => !covS s t
  | _, _ => false
def badF (xs : List V) (p : List Stp) (k : Nat) : Bool := match xs[k]?, p[k]? with
  | some x, some s => !fitS x s
  | _, _ => false
theorem badC_none {p q : List Stp} : ((List.range p.length).filter (badC p q)).isEmpty = covAll p q := by
  rw [Bool.eq_iff_iff, List.isEmpty_iff, List.filter_eq_nil_iff, covAll_iff]
  constructor
  · intro h i s t hs ht
    have z := h i (List.mem_range.mpr (get_lt hs))
    unfold badC at z
    rw [hs, ht] at z
    simpa using z
  · intro h k hk
    unfold badC
    cases e1 : p[k]? with
    | none => simp
    | some s =>
      cases e2 : q[k]? with
      | none => simp
      | some t => simp [h k s t e1 e2]
theorem badF_none {xs : List V} {p : List Stp} {n : Nat} (hn : n = min xs.length p.length) : ((List.range n).filter (badF xs p)).isEmpty = fitAll xs p := by
  rw [Bool.eq_iff_iff, List.isEmpty_iff, List.filter_eq_nil_iff, fitAll_iff]
  constructor
  · intro h i s t hs ht
    have z := h i (List.mem_range.mpr (by have := get_lt hs; have := get_lt ht; omega))
    unfold badF at z
    rw [hs, ht] at z
    simpa using z
  · intro h k hk
    unfold badF
    cases e1 : xs[k]? with
    | none => simp
    | some s =>
      cases e2 : p[k]? with
      | none => simp
      | some t => simp [h k s t e1 e2]
theorem range_filter {f : Nat → Bool} (k : Nat) : (List.range (k + 1)).filter f = (List.range k).filter f ++ (if f k = true then [k] else []) := by
  rw [List.range_succ, List.filter_append]
  congr 1
  cases h : f k <;> simp [h]
end Toy


namespace Toy
open PySem PySem.Spec L2 PyProof.Rows
def spSC : Sp := fun vs H Q _ => ∃ (v u : V) (x y : Stp), vs = [v, u] ∧ StepAt H v x ∧ StepAt H u y ∧ ∀ H', Same H H' → Q (.bl (covS x y)) H'
def spCV : Sp := fun vs H Q _ => ∃ (a b : Addr) (p q : List Stp), vs = [.ref a, .ref b] ∧ PatAt H a p ∧ PatAt H b q ∧ p.length ≤ 20 ∧ q.length ≤ 20 ∧ ∀ H', Same H H' → Q (.bl (cov p q)) H'
section
variable {P : Program} {w : World} {K : PySem.W.Frag} {mg : Str → Option Value} {base : Heap}
theorem scSC : FnScope ["one", "other"] ["one", "other"] (defScope sStepC) := ⟨rfl, rfl, rfl, by decide +kernel, rfl, by decide +kernel, by decide +kernel⟩
theorem ev_dp {H : Hp} {t : Addr} (h : H t = some (.tup [.str "every"])) : Dp K H (.ref t) Stp.ev.py := .tup (SqT.of h) (vs_dp .ev)
theorem ok_stepC {f : Addr} {fd : FuncData} (F : Fun K "step_covers" "step_covers" sStepC f fd) : FnOk P w K mg base CX0 1 f fd ["one", "other"] spSC := by
  refine F.ok scSC (fun vs H Q E h => ?_) (fun cdv A outer s H vs Q E hr h => ?_)
  · obtain ⟨v, u, x, y, rfl, _⟩ := h
    rfl
  · obtain ⟨v, u, x, y, rfl, hx, hy, q⟩ := h
    refine ⟨_, pss_one (ps_ret (pe_or (pe_cmpR (op_eqD hr.units) (pv 0) (pe_tup (pa_cons pe_str pa_nil)) (nomark _)) (pe_one (pe_cmpR (op_eqD hr.units) (pv 0) (pv 1) (nomark _))))), ?_⟩
    refine ⟨_, rfl, few (by show 1 ≤ 1000; decide), fun t nt => ?_⟩
    have s1 : Same H (upd H t (.tup [.str "every"])) := same_new (fun _ _ z => z) nt
    have ht : (upd H t (.tup [.str "every"])) t = some (.tup [.str "every"]) := upd_same
    generalize upd H t (.tup [.str "every"]) = H1 at s1 ht ⊢
    refine ⟨x.py, Stp.ev.py, (hx.mono (Same.tk s1)).dp, ev_dp ht, py_shaped hx.2, py_shaped trivial, _, rfl, ?_⟩
    rw [py_eqv]
    by_cases e : x = .ev
    · rw [decide_eq_true e]
      refine iteT ?_
      have z := q H1 s1
      unfold covS at z
      rw [decide_eq_true e, Bool.true_or] at z
      exact z
    · rw [decide_eq_false e]
      refine iteF ⟨_, rfl, _, rfl, x.py, y.py, (hx.mono (Same.tk s1)).dp, (hy.mono (Same.tk s1)).dp, py_shaped hx.2, py_shaped hy.2, ?_⟩
      rw [py_eqv]
      have z := q H1 s1
      unfold covS at z
      rw [decide_eq_false e, Bool.false_or] at z
      exact z
abbrev NC : List Str := ["one", "other", "step", "further"]
theorem scCP : FnScope NC ["one", "other"] (defScope sCovP) := ⟨rfl, rfl, rfl, by decide +kernel, rfl, by decide +kernel, by decide +kernel⟩
theorem ok_covP {f fS : Addr} {fd fdS : FuncData} (F : Fun K "covers_pattern" "covers_pattern" sCovP f fd)
    (GS : FnOk P w K mg base CX0 1 fS fdS ["one", "other"] spSC) (mS : mg "step_covers" = some (.ref fS)) (kS : PySem.W.keepIn K (.ref fS) = true) (bS : Binds K fdS ["one", "other"] [])
    (mLen : mg "len" = none) (mAll : mg "all" = none) (mZip : mg "zip" = none) : FnOk P w K mg base CX0 2 f fd ["one", "other"] spCV := by
  refine F.ok scCP (fun vs H Q E h => ?_) (fun cdv A outer s H vs Q E hr h => ?_)
  · obtain ⟨a, b, p, q, rfl, _⟩ := h
    rfl
  · obtain ⟨a, b, p, q, rfl, ⟨xs, ha, hp⟩, ⟨ys, hb, hq⟩, lp, lq, fin⟩ := h
    refine ⟨_, pss_one (ps_ret (pe_and (pe_cmpR op_le (pe_callB call_len_seq (by rfl) mLen PySem.boot_len (pa_cons (pv 0) pa_nil)) (pe_callB call_len_seq (by rfl) mLen PySem.boot_len (pa_cons (pv 1) pa_nil)) (nomark _))
      (pe_one (pe_callB (cr_all rfl) (by rfl) mAll (by decide +kernel) (pa_cons (pe_lc (own := [("step", 2), ("further", 3)]) (g := gTup K 2 (gCons (gName 2) (gCons (gName 3) gNil))) (te := tCall spSC [] E0 (tCons (tVar 2) (tCons (tVar 3) tNil))) (by rfl) scCP.nd (RZ.pi_zipA (by rfl) mZip (pa_cons (pv 0) (pa_cons (pv 1) pa_nil)))
        (blkOk_by (own := [("step", 2), ("further", 3)]) (N := NC) (sc := defScope sCovP) (by decide +kernel))
        (fun _ _ _ _ _ => by exact (pg_tup rfl (pgs_cons (by exact (pg_name (i := 2) scCP.nd rfl (Or.inl rfl))) (pgs_cons (by exact (pg_name (i := 3) scCP.nd rfl (Or.inl rfl))) pgs_nil))))
        (fun _ _ _ _ _ => pts_nil) (fun _ _ _ _ _ => pe_call GS hr (by rfl) mS kS bS .nil pass0 (pa_cons (pv 2) (pa_cons (pv 3) pa_nil)))) pa_nil))))), ?_⟩
    have l1 : xs.length = p.length := hp.length
    have l2 : ys.length = q.length := hq.length
    refine ⟨_, rfl, a, _, rfl, .inr (SqT.of ha), _, rfl, b, _, rfl, .inr (SqT.of hb), _, _, rfl, rfl, _, rfl, ?_⟩
    have e : decide (((xs.length : Nat) : Int) ≤ ((ys.length : Nat) : Int)) = decide (p.length ≤ q.length) := decide_eq_decide.mpr (by omega)
    rw [e]
    by_cases hle : p.length ≤ q.length
    case neg =>
      rw [decide_eq_false hle]
      refine iteF ?_
      have z := fin H (fun _ _ z => z)
      unfold cov at z
      rw [decide_eq_false hle, Bool.false_and] at z
      exact z
    rw [decide_eq_true hle]
    refine iteT ⟨_, rfl, _, rfl, a, b, xs, ys, rfl, .inr ⟨SqT.of ha, SqT.of hb, fun D nD => ?_⟩⟩
    refine ⟨fun k m H' => m + k = p.length ∧ Same H H' ∧ H' D = some (.lst (((List.zipWith covS p q).take k).map V.bl)), ⟨p.length, rfl, same_new (fun _ _ z => z) nD, upd_same⟩, fun k m H' hW => ?_⟩
    obtain ⟨em, sm, hD⟩ := hW
    have hA : SqT K H' a xs := SqT.of (sm _ _ ha)
    have hB : SqT K H' b ys := SqT.of (sm _ _ hb)
    by_cases hk : k < p.length
    · have m1 : xs[k]? = some xs[k] := List.getElem?_eq_getElem (by omega)
      have m2 : ys[k]? = some ys[k] := List.getElem?_eq_getElem (by omega)
      obtain ⟨s, g1, r1⟩ := paired_get hp k _ m1
      obtain ⟨t, g2, r2⟩ := paired_get hq k _ m2
      refine .inr ⟨⟨_, _, _, _, hA, hB, m1, m2⟩, fun H2 => Same H H2 ∧ H2 D = some (.lst (((List.zipWith covS p q).take (k + 1)).map V.bl)), fun H2 hN => ⟨m - 1, by omega, by omega, hN.1, hN.2⟩, fun v H2 hy => ?_⟩
      obtain ⟨T1, x1, x2, rfl, nT, rfl, f1, f2⟩ := hy
      obtain rfl : x1 = xs[k] := Option.some.inj ((f1 _ hA).symm.trans m1)
      obtain rfl : x2 = ys[k] := Option.some.inj ((f2 _ hB).symm.trans m2)
      have nDT : D ≠ T1 := ne_of_none hD nT
      have sT : Same H (upd H' T1 (.tup [xs[k], ys[k]])) := same_new sm nT
      refine ⟨T1, _, rfl, SqT.of upd_same, rfl, _, _, rfl, _, _, rfl, rfl, rfl, ?_⟩
      refine ⟨_, rfl, _, rfl, _, _, s, t, rfl, r1.mono (Same.tk sT), r2.mono (Same.tk sT), fun H5 s5 => ⟨_, s5 _ _ ((upd_ne nDT).trans hD), small1000 (by rw [List.length_map, List.length_take]; omega), fun b o z => ?_, ?_⟩⟩
      · rw [upd_ne (ne_of_none z nD)]
        exact s5 _ _ (sT _ _ z)
      · rw [upd_same, List.take_add_one, show (List.zipWith covS p q)[k]? = some (covS s t) by rw [List.getElem?_zipWith, g1, g2]]
        simp
    · have hkl : k = p.length := by omega
      subst hkl
      have lz : (List.zipWith covS p q).length = p.length := by rw [List.length_zipWith]; omega
      rw [← lz, List.take_length] at hD
      refine .inl ⟨⟨_, _, hA, hB, .inl (by omega)⟩, D, _, rfl, SqL.of hD, ?_⟩
      have z := fin H' sm
      unfold cov at z
      rw [decide_eq_true hle, Bool.true_and] at z
      exact z
theorem scCv : FnScope ["one", "other"] ["one", "other"] (defScope sCov) := ⟨rfl, rfl, rfl, by decide +kernel, rfl, by decide +kernel, by decide +kernel⟩
theorem ok_cov {f fS : Addr} {fd fdS : FuncData} (F : Fun K "covers" "covers" sCov f fd)
    (GS : FnOk P w K mg base CX0 2 fS fdS ["one", "other"] spCV) (mS : mg "covers_pattern" = some (.ref fS)) (kS : PySem.W.keepIn K (.ref fS) = true) (bS : Binds K fdS ["one", "other"] []) : FnOk P w K mg base CX0 3 f fd ["one", "other"] spCV := by
  refine F.ok scCv (fun vs H Q E h => ?_) (fun cdv A outer s H vs Q E hr h => ?_)
  · obtain ⟨a, b, p, q, rfl, _⟩ := h
    rfl
  · obtain ⟨a, b, p, q, rfl, ha, hb, lp, lq, fin⟩ := h
    refine ⟨_, pss_one (ps_ret (pe_call GS hr (by rfl) mS kS bS .nil pass0 (pa_cons (pv 0) (pa_cons (pv 1) pa_nil)))), ?_⟩
    exact ⟨_, rfl, _, rfl, a, b, p, q, rfl, ha, hb, lp, lq, fin⟩
end
end Toy


namespace Toy
open PySem PySem.Spec L2 PyProof.Rows
/-! ### texts of few letters -/
def Word (n : Nat) (x : Str) : Prop := x.length ≤ n ∧ PyData.strOk x = true
theorem app_len (a b : Str) : (a ++ b).length = a.length + b.length := by
  show (a.cps ++ b.cps).size = a.cps.size + b.cps.size
  exact Array.size_append
theorem app_ok {a b : Str} (h : PyData.strOk a = true) (k : PyData.strOk b = true) : PyData.strOk (a ++ b) = true := by
  show (a.cps ++ b.cps).all (· < 0x110000) = true
  rw [Array.all_append]
  exact Bool.and_eq_true_iff.mpr ⟨h, k⟩
theorem Word.app {n m : Nat} {a b : Str} (h : Word n a) (k : Word m b) : Word (n + m) (a ++ b) := ⟨by rw [app_len]; exact Nat.add_le_add h.1 k.1, app_ok h.2 k.2⟩
theorem word_join : ∀ {ws : List Str}, (∀ x ∈ ws, Word 1 x) → Word ws.length (Str.join ("" : Str) ws)
  | [], _ => ⟨by decide +kernel, by decide +kernel⟩
  | [x], h => h x List.mem_cons_self
  | x :: y :: r, h => by
    have ih := word_join (ws := y :: r) fun z hz => h z (List.mem_cons_of_mem _ hz)
    have e : Str.join ("" : Str) (x :: y :: r) = x ++ ("" : Str) ++ Str.join ("" : Str) (y :: r) := rfl
    rw [e]
    have z : Word 0 ("" : Str) := ⟨by decide +kernel, by decide +kernel⟩
    have := ((h x List.mem_cons_self).app z).app ih
    refine ⟨Nat.le_trans this.1 ?_, this.2⟩
    simp only [List.length_cons]
    omega
theorem word_sum : ∀ {ws : List Str}, (∀ x ∈ ws, Word 1 x) → (ws.map (·.length)).sum ≤ ws.length
  | [], _ => Nat.le_refl _
  | x :: r, h => by
    have ih := word_sum (ws := r) fun z hz => h z (List.mem_cons_of_mem _ hz)
    have := (h x List.mem_cons_self).1
    simp only [List.map_cons, List.sum_cons, List.length_cons]
    omega
def abc : Str := "abcdefghijklmnopqrstuvwxyz"
theorem word_sign {z : Str} (hz : PyData.strOk z = true) {c : Nat} (h : c ∈ z.cps.toList) : Word 1 ⟨#[c]⟩ := by
  refine ⟨Nat.le_refl 1, ?_⟩
  have z2 : z.cps.all (· < 0x110000) = true := hz
  rw [Array.all_eq_true'] at z2
  have z3 := z2 c (Array.mem_toList_iff.mp h)
  show (#[c] : Array Nat).all (· < 0x110000) = true
  rw [Array.all_eq_true']
  intro x hx
  have : x = c := by simpa using hx
  rw [this]
  exact z3
def spKeys : Sp := fun vs H Q _ => ∃ (d l : Addr) (n : Nat), vs = [.ref d] ∧ Tape H d l n ∧ n ≤ 900000 ∧
  ∀ H' R (k0 k1 : Str), But d H H' → Tape H' d l (n + 10) → H R = none → H' R = some (.lst [.str k0, .str k1]) → Word 20 k0 → Word 20 k1 → Q (.ref R) H'
section
variable {P : Program} {w : World} {K : PySem.W.Frag} {mg : Str → Option Value} {base : Heap}
abbrev NK : List Str := ["_law_tape", "_law_letters", "_law_stem", "_law_first", "_law_step_here", "_law_k"]
theorem scK : FnScope NK ["_law_tape"] (defScope sKeys) := ⟨rfl, rfl, rfl, by decide +kernel, rfl, by decide +kernel, by decide +kernel⟩
theorem letter_at {r : Int} (h0 : 0 ≤ r) (h1 : r < 26) : ∃ c, atI abc.cps.toList r = some c ∧ Word 1 ⟨#[c]⟩ := by
  obtain ⟨j, rfl⟩ : ∃ j : Nat, r = (j : Int) := ⟨r.toNat, by omega⟩
  have hl : abc.cps.toList.length = 26 := by decide +kernel
  have hj : j < abc.cps.toList.length := by omega
  exact ⟨abc.cps.toList[j], atI_nat (List.getElem?_eq_getElem hj), word_sign (z := abc) (by decide +kernel) (List.getElem_mem hj)⟩
theorem ok_keys {f fD fP : Addr} {fd fdD fdP : FuncData} (F : Fun K "_law_keys" "_law_keys" sKeys f fd)
    (GD : FnOk P w K mg base CX0 1 fD fdD ["_law_tape", "_law_many"] spDraw) (mD : mg "_law_draw" = some (.ref fD)) (kD : PySem.W.keepIn K (.ref fD) = true) (bD : Binds K fdD ["_law_tape", "_law_many"] [])
    (GP : FnOk P w K mg base CX0 2 fP fdP ["_law_tape", "_law_items"] spPick) (mP : mg "_law_pick" = some (.ref fP)) (kP : PySem.W.keepIn K (.ref fP) = true) (bP : Binds K fdP ["_law_tape", "_law_items"] [])
    (mRange : mg "range" = none) (mInt : mg "int" = none) : FnOk P w K mg base CX0 3 f fd ["_law_tape"] spKeys := by
  refine F.ok scK (fun vs H Q E h => ?_) (fun cdv A outer s H vs Q E hr h => ?_)
  · obtain ⟨d, l, n, rfl, _⟩ := h
    rfl
  · obtain ⟨d, l, n, rfl, hT, hn, q⟩ := h
    have hr1 : Room 1 _ := hr.mono (show 1 ≤ 2 by omega)
    refine ⟨_, pss_cons (ps_set (i := 1) scK.nd rfl (Or.inr rfl) pe_str)
      (pss_cons (ps_set (i := 2) scK.nd rfl (Or.inl rfl) (pe_op op_add_str (pe_call GP hr (by rfl) mP kP bP .nil pass0 (pa_cons (pv 0) (pa_cons pe_str pa_nil)))
        (pe_join pe_str (pe_lc (own := [("_law_k", 5)]) (g := gName 5) (by rfl) scK.nd (pi_range1 (by rfl) mRange (pa_cons (pe_call GD hr1 (by rfl) mD kD bD .nil pass0 (pa_cons (pv 0) (pa_cons pe_int pa_nil))) pa_nil))
            (blkOk_by (own := [("_law_k", 5)]) (N := NK) (sc := defScope sKeys) (by decide +kernel)) (fun _ _ _ _ _ => pg_name (i := 5) scK.nd rfl (Or.inl rfl)) (fun _ _ _ _ _ => pts_nil)
            (fun _ _ _ _ _ => pe_call GP hr (by rfl) mP kP bP .nil pass0 (pa_cons (pv 0) (pa_cons (pv 1) pa_nil)))))))
      (pss_cons (ps_par (i := 3) (j := 4) rfl scK.nd rfl rfl (by decide) rfl rfl (pa_cons (pe_call GD hr1 (by rfl) mD kD bD .nil pass0 (pa_cons (pv 0) (pa_cons pe_int pa_nil))) (pa_cons (pe_op op_add pe_int (pe_call GD hr1 (by rfl) mD kD bD .nil pass0 (pa_cons (pv 0) (pa_cons pe_int pa_nil)))) pa_nil)) (by rfl))
      (pss_one (ps_ret (pe_lst (pa_cons (pe_op op_add_str (pv 2) (pe_ix ix_str (pv 1) (pv 3) (fun _ _ => rfl))) (pa_cons (pe_op op_add_str (pv 2) (pe_ix ix_str (pv 1) (pe_op op_mod (pe_callTy call_int1 (by rfl) mInt (by decide +kernel) (pa_cons (pe_op op_add (pv 3) (pv 4)) pa_nil)) pe_int) (fun _ _ => rfl))) pa_nil))))))), ?_⟩
    refine ⟨_, rfl, d, l, n, .str "qvxk", rfl, hT, by omega, .inr ⟨_, rfl, by decide +kernel, by decide +kernel, fun H1 c1 b1 t1 m1 => ?_⟩⟩
    have w1 : Word 1 ⟨#[c1]⟩ := word_sign (z := "qvxk") (by decide +kernel) m1
    refine ⟨⟨_, rfl⟩, _, rfl, d, l, n + 1, 6, rfl, t1, by omega, by decide, by decide, fun H2 r2 b2 t2 r20 r26 => ⟨_, rfl, by omega, by omega, fun D nD => ?_⟩⟩
    obtain ⟨ndD, nlD⟩ := t2.free nD
    refine lc_range (lo := 0) (n := r2.toNat) (fun i H' => ∃ ws : List Str, H' D = some (.lst (ws.map V.str)) ∧ ws.length = i ∧ (∀ x ∈ ws, Word 1 x) ∧ But d H2 H' ∧ Tape H' d l (n + 2 + i))
      ⟨[], upd_same, rfl, (fun x hx => nomatch hx), Same.but (same_new (fun _ _ z => z) nD) d, t2.upd ndD nlD⟩ ?_ ?_
    · rintro i H3 hi ⟨ws, hD3, lws, ow, b3, t3⟩
      refine ⟨rfl, _, rfl, _, rfl, d, l, n + 2 + i, .str abc, rfl, t3, by omega, .inr ⟨_, rfl, by decide +kernel, by decide +kernel, fun H4 c4 b4 t4 m4 => ?_⟩⟩
      have w4 : Word 1 ⟨#[c4]⟩ := word_sign (z := abc) (by decide +kernel) m4
      refine ⟨_, b4 _ _ ndD.symm hD3, small1000 (by rw [List.length_map]; omega), ws ++ [⟨#[c4]⟩], by rw [upd_same, List.map_append]; rfl, by rw [List.length_append, lws]; rfl, fun x hx => ?_, fun b o hb ho => ?_, t4.upd ndD nlD⟩
      · rcases List.mem_append.mp hx with e | e
        · exact ow x e
        · rw [List.mem_singleton.mp e]
          exact w4
      · rw [upd_ne (ne_of_none ho nD)]
        exact b4 _ _ hb (b3 _ _ hb ho)
    · rintro H3 ⟨ws, hD3, lws, ow, b3, t3⟩
      have hws : ws.length ≤ 5 := by omega
      have sm := word_sum ow
      refine ⟨_, D, ws, rfl, rfl, .inl (SqL.of hD3), ?_, ?_⟩
      · have : ("" : Str).length = 0 := by decide +kernel
        rw [this]
        omega
      rw [TL.join_eq]
      have wj := word_join ow
      generalize Str.join ("" : Str) ws = tl at wj ⊢
      have ws6 : Word 6 (⟨#[c1]⟩ ++ tl : Str) := ⟨Nat.le_trans (w1.app wj).1 (by omega), (w1.app wj).2⟩
      have e6 := ws6.1
      refine ⟨_, _, rfl, rfl, few (by have := w1.1; have := wj.1; omega), ?_⟩
      generalize (⟨#[c1]⟩ ++ tl : Str) = stem at ws6 e6 ⊢
      refine ⟨_, rfl, d, l, n + 2 + r2.toNat, 26, rfl, t3, by omega, by decide, by decide, fun H4 r4 b4 t4 r40 r46 => ⟨_, rfl, d, l, _, 25, rfl, t4, by omega, by decide, by decide, fun H5 r5 b5 t5 r50 r56 => ⟨_, _, rfl, rfl, _, _, rfl, ?_⟩⟩⟩
      obtain ⟨ca, ea, wa⟩ := letter_at r40 r46
      obtain ⟨cb, eb, wb⟩ := letter_at (r := (r4 + (1 + r5)) % 26) (Int.emod_nonneg _ (by decide)) (Int.emod_lt_of_pos _ (by decide))
      have labc : abc.length ≤ sizeLine := few (by decide +kernel)
      have wA := ws6.app wa
      have wB := ws6.app wb
      refine ⟨_, rfl, _, rfl, _, rfl, abc, _, ca, rfl, rfl, labc, ea, _, _, rfl, rfl, few (by have := wa.1; omega), ?_⟩
      refine ⟨_, rfl, _, rfl, _, rfl, _, rfl, _, _, rfl, rfl, .inl ⟨_, rfl, _, _, rfl, rfl, (by show (0 : Int) < 26; decide), abc, _, cb, rfl, rfl, labc, eb, _, _, rfl, rfl, few (by have := wb.1; omega), ?_⟩⟩
      refine ⟨few (by show 2 ≤ 1000; decide), fun R nR => ?_⟩
      obtain ⟨ndR, nlR⟩ := t5.free nR
      have b05 : But d H H5 := But.trans (But.trans (But.trans (But.trans b1 b2) b3) b4) b5
      refine q _ R _ _ (b05.new nR) ((t5.upd ndR nlR).more (by omega)) ?_ upd_same ⟨Nat.le_trans wA.1 (by decide), wA.2⟩ ⟨Nat.le_trans wB.1 (by decide), wB.2⟩
      cases e : H R with
      | none => rfl
      | some o =>
        have := b05 R o ndR.symm e
        rw [nR] at this
        cases this
end
end Toy


namespace Toy
open PySem PySem.Spec L2 PyProof.Rows
theorem TK.updL {H : Hp} {D : Addr} {acc : List V} {u : HO} (h : H D = some (.lst acc)) : TK H (L2.upd H D u) := fun b xs hb => by
  rw [upd_ne (ne_of hb h (by intro z; cases z))]
  exact hb
theorem TK.new {H : Hp} {D : Addr} {u : HO} (h : H D = none) : TK H (L2.upd H D u) := fun b xs hb => by
  rw [upd_ne (ne_of_none hb h)]
  exact hb
theorem pats_mono {H H' : Hp} {xs : List V} {p : List Stp} (k : TK H H') (h : Paired (StepAt H) xs p) : Paired (StepAt H') xs p := L2.Paired.mapP h fun _ _ z => z.mono k
theorem cut_take (xs : List V) {r : Int} (h0 : 0 ≤ r) : cutV xs none (some r) = xs.take r.toNat := by
  obtain ⟨i, rfl⟩ : ∃ i : Nat, r = (i : Int) := ⟨r.toNat, by omega⟩
  unfold cutV
  rw [show HT.sIx xs.length xs.length (some (i : Int)) = min i xs.length from HT.sIx_nat _ _ i, HT.sIx_none, List.drop_zero, Nat.sub_zero, Int.toNat_natCast]
  by_cases h : i ≤ xs.length
  · rw [Nat.min_eq_left h]
  · rw [Nat.min_eq_right (by omega), List.take_of_length_le (Nat.le_refl _), List.take_of_length_le (by omega)]
theorem pats_take {H : Hp} : ∀ {xs : List V} {p : List Stp} (k : Nat), Paired (StepAt H) xs p → Paired (StepAt H) (xs.take k) (p.take k)
  | _, _, 0, _ => by simp only [List.take_zero]; exact .nil
  | _, _, k + 1, .nil => by simp only [List.take_nil]; exact .nil
  | _, _, k + 1, .cons a r => by simp only [List.take_succ_cons]; exact .cons a (pats_take k r)
def spStep : Sp := fun vs H Q _ => ∃ (d l kp : Addr) (n : Nat) (k0 k1 : Str), vs = [.ref d, .ref kp] ∧ Tape H d l n ∧ n ≤ 900000 ∧ H kp = some (.lst [.str k0, .str k1]) ∧ Word 20 k0 ∧ Word 20 k1 ∧
  ∀ H' v s, But d H H' → Tape H' d l (n + 1) → StepAt H' v s → Q v H'
def spPat : Sp := fun vs H Q _ => ∃ (d l kp : Addr) (n : Nat) (k0 k1 : Str), vs = [.ref d, .ref kp] ∧ Tape H d l n ∧ n ≤ 800000 ∧ H kp = some (.lst [.str k0, .str k1]) ∧ Word 20 k0 ∧ Word 20 k1 ∧
  ∀ H' a p, But d H H' → Tape H' d l (n + 10) → PatAt H' a p → p.length ≤ 9 → Q (.ref a) H'
def spLoose : Sp := fun vs H Q _ => ∃ (d l a : Addr) (n : Nat) (p : List Stp), vs = [.ref d, .ref a] ∧ Tape H d l n ∧ n ≤ 800000 ∧ PatAt H a p ∧ p.length ≤ 9 ∧
  ∀ H' b q, But d H H' → Tape H' d l (n + 10) → PatAt H' b q → cov q p = true → Q (.ref b) H'
section
variable {P : Program} {w : World} {K : PySem.W.Frag} {mg : Str → Option Value} {base : Heap}
theorem scSt : FnScope ["_law_tape", "_law_keys_here"] ["_law_tape", "_law_keys_here"] (defScope sStep) := ⟨rfl, rfl, rfl, by decide +kernel, rfl, by decide +kernel, by decide +kernel⟩
theorem ok_step {f fP : Addr} {fd fdP : FuncData} (F : Fun K "_law_step" "_law_step" sStep f fd)
    (GP : FnOk P w K mg base CX0 2 fP fdP ["_law_tape", "_law_items"] spPick) (mP : mg "_law_pick" = some (.ref fP)) (kP : PySem.W.keepIn K (.ref fP) = true) (bP : Binds K fdP ["_law_tape", "_law_items"] []) :
    FnOk P w K mg base CX0 3 f fd ["_law_tape", "_law_keys_here"] spStep := by
  refine F.ok scSt (fun vs H Q E h => ?_) (fun cdv A outer s H vs Q E hr h => ?_)
  · obtain ⟨d, l, kp, n, k0, k1, rfl, _⟩ := h
    rfl
  · obtain ⟨d, l, kp, n, k0, k1, rfl, hT, hn, hk, w0, w1, q⟩ := h
    refine ⟨_, pss_one (ps_ret (pe_call GP hr (by rfl) mP kP bP .nil pass0 (pa_cons (pv 0) (pa_cons (pe_lst (pa_cons (pe_tup (pa_cons pe_str pa_nil)) (pa_cons (pe_tup (pa_cons pe_str pa_nil))
      (pa_cons (pe_tup (pa_cons pe_str (pa_cons (pe_ix ix_list (pv 1) pe_int (fun _ _ => rfl)) pa_nil))) (pa_cons (pe_tup (pa_cons pe_str (pa_cons (pe_ix ix_list (pv 1) pe_int (fun _ _ => rfl)) pa_nil)))
      (pa_cons (pe_tup (pa_cons pe_str (pa_cons pe_int pa_nil))) (pa_cons (pe_tup (pa_cons pe_str (pa_cons pe_int pa_nil))) pa_nil))))))) pa_nil)))), ?_⟩
    refine ⟨_, rfl, few (by show 1 ≤ 1000; decide), fun t1 n1 => ?_⟩
    have s1 : Same H (upd H t1 (.tup [.str "every"])) := same_new (fun _ _ z => z) n1
    have g1 : (upd H t1 (.tup [.str "every"])) t1 = some (.tup [.str "every"]) := upd_same
    generalize upd H t1 (.tup [.str "every"]) = H1 at s1 g1 ⊢
    refine ⟨few (by show 1 ≤ 1000; decide), fun t2 n2 => ?_⟩
    have s2 : Same H1 (upd H1 t2 (.tup [.str "every"])) := same_new (fun _ _ z => z) n2
    have g2 : (upd H1 t2 (.tup [.str "every"])) t2 = some (.tup [.str "every"]) := upd_same
    generalize upd H1 t2 (.tup [.str "every"]) = H2 at s2 g2 ⊢
    refine ⟨_, rfl, kp, _, _, .str k0, rfl, rfl, SqL.of (s2 _ _ (s1 _ _ hk)), rfl, few (by show 2 ≤ 1000; decide), fun t3 n3 => ?_⟩
    have s3 : Same H2 (upd H2 t3 (.tup [.str "field", .str k0])) := same_new (fun _ _ z => z) n3
    have g3 : (upd H2 t3 (.tup [.str "field", .str k0])) t3 = some (.tup [.str "field", .str k0]) := upd_same
    generalize upd H2 t3 (.tup [.str "field", .str k0]) = H3 at s3 g3 ⊢
    refine ⟨_, rfl, kp, _, _, .str k1, rfl, rfl, SqL.of (s3 _ _ (s2 _ _ (s1 _ _ hk))), rfl, few (by show 2 ≤ 1000; decide), fun t4 n4 => ?_⟩
    have s4 : Same H3 (upd H3 t4 (.tup [.str "field", .str k1])) := same_new (fun _ _ z => z) n4
    have g4 : (upd H3 t4 (.tup [.str "field", .str k1])) t4 = some (.tup [.str "field", .str k1]) := upd_same
    generalize upd H3 t4 (.tup [.str "field", .str k1]) = H4 at s4 g4 ⊢
    refine ⟨few (by show 2 ≤ 1000; decide), fun t5 n5 => ?_⟩
    have s5 : Same H4 (upd H4 t5 (.tup [.str "item", .int 0])) := same_new (fun _ _ z => z) n5
    have g5 : (upd H4 t5 (.tup [.str "item", .int 0])) t5 = some (.tup [.str "item", .int 0]) := upd_same
    generalize upd H4 t5 (.tup [.str "item", .int 0]) = H5 at s5 g5 ⊢
    refine ⟨few (by show 2 ≤ 1000; decide), fun t6 n6 => ?_⟩
    have s6 : Same H5 (upd H5 t6 (.tup [.str "item", .int 12])) := same_new (fun _ _ z => z) n6
    have g6 : (upd H5 t6 (.tup [.str "item", .int 12])) t6 = some (.tup [.str "item", .int 12]) := upd_same
    generalize upd H5 t6 (.tup [.str "item", .int 12]) = H6 at s6 g6 ⊢
    refine ⟨few (by show 6 ≤ 1000; decide), fun L nL => ?_⟩
    have s7 : Same H6 (upd H6 L (.lst [.ref t1, .ref t2, .ref t3, .ref t4, .ref t5, .ref t6])) := same_new (fun _ _ z => z) nL
    have sa : Same H (upd H6 L (.lst [.ref t1, .ref t2, .ref t3, .ref t4, .ref t5, .ref t6])) := s1.trans (s2.trans (s3.trans (s4.trans (s5.trans (s6.trans s7)))))
    have tL := hT.same sa
    refine ⟨d, l, n, .ref L, rfl, tL, by omega, .inl ⟨L, _, rfl, upd_same, (by intro z; cases z), (by show 6 < 1000; decide), fun H' v b t m => ?_⟩⟩
    have k7 := b.tk tL
    have fin : ∀ (x : Addr) (s : Stp), H6 x = some (.tup s.vs) → s.ok → v = .ref x → Q v H' := fun x s hx ho e => q H' v s (fun b0 o hb ho2 => b _ _ hb (sa _ _ ho2)) t ⟨⟨x, e, k7 _ _ (s7 _ _ hx)⟩, ho⟩
    have e5 := s6.trans (fun _ _ z => z : Same H6 H6)
    simp only [List.mem_cons, List.not_mem_nil, or_false] at m
    rcases m with e | e | e | e | e | e
    · exact fin t1 .ev (s6 _ _ (s5 _ _ (s4 _ _ (s3 _ _ (s2 _ _ g1))))) trivial e
    · exact fin t2 .ev (s6 _ _ (s5 _ _ (s4 _ _ (s3 _ _ g2)))) trivial e
    · exact fin t3 (.fld k0) (s6 _ _ (s5 _ _ (s4 _ _ g3))) w0.2 e
    · exact fin t4 (.fld k1) (s6 _ _ (s5 _ _ g4)) w1.2 e
    · exact fin t5 (.itm 0) (s6 _ _ g5) trivial e
    · exact fin t6 (.itm 12) g6 trivial e
abbrev NP : List Str := ["_law_tape", "_law_keys_here", "_law_k"]
theorem scPt : FnScope NP ["_law_tape", "_law_keys_here"] (defScope sPat) := ⟨rfl, rfl, rfl, by decide +kernel, rfl, by decide +kernel, by decide +kernel⟩
theorem ok_pat {f fD fS : Addr} {fd fdD fdS : FuncData} (F : Fun K "_law_pattern" "_law_pattern" sPat f fd)
    (GD : FnOk P w K mg base CX0 1 fD fdD ["_law_tape", "_law_many"] spDraw) (mD : mg "_law_draw" = some (.ref fD)) (kD : PySem.W.keepIn K (.ref fD) = true) (bD : Binds K fdD ["_law_tape", "_law_many"] [])
    (GS : FnOk P w K mg base CX0 3 fS fdS ["_law_tape", "_law_keys_here"] spStep) (mS : mg "_law_step" = some (.ref fS)) (kS : PySem.W.keepIn K (.ref fS) = true) (bS : Binds K fdS ["_law_tape", "_law_keys_here"] [])
    (mRange : mg "range" = none) (mTup : mg "tuple" = none) : FnOk P w K mg base CX0 4 f fd ["_law_tape", "_law_keys_here"] spPat := by
  refine F.ok scPt (fun vs H Q E h => ?_) (fun cdv A outer s H vs Q E hr h => ?_)
  · obtain ⟨d, l, kp, n, k0, k1, rfl, _⟩ := h
    rfl
  · obtain ⟨d, l, kp, n, k0, k1, rfl, hT, hn, hk, w0, w1, q⟩ := h
    have hr1 : Room 1 _ := hr.mono (show 1 ≤ 3 by omega)
    refine ⟨_, pss_one (ps_ret (pe_callTy call_tuple_of (by rfl) mTup (by decide +kernel) (pa_cons (pe_lc (own := [("_law_k", 2)]) (g := gName 2) (by rfl) scPt.nd (pi_range1 (by rfl) mRange (pa_cons (pe_call GD hr1 (by rfl) mD kD bD .nil pass0 (pa_cons (pv 0) (pa_cons pe_int pa_nil))) pa_nil))
            (blkOk_by (own := [("_law_k", 2)]) (N := NP) (sc := defScope sPat) (by decide +kernel)) (fun _ _ _ _ _ => pg_name (i := 2) scPt.nd rfl (Or.inl rfl)) (fun _ _ _ _ _ => pts_nil)
            (fun _ _ _ _ _ => pe_call GS hr (by rfl) mS kS bS .nil pass0 (pa_cons (pv 0) (pa_cons (pv 1) pa_nil)))) pa_nil))), ?_⟩
    refine ⟨_, rfl, d, l, n, 10, rfl, hT, by omega, by decide, by decide, fun H2 r2 b2 t2 r20 r26 => ⟨_, rfl, by omega, by omega, fun D nD => ?_⟩⟩
    obtain ⟨ndD, nlD⟩ := t2.free nD
    have hk2 : H2 kp = some (.lst [.str k0, .str k1]) := b2 _ _ (hT.neL hk) hk
    refine lc_range (lo := 0) (n := r2.toNat) (fun i H' => ∃ (acc : List V) (p : List Stp), H' D = some (.lst acc) ∧ acc.length = i ∧ Paired (StepAt H') acc p ∧ But d H2 H' ∧ Tape H' d l (n + 1 + i))
      ⟨[], [], upd_same, rfl, .nil, Same.but (same_new (fun _ _ z => z) nD) d, t2.upd ndD nlD⟩ ?_ ?_
    · rintro i H3 hi ⟨acc, p, hD3, lacc, pr, b3, t3⟩
      refine ⟨rfl, _, rfl, _, rfl, d, l, kp, n + 1 + i, k0, k1, rfl, t3, by omega, b3 _ _ (t2.neL hk2) hk2, w0, w1, fun H4 v s b4 t4 h4 => ?_⟩
      have hD4 := b4 _ _ ndD.symm hD3
      refine ⟨acc, hD4, small1000 (by omega), acc ++ [v], p ++ [s], upd_same, by rw [List.length_append, lacc]; rfl, Paired.snoc (pats_mono ((b4.tk t3).trans (TK.updL hD4)) pr) (h4.mono (TK.updL hD4)), fun b o hb ho => ?_, t4.upd ndD nlD⟩
      rw [upd_ne (ne_of_none ho nD)]
      exact b4 _ _ hb (b3 _ _ hb ho)
    · rintro H3 ⟨acc, p, hD3, lacc, pr, b3, t3⟩
      refine ⟨D, acc, rfl, .inl ⟨SqL.of hD3, fun a na => ?_⟩⟩
      obtain ⟨nda, nla⟩ := t3.free na
      have lp : acc.length = p.length := pr.length
      exact q _ a p ((b2.trans b3).new na) ((t3.upd nda nla).more (by omega)) ⟨acc, upd_same, pats_mono (TK.new na) pr⟩ (by omega)
abbrev NL : List Str := ["_law_tape", "_law_pattern_here", "_law_found", "_law_step_here"]
theorem scLo : FnScope NL ["_law_tape", "_law_pattern_here"] (defScope sLoose) := ⟨rfl, rfl, rfl, by decide +kernel, rfl, by decide +kernel, by decide +kernel⟩
theorem ok_loose {f fD fP : Addr} {fd fdD fdP : FuncData} (F : Fun K "_law_loosened" "_law_loosened" sLoose f fd)
    (GD : FnOk P w K mg base CX0 1 fD fdD ["_law_tape", "_law_many"] spDraw) (mD : mg "_law_draw" = some (.ref fD)) (kD : PySem.W.keepIn K (.ref fD) = true) (bD : Binds K fdD ["_law_tape", "_law_many"] [])
    (GP : FnOk P w K mg base CX0 2 fP fdP ["_law_tape", "_law_items"] spPick) (mP : mg "_law_pick" = some (.ref fP)) (kP : PySem.W.keepIn K (.ref fP) = true) (bP : Binds K fdP ["_law_tape", "_law_items"] [])
    (mLen : mg "len" = none) (mTup : mg "tuple" = none) : FnOk P w K mg base CX0 3 f fd ["_law_tape", "_law_pattern_here"] spLoose := by
  refine F.ok scLo (fun vs H Q E h => ?_) (fun cdv A outer s H vs Q E hr h => ?_)
  · obtain ⟨d, l, a, n, p, rfl, _⟩ := h
    rfl
  · obtain ⟨d, l, a, n, p, rfl, hT, hn, ⟨xs, ha, hp⟩, lp, q⟩ := h
    have hr1 : Room 1 _ := hr.mono (show 1 ≤ 2 by omega)
    refine ⟨_, pss_cons (ps_setLc (i := 2) (own := [("_law_step_here", 3)]) (g := gName 3) (by rfl) scLo.nd rfl rfl (sw_true rfl rfl rfl (by decide +kernel)) (pi_tup (pv 1))
          (blkOk_by (own := [("_law_step_here", 3)]) (N := NL) (sc := defScope sLoose) (by decide +kernel)) (fun _ _ _ _ _ => pg_name (i := 3) scLo.nd rfl (Or.inl rfl)) (fun _ _ _ _ _ => pts_nil)
          (fun _ _ _ _ _ => pe_call GP hr (by rfl) mP kP bP .nil pass0 (pa_cons (pv 0) (pa_cons (pe_lst (pa_cons (pv 3) (pa_cons (pv 3) (pa_cons (pe_tup (pa_cons pe_str pa_nil)) pa_nil)))) pa_nil))))
      (pss_one (ps_ret (pe_callTy call_tuple_of (by rfl) mTup (by decide +kernel) (pa_cons (pe_slice sl_list (pv 2) po_none (po_some (pe_call GD hr1 (by rfl) mD kD bD .nil pass0 (pa_cons (pv 0) (pa_cons (pe_op op_add (pe_callB call_len_seq (by rfl) mLen PySem.boot_len (pa_cons (pv 2) pa_nil)) pe_int) pa_nil))))) pa_nil)))), ?_⟩
    have lx : xs.length = p.length := hp.length
    refine ⟨_, rfl, a, rfl, ⟨_, SqT.of ha⟩, fun D nD => ?_⟩
    obtain ⟨ndD, nlD⟩ := hT.free nD
    refine lc_tup (K := K) (a := a) (xs := xs) (fun i H' => ∃ (acc : List V) (r : List Stp), H' D = some (.lst acc) ∧ acc.length = i ∧ Paired (StepAt H') acc r ∧ (∀ (j : Nat) (s t : Stp), r[j]? = some s → p[j]? = some t → s = .ev ∨ s = t) ∧ But d H H' ∧ Tape H' d l (n + i))
      ⟨[], [], upd_same, rfl, .nil, (fun j s t h => by simp at h), Same.but (same_new (fun _ _ z => z) nD) d, hT.upd ndD nlD⟩ ?_ ?_ ?_
    · rintro i H' _ ⟨acc, r, _, _, _, _, b1, _⟩
      exact SqT.of (b1 _ _ (hT.neT ha) ha)
    · rintro i x H3 hx ⟨acc, r, hD3, lacc, pr, cr, b3, t3⟩
      obtain ⟨sx, gx, rx⟩ := paired_get hp i x hx
      have hi : i < p.length := get_lt gx
      have lr : acc.length = r.length := pr.length
      refine ⟨rfl, _, rfl, _, rfl, _, rfl, few (by show 1 ≤ 1000; decide), fun t nt => ?_⟩
      have s1 : Same H3 (upd H3 t (.tup [.str "every"])) := same_new (fun _ _ z => z) nt
      have g1 : (upd H3 t (.tup [.str "every"])) t = some (.tup [.str "every"]) := upd_same
      generalize upd H3 t (.tup [.str "every"]) = H4 at s1 g1 ⊢
      refine ⟨few (by show 3 ≤ 1000; decide), fun L nL => ?_⟩
      have s2 : Same H3 (upd H4 L (.lst [x, x, .ref t])) := same_new s1 nL
      have g2 : (upd H4 L (.lst [x, x, .ref t])) t = some (.tup [.str "every"]) := same_new (fun _ _ z => z) nL _ _ g1
      refine ⟨d, l, n + i, .ref L, rfl, t3.same s2, by omega, .inl ⟨L, _, rfl, upd_same, (by intro z; cases z), (by show 3 < 1000; decide), fun H5 v b5 t5 m5 => ?_⟩⟩
      have k5 := b5.tk (t3.same s2)
      have hv : ∃ s, StepAt H5 v s ∧ (s = .ev ∨ s = sx) := by
        have cx : StepAt H5 x sx := rx.mono ((b3.tk hT).trans ((Same.tk s2).trans k5))
        simp only [List.mem_cons, List.not_mem_nil, or_false] at m5
        rcases m5 with e | e | e
        · exact ⟨sx, e ▸ cx, .inr rfl⟩
        · exact ⟨sx, e ▸ cx, .inr rfl⟩
        · exact ⟨.ev, ⟨⟨t, e, k5 _ _ g2⟩, trivial⟩, .inl rfl⟩
      obtain ⟨s, hs, cs⟩ := hv
      have hD5 : H5 D = some (.lst acc) := b5 _ _ ndD.symm (s2 _ _ hD3)
      refine ⟨acc, hD5, small1000 (by omega), acc ++ [v], r ++ [s], upd_same, by rw [List.length_append, lacc]; rfl, Paired.snoc (pats_mono ((Same.tk s2).trans (k5.trans (TK.updL hD5))) pr) (hs.mono (TK.updL hD5)), fun j a1 a2 h1 h2 => ?_, fun b o hb ho => ?_, t5.upd ndD nlD⟩
      · by_cases hj : j < r.length
        · rw [List.getElem?_append_left hj] at h1
          exact cr j a1 a2 h1 h2
        · rw [List.getElem?_append_right (by omega)] at h1
          have hj2 : j = i := by
            have := get_lt h1
            simp at this
            omega
          have e1 : s = a1 := by
            rw [hj2, show i - r.length = 0 by omega] at h1
            exact Option.some.inj h1
          have e2 : sx = a2 := by
            rw [hj2, gx] at h2
            exact Option.some.inj h2
          rw [← e1, ← e2]
          exact cs
      · rw [upd_ne (ne_of_none ho nD)]
        exact b5 _ _ hb (s2 _ _ (b3 _ _ hb ho))
    · rintro H3 ⟨acc, r, hD3, lacc, pr, cr, b3, t3⟩
      have lr : acc.length = r.length := pr.length
      refine ⟨_, rfl, _, rfl, _, rfl, D, _, rfl, .inl (SqL.of hD3), _, _, rfl, rfl, d, l, n + xs.length, _, rfl, t3, by omega, by omega, by omega, fun H4 r4 b4 t4 r40 r41 => ⟨r4, rfl, D, acc, rfl, SqL.of (b4 _ _ ndD.symm hD3), fun S nS => ⟨S, _, rfl, .inl ⟨SqL.of upd_same, fun e ne => ?_⟩⟩⟩⟩
      rw [cut_take acc r40]
      rw [cut_take acc r40] at ne
      obtain ⟨ndS, nlS⟩ := t4.free nS
      have tS := t4.upd (u := .lst (acc.take r4.toNat)) ndS nlS
      obtain ⟨nde, nle⟩ := tS.free ne
      have k4 : TK H3 (upd (upd H4 S (.lst (acc.take r4.toNat))) e (.tup (acc.take r4.toNat))) := ((b4.tk t3).trans (TK.new nS)).trans (TK.new ne)
      refine q _ e (r.take r4.toNat) (((b3.trans b4).new nS).new ne) ((tS.upd nde nle).more (by omega)) ⟨_, upd_same, pats_take _ (pats_mono k4 pr)⟩ (cov_iff.mpr ⟨by rw [List.length_take]; omega, fun j a1 a2 h1 h2 => ?_⟩)
      have hj : j < r4.toNat := by
        have := get_lt h1
        rw [List.length_take] at this
        omega
      rw [List.getElem?_take, if_pos hj] at h1
      exact cr j a1 a2 h1 h2
end
end Toy


namespace Toy
open PySem PySem.Spec L2 PyProof.Rows
theorem room65 {k : Nat} {A : Around} (r : Room k A) : A.units + 65 < cLine := by have := r.un; omega
def PlV (x : V) : Prop := (∃ k, x = .str k ∧ PyData.strOk k = true) ∨ ∃ i, x = .int i
def spFits : Sp := fun vs H Q _ => ∃ (a b : Addr) (xs : List V) (p : List Stp), vs = [.ref a, .ref b] ∧ H a = some (.tup xs) ∧ (∀ x ∈ xs, PlV x) ∧ PatAt H b p ∧ xs.length ≤ 20 ∧ p.length ≤ 20 ∧ ∀ H', Same H H' → Q (.bl (fit xs p)) H'
theorem pl_ok {x : V} (h : PlV x) : (stepOf x).ok := by
  rcases h with ⟨k, rfl, h⟩ | ⟨i, rfl⟩
  · exact h
  · trivial
theorem at0 {xs : List V} {i : Nat} {x : V} (h : xs[i]? = some x) : atI xs (0 + (i : Int)) = some x := by
  rw [Int.zero_add]
  exact atI_nat h
def intsV (l : List Nat) : List V := l.map fun k => V.int ((k : Nat) : Int)
theorem intsV_add (l : List Nat) (k : Nat) : intsV l ++ [V.int (0 + (k : Int))] = intsV (l ++ [k]) := by
  unfold intsV
  rw [List.map_append, Int.zero_add]
  rfl
theorem intsV_map (l : List Nat) : intsV l = (l.map fun k => ((k : Nat) : Int)).map V.int := by
  unfold intsV
  rw [List.map_map]
  rfl
theorem len_filter {f : Nat → Bool} (n : Nat) : ((List.range n).filter f).length ≤ n := Nat.le_trans (List.length_filter_le _ _) (by rw [List.length_range]; exact Nat.le_refl _)
section
variable {P : Program} {w : World} {K : PySem.W.Frag} {mg : Str → Option Value} {base : Heap}
abbrev NV : List Str := ["_law_one", "_law_other", "_law_k"]
theorem scLC : FnScope NV ["_law_one", "_law_other"] (defScope sLCov) := ⟨rfl, rfl, rfl, by decide +kernel, rfl, by decide +kernel, by decide +kernel⟩
theorem ok_lcov {f : Addr} {fd : FuncData} (F : Fun K "_law_covers" "_law_covers" sLCov f fd) (mLen : mg "len" = none) (mRange : mg "range" = none) : FnOk P w K mg base CX0 1 f fd ["_law_one", "_law_other"] spCV := by
  refine F.ok scLC (fun vs H Q E h => ?_) (fun cdv A outer s H vs Q E hr h => ?_)
  · obtain ⟨a, b, p, q, rfl, _⟩ := h
    rfl
  · obtain ⟨a, b, p, q, rfl, ⟨xs, ha, hp⟩, ⟨ys, hb, hq⟩, lp, lq, fin⟩ := h
    refine ⟨_, pss_cons (ps_if (pt_cmpR op_gt (pe_callB call_len_seq (by rfl) mLen PySem.boot_len (pa_cons (pv 0) pa_nil)) (pe_callB call_len_seq (by rfl) mLen PySem.boot_len (pa_cons (pv 1) pa_nil)) (nomark _)) (pss_one (ps_ret pe_bl)) pss_nil)
      (pss_one (ps_ret (pe_cmpR (op_eqD hr.units) (pe_lc (own := [("_law_k", 2)]) (g := gName 2) (te := tVar 2) (tt := tAnd (tTest (tOp (rNeD K) (tOp (rIxT K) (tVar 0) (tVar 2)) (tTup (tCons (tC (.str "every")) tNil)))) (tTest (tOp (rNeD K) (tOp (rIxT K) (tVar 0) (tVar 2)) (tOp (rIxT K) (tVar 1) (tVar 2))))) (by rfl) scLC.nd (pi_range1 (by rfl) mRange (pa_cons (pe_callB call_len_seq (by rfl) mLen PySem.boot_len (pa_cons (pv 0) pa_nil)) pa_nil))
          (blkOk_by (own := [("_law_k", 2)]) (N := NV) (sc := defScope sLCov) (by decide +kernel)) (fun _ _ _ _ _ => pg_name (i := 2) scLC.nd rfl (Or.inl rfl))
          (fun _ _ _ _ _ => pts_one (PW.pt (pw_and (pt_cmpR (op_neD hr.units) (pe_ix ix_tup (pv 0) (pv 2) (fun _ _ => rfl)) (pe_tup (pa_cons pe_str pa_nil)) (nomark _)) (pw_and1 (pt_cmpR (op_neD hr.units) (pe_ix ix_tup (pv 0) (pv 2) (fun _ _ => rfl)) (pe_ix ix_tup (pv 1) (pv 2) (fun _ _ => rfl)) (nomark _))))))
          (fun _ _ _ _ _ => pv 2)) (pe_lst pa_nil) (nomark _)))), ?_⟩
    have l1 : xs.length = p.length := hp.length
    have l2 : ys.length = q.length := hq.length
    refine ⟨_, rfl, a, _, rfl, .inr (SqT.of ha), _, rfl, b, _, rfl, .inr (SqT.of hb), _, _, rfl, rfl, _, rfl, ?_⟩
    by_cases hle : p.length ≤ q.length
    case neg =>
      refine ite2 (fun c => ?_) (fun c => ?_)
      · have z := fin H (fun _ _ z => z)
        unfold cov at z
        rw [decide_eq_false hle, Bool.false_and] at z
        exact z
      · exact absurd (decide_eq_true (by omega)) c
    refine ite2 (fun c => ?_) (fun c => ?_)
    · have := of_decide_eq_true c
      omega
    refine ⟨_, rfl, a, _, rfl, .inr (SqT.of ha), _, rfl, by omega, by omega, fun D nD => ?_⟩
    refine lc_range (lo := 0) (n := ((xs.length : Nat) : Int).toNat) (fun i H' => Same H H' ∧ H' D = some (.lst (intsV ((List.range i).filter (badC p q))))) ⟨same_new (fun _ _ z => z) nD, upd_same⟩ ?_ ?_
    · rintro i H3 hi ⟨s3, hD3⟩
      have hi1 : i < p.length := by omega
      have m1 : xs[i]? = some xs[i] := List.getElem?_eq_getElem (by omega)
      have m2 : ys[i]? = some ys[i] := List.getElem?_eq_getElem (by omega)
      obtain ⟨sx, g1, r1⟩ := paired_get hp i _ m1
      obtain ⟨sy, g2, r2⟩ := paired_get hq i _ m2
      have eb : badC p q i = !covS sx sy := by
        unfold badC
        rw [g1, g2]
      have lf := len_filter (f := badC p q) i
      refine ⟨rfl, _, rfl, _, rfl, a, xs, _, _, rfl, rfl, SqT.of (s3 _ _ ha), at0 m1, few (by show 1 ≤ 1000; decide), fun t nt => ?_⟩
      have s1 : Same H3 (upd H3 t (.tup [.str "every"])) := same_new (fun _ _ z => z) nt
      have ht : (upd H3 t (.tup [.str "every"])) t = some (.tup [.str "every"]) := upd_same
      generalize upd H3 t (.tup [.str "every"]) = H4 at s1 ht ⊢
      have s4 := s3.trans s1
      refine ⟨sx.py, Stp.ev.py, (r1.mono (Same.tk s4)).dp, ev_dp ht, py_shaped r1.2, py_shaped trivial, _, rfl, ?_⟩
      rw [py_eqv]
      by_cases e1 : sx = .ev
      · rw [decide_eq_true e1]
        refine iteF ⟨s4, ?_⟩
        rw [s1 _ _ hD3, range_filter, eb, show covS sx sy = true from covS_iff.mpr (.inl e1)]
        simp
      · rw [decide_eq_false e1]
        refine iteT ⟨_, rfl, _, rfl, a, xs, _, _, rfl, rfl, SqT.of (s4 _ _ ha), at0 m1, _, rfl, _, rfl, b, ys, _, _, rfl, rfl, SqT.of (s4 _ _ hb), at0 m2, sx.py, sy.py, (r1.mono (Same.tk s4)).dp, (r2.mono (Same.tk s4)).dp, py_shaped r1.2, py_shaped r2.2, _, rfl, ?_⟩
        rw [py_eqv]
        by_cases e2 : sx = sy
        · rw [decide_eq_true e2]
          refine iteF ⟨s4, ?_⟩
          rw [s1 _ _ hD3, range_filter, eb, show covS sx sy = true from covS_iff.mpr (.inr e2)]
          simp
        · rw [decide_eq_false e2]
          refine iteT ⟨_, rfl, _, s1 _ _ hD3, small1000 (by unfold intsV; rw [List.length_map]; omega), fun x o z => ?_, ?_⟩
          · rw [upd_ne (ne_of_none z nD)]
            exact s4 _ _ z
          · have cf : covS sx sy = false := by
              cases e : covS sx sy with
              | false => rfl
              | true => rcases covS_iff.mp e with z | z <;> contradiction
            rw [upd_same, range_filter, eb, cf, show (if (!false) = true then [i] else []) = [i] from rfl, intsV_add]
    · rintro H3 ⟨s3, hD3⟩
      have en : ((xs.length : Nat) : Int).toNat = p.length := by omega
      rw [en] at hD3
      refine ⟨Nat.zero_le _, fun e ne => ?_⟩
      have hD4 := same_new (u := .lst []) (fun _ _ z => z) ne _ _ hD3
      rw [intsV_map] at hD4
      refine ⟨.list _, .list [], .lst (SqL.of hD4) (ints_dp _), .lst (SqL.of upd_same) .nil, ints_shaped _, by decide +kernel, ?_⟩
      rw [ints_none, List.isEmpty_map, badC_none]
      have z := fin _ (same_new (u := .lst []) s3 ne)
      unfold cov at z
      rw [decide_eq_true hle, Bool.true_and] at z
      exact z
abbrev NF : List Str := ["_law_place", "_law_pattern_here", "_law_steps", "_law_wrong", "_law_step_here", "_law_k"]
theorem scFi : FnScope NF ["_law_place", "_law_pattern_here"] (defScope sFits) := ⟨rfl, rfl, rfl, by decide +kernel, rfl, by decide +kernel, by decide +kernel⟩
theorem ok_fits {f : Addr} {fd : FuncData} (F : Fun K "_law_fits" "_law_fits" sFits f fd) (mLen : mg "len" = none) (mRange : mg "range" = none) (mMin : mg "min" = none) (mIs : mg "isinstance" = none) (mStr : mg "str" = none) :
    FnOk P w K mg base CX0 1 f fd ["_law_place", "_law_pattern_here"] spFits := by
  refine F.ok scFi (fun vs H Q E h => ?_) (fun cdv A outer s H vs Q E hr h => ?_)
  · obtain ⟨a, b, xs, p, rfl, _⟩ := h
    rfl
  · obtain ⟨a, b, xs, p, rfl, ha, hx, ⟨ys, hb, hq⟩, lx, lp, fin⟩ := h
    refine ⟨_, pss_cons (ps_set (i := 2) scFi.nd rfl (Or.inr rfl) (pe_lc (own := [("_law_step_here", 4)]) (g := gName 4) (te := tTup (tCons (tIf (tTest (tCB (rIsi K) (tCons (tVar 4) (tCons (tC (.ty "str")) tNil)))) (tC (.str "field")) (tC (.str "item"))) (tCons (tVar 4) tNil))) (by rfl) scFi.nd (pi_tup (pv 0))
          (blkOk_by (own := [("_law_step_here", 4)]) (N := NF) (sc := defScope sFits) (by decide +kernel)) (fun _ _ _ _ _ => pg_name (i := 4) scFi.nd rfl (Or.inl rfl)) (fun _ _ _ _ _ => pts_nil)
          (fun _ _ _ _ _ => pe_tup (pa_cons (pe_ifExp (pt_val (pe_callB call_isi (by rfl) mIs PyProof.Rows.boot_isinstance (pa_cons (pv 4) (pa_cons (pe_bltn (v := .ty "str") (by rfl) mStr (by decide +kernel) rfl) pa_nil)))) pe_str pe_str) (pa_cons (pv 4) pa_nil)))))
      (pss_cons (ps_setLc (i := 3) (own := [("_law_k", 5)]) (g := gName 5) (te := tVar 5) (tt := tTest (tOp (rNotInU K) (tOp (rIxT K) (tVar 1) (tVar 5)) (tTup (tCons (tTup (tCons (tC (.str "every")) tNil)) (tCons (tOp (rIxL K) (tVar 2) (tVar 5)) tNil))))) (by rfl) scFi.nd rfl rfl (sw_true rfl rfl rfl (by decide +kernel)) (pi_range1 (by rfl) mRange (pa_cons (pe_callB (call_min2 rfl) (by rfl) mMin (by decide +kernel) (pa_cons (pe_callB call_len_seq (by rfl) mLen PySem.boot_len (pa_cons (pv 2) pa_nil)) (pa_cons (pe_callB call_len_seq (by rfl) mLen PySem.boot_len (pa_cons (pv 1) pa_nil)) pa_nil))) pa_nil))
          (blkOk_by (own := [("_law_k", 5)]) (N := NF) (sc := defScope sFits) (by decide +kernel)) (fun _ _ _ _ _ => pg_name (i := 5) scFi.nd rfl (Or.inl rfl))
          (fun _ _ _ _ _ => pts_one (pt_cmpR (op_notInU (room65 hr)) (pe_ix ix_tup (pv 1) (pv 5) (fun _ _ => rfl)) (pe_tup (pa_cons (pe_tup (pa_cons pe_str pa_nil)) (pa_cons (pe_ix ix_list (pv 2) (pv 5) (fun _ _ => rfl)) pa_nil))) (by rfl)))
          (fun _ _ _ _ _ => pv 5))
      (pss_one (ps_ret (pe_and (pe_cmpR op_eq (pe_callB call_len_seq (by rfl) mLen PySem.boot_len (pa_cons (pv 0) pa_nil)) (pe_callB call_len_seq (by rfl) mLen PySem.boot_len (pa_cons (pv 1) pa_nil)) (nomark _))
        (pe_one (pe_cmpR (op_eqD hr.units) (pv 3) (pe_lst pa_nil) (nomark _))))))), ?_⟩
    have l2 : ys.length = p.length := hq.length
    refine ⟨_, rfl, a, rfl, ⟨_, SqT.of ha⟩, fun F nF => ?_⟩
    refine lc_tup (K := K) (a := a) (xs := xs) (fun i H' => ∃ acc : List V, H' F = some (.lst acc) ∧ acc.length = i ∧ Paired (StepAt H') acc ((xs.take i).map stepOf) ∧ Same H H') ⟨[], upd_same, rfl, (by simp only [List.take_zero, List.map_nil]; exact .nil), same_new (fun _ _ z => z) nF⟩ ?_ ?_ ?_
    · rintro i H' _ ⟨acc, _, _, _, s3⟩
      exact SqT.of (s3 _ _ ha)
    · rintro i x H3 hxi ⟨acc, hF3, lacc, pr, s3⟩
      have hi := get_lt hxi
      have et : (xs.take (i + 1)).map stepOf = (xs.take i).map stepOf ++ [stepOf x] := by
        rw [List.take_add_one, hxi, List.map_append]
        rfl
      have fin2 : ∀ t, H3 t = none → ∃ acc2 : List V, (upd H3 t (.tup (stepOf x).vs)) F = some (.lst acc2) ∧ acc2.length < sizeLine ∧ ∃ acc3 : List V, (upd (upd H3 t (.tup (stepOf x).vs)) F (.lst (acc2 ++ [.ref t]))) F = some (.lst acc3) ∧ acc3.length = i + 1 ∧
          Paired (StepAt (upd (upd H3 t (.tup (stepOf x).vs)) F (.lst (acc2 ++ [.ref t])))) acc3 ((xs.take (i + 1)).map stepOf) ∧ Same H (upd (upd H3 t (.tup (stepOf x).vs)) F (.lst (acc2 ++ [.ref t]))) := by
        intro t nt
        have nFt : F ≠ t := ne_of_none hF3 nt
        have hF4 : (upd H3 t (.tup (stepOf x).vs)) F = some (.lst acc) := (upd_ne nFt).trans hF3
        refine ⟨acc, hF4, small1000 (by omega), acc ++ [.ref t], upd_same, by rw [List.length_append, lacc]; rfl, ?_, fun b o hb => ?_⟩
        · rw [et]
          exact Paired.snoc (pats_mono ((TK.new nt).trans (TK.updL hF4)) pr) ⟨⟨t, rfl, (upd_ne nFt.symm).trans upd_same⟩, pl_ok (hx x (List.mem_of_getElem? hxi))⟩
        · rw [upd_ne (ne_of_none hb nF), upd_ne (ne_of_none (s3 _ _ hb) nt)]
          exact s3 _ _ hb
      rcases hx x (List.mem_of_getElem? hxi) with ⟨k, rfl, _⟩ | ⟨k, rfl⟩
      · exact ⟨rfl, _, rfl, _, _, _, _, true, rfl, .ty _, .base (.str k), kit_ty (by decide +kernel), _, rfl, iteT ⟨_, rfl, few (by show 2 ≤ 1000; decide), fun t nt => fin2 t nt⟩⟩
      · exact ⟨rfl, _, rfl, _, _, _, _, false, rfl, .ty _, .base (.int k), kit_ty (by decide +kernel), _, rfl, iteF ⟨_, rfl, few (by show 2 ≤ 1000; decide), fun t nt => fin2 t nt⟩⟩
    · rintro H3 ⟨acc, hF3, lacc, pr, s3⟩
      rw [List.take_length] at pr
      refine ⟨_, rfl, F, _, rfl, .inl (SqL.of hF3), _, rfl, b, _, rfl, .inr (SqT.of (s3 _ _ hb)), _, _, rfl, _, rfl, ?_, ?_, fun D nD => ?_⟩
      · split <;> omega
      · split <;> omega
      generalize hn : (if ((ys.length : Nat) : Int) < ((acc.length : Nat) : Int) then ((ys.length : Nat) : Int) else ((acc.length : Nat) : Int)).toNat = n
      have hmin : n = min xs.length p.length := by
        rw [← hn]
        split <;> omega
      refine lc_range (lo := 0) (n := n) (fun i H' => Same H3 H' ∧ H' D = some (.lst (intsV ((List.range i).filter (badF xs p))))) ⟨same_new (fun _ _ z => z) nD, upd_same⟩ ?_ ?_
      · rintro i H4 hi ⟨s4, hD4⟩
        have m1 : xs[i]? = some xs[i] := List.getElem?_eq_getElem (by omega)
        have m2 : ys[i]? = some ys[i] := List.getElem?_eq_getElem (by omega)
        have m3 : acc[i]? = some acc[i] := List.getElem?_eq_getElem (by omega)
        obtain ⟨sy, g2, r2⟩ := paired_get hq i _ m2
        obtain ⟨sx, g3, r3⟩ := paired_get pr i _ m3
        have esx : sx = stepOf xs[i] := by
          rw [List.getElem?_map, m1] at g3
          exact (Option.some.inj g3).symm
        have eb : badF xs p i = !fitS xs[i] sy := by
          unfold badF
          rw [m1, g2]
        have lf := len_filter (f := badF xs p) i
        have s34 := s3.trans s4
        refine ⟨rfl, _, rfl, _, rfl, b, ys, _, _, rfl, rfl, SqT.of (s34 _ _ hb), at0 m2, few (by show 1 ≤ 1000; decide), fun t nt => ?_⟩
        have s1 : Same H4 (upd H4 t (.tup [.str "every"])) := same_new (fun _ _ z => z) nt
        have ht : (upd H4 t (.tup [.str "every"])) t = some (.tup [.str "every"]) := upd_same
        generalize upd H4 t (.tup [.str "every"]) = H5 at s1 ht ⊢
        refine ⟨_, rfl, _, rfl, F, acc, _, _, rfl, rfl, SqL.of (s1 _ _ (s4 _ _ hF3)), at0 m3, few (by show 2 ≤ 1000; decide), fun t2 nt2 => ?_⟩
        have s2 : Same H5 (upd H5 t2 (.tup [.ref t, acc[i]])) := same_new (fun _ _ z => z) nt2
        have ht2 : (upd H5 t2 (.tup [.ref t, acc[i]])) t2 = some (.tup [.ref t, acc[i]]) := upd_same
        generalize upd H5 t2 (.tup [.ref t, acc[i]]) = H6 at s2 ht2 ⊢
        have s46 := s1.trans s2
        have s6 := s34.trans s46
        refine ⟨sy.py, [Stp.ev.py, sx.py], (r2.mono (Same.tk s6)).dp, .tup (SqT.of ht2) (.cons (ev_dp (s2 _ _ ht)) (.cons (r3.mono (Same.tk (s4.trans s46))).dp .nil)), py_shaped r2.2, pys_shaped (p := [.ev, sx]) (fun s hs => by
          simp only [List.mem_cons, List.not_mem_nil, or_false] at hs
          rcases hs with rfl | rfl
          · trivial
          · exact r3.2), _, rfl, ?_⟩
        have ev : (!([Stp.ev.py, sx.py].any fun z => PyData.eqv z sy.py)) = badF xs p i := by
          rw [eb, esx]
          simp only [List.any_cons, List.any_nil, Bool.or_false, py_eqv]
          unfold fitS
          congr 1
          congr 1
          · exact decide_eq_decide.mpr eq_comm
          · exact decide_eq_decide.mpr eq_comm
        rw [ev]
        cases eB : badF xs p i with
        | false =>
          refine iteF ⟨s4.trans s46, ?_⟩
          rw [s46 _ _ hD4, range_filter, eB]
          simp
        | true =>
          refine iteT ⟨_, rfl, _, s46 _ _ hD4, small1000 (by unfold intsV; rw [List.length_map]; omega), fun x o z => ?_, ?_⟩
          · rw [upd_ne (ne_of_none z nD)]
            exact s46 _ _ (s4 _ _ z)
          · rw [upd_same, range_filter, eB, if_pos rfl, intsV_add]
      · rintro H4 ⟨s4, hD4⟩
        have s34 := s3.trans s4
        refine ⟨_, rfl, a, _, rfl, .inr (SqT.of (s34 _ _ ha)), _, rfl, b, _, rfl, .inr (SqT.of (s34 _ _ hb)), rfl, _, rfl, ?_⟩
        have el : decide (V.int ((xs.length : Nat) : Int) = V.int ((ys.length : Nat) : Int)) = decide (xs.length = p.length) := decide_eq_decide.mpr ⟨fun z => by have := V.int.inj z; omega, fun z => by rw [z, l2]⟩
        rw [el]
        by_cases hl : xs.length = p.length
        case neg =>
          rw [decide_eq_false hl]
          refine iteF ?_
          have z := fin H4 s34
          unfold fit at z
          rw [decide_eq_false hl, Bool.false_and] at z
          exact z
        rw [decide_eq_true hl]
        refine iteT ⟨_, rfl, Nat.zero_le _, fun e ne => ?_⟩
        have hD5 := same_new (u := .lst []) (fun _ _ z => z) ne _ _ hD4
        rw [intsV_map] at hD5
        refine ⟨.list _, .list [], .lst (SqL.of hD5) (ints_dp _), .lst (SqL.of upd_same) .nil, ints_shaped _, by decide +kernel, ?_⟩
        rw [ints_none, List.isEmpty_map, badF_none hmin]
        have z := fin _ (same_new (u := .lst []) s34 ne)
        unfold fit at z
        rw [decide_eq_true hl, Bool.true_and] at z
        exact z
end
end Toy


namespace L2
open PySem PySem.Spec PyProof.Rows
/-! The law's own def, run by its caller alone (so that what runs around it is known: repr asks that). -/
/-- the body of the law, in the caller's surroundings -/
def BodyOk (P : Program) (w : World) (K : PySem.W.Frag) (mg : Str → Option Value) (base : Heap) (k : Nat) (N : List Str) (qual : Str) (sc : Scope) (body : List Stmt) (f : Addr) (sp : Sp) : Prop :=
  ∀ (cdv : Value) (s : Shared) (H : Hp) (vs : List V) (Q : VK) (E : XK), Room k (callerA.deeper (envOfC qual sc s.heap.objs.size f cdv)) → sp vs H Q E →
    ∃ t, PSs (cxOf CX0 P w K mg base N qual sc f cdv callerA [] s H E) body t ∧ t { nx := fun _ H' => Q .non H', rt := Q } (start N vs) H
section
variable {P : Program} {w : World} {K : PySem.W.Frag} {mg : Str → Option Value} {base : Heap} {k : Nat} {f : Addr} {x qual : Str} {params : Arguments} {body : List Stmt} {sc : Scope} {N ps : List Str} {sp : Sp} {fd : FuncData}
theorem body_run (F : FunD K x qual params body sc [] [] f fd) (S : FnScope N ps sc) (B : BodyOk P w K mg base k N qual sc body f sp) {s : Shared} {H : Hp} {args : Args} {us : List Value} {vs : List V} {Q : VK} {E : XK} (hr : Room (k + 1) callerA)
    (e0 : Env0 P w K mg base callerA [] s H) (hb : BindsTo s fd args (ps.zip us)) (r : Vals vs us) (hl : vs.length = ps.length) (h : sp vs H Q E) : codeAny (model P w) callerA (.call (.ref f) args) (CR CX0 [] P w H s Q E) s := by
  obtain ⟨oc, od, dV, kV, doc, pm, an, cdv, ct, osl, rfl, lk, hcd, _, _⟩ := F.ex
  have up : ∀ b o, base.get? b = some o → s.heap.get? b = some o := fun b o e => (e0.bs b o e).1
  have KX : K.In s.heap := e0.mod.kin.keeps up
  have kinds : ∀ y ∈ ps.zip us, sc.names.lookup y.1 = some .local ∨ (sc.names.lookup y.1 = some .cell ∧ ((cellsFrom (s.heap.objs.size + 1) sc.names []).lookup y.1).isSome = true) := by
    rintro ⟨n, v⟩ hy
    exact (S.par n (List.of_mem_zip hy).1).imp id fun q => ⟨q, PySem.W.cellsFrom_some _ _ _ (.inl q)⟩
  refine codeAny_call_function hr.depth (KX _ _ lk) rfl S.co S.gen rfl (PySem.W.codeRec_of KX hcd) (hb _ _ _ _ (wpAny_newFunctionEnv_cells S.kind kinds fun env he s1 x => ?_))
  subst he
  obtain ⟨t, ht, hq⟩ := B cdv s H vs Q E (hr.deeper _) h
  refine ⟨(e0.mod.nolimit.keeps up).keeps x.toInCall.keep, codeAny_func (wpAny_mono (ht.run [] s1 (start N vs) H _ (inv_start S hr.hd e0 hl r x) hq) (fun fl s' hs => ?_) fun e s' hs => hs)⟩
  cases fl with
  | ret u =>
    obtain ⟨v, σ', H', J, rv, q⟩ := hs
    exact ⟨v, H', J.os, J.bare, J.base, J.hok, rv, q⟩
  | next =>
    obtain ⟨σ', H', J, q⟩ := hs
    exact ⟨V.non, H', J.os, J.bare, J.base, J.hok, rfl, q⟩
  | brk =>
    obtain ⟨_, _, _, q⟩ := hs
    exact False.elim q
  | cont =>
    obtain ⟨_, _, _, q⟩ := hs
    exact False.elim q
end
end L2
namespace L2
open PySem PySem.Spec PyProof.Rows
section
variable {P : Program} {w : World} {K : PySem.W.Frag} {mg mb : Str → Option Value} {k : Nat} {a fa : Addr} {x qual nm : Str} {params : Arguments} {body : List Stmt} {sc : Scope} {N : List Str} {sp : Sp} {fd : FuncData} {s : Shared} {vs : List Value} {ns : List Int}
/-- where the abstract heap tracks the script alone (or nothing) -/
theorem ground_of {H : Hp} (KX : K.In s.heap) (g : s.heap.Ns mainGlobals mg) (b : s.heap.Ns builtinsNs mb) (bb : ∀ x : Str, x ≠ "__name__" → mb x = bootBuiltins x) (lim : s.heap.NoLimit) (gen : s.gens = #[])
    (ha : s.heap.get? a = some { cls := .type "list", data := .seq vs.toArray }) (hok : HOk P w H s.heap) (only : ∀ c, H c ≠ none → c = a) (out : H a ≠ none → K.lookup a = none) :
    ∃ base : Heap, K.In base ∧ base.Ns mainGlobals mg ∧ Env0 P w K mg base callerA [] s H := by
  have get : ∀ {c : Addr} {o : Obj}, s.heap.get? c = some o → H c = none → (hidT s.heap H).get? c = some o := fun e n => hidT_get e n
  have tab : ∀ {c : Addr} {m : Str → Option Value}, s.heap.Ns c m → (hidT s.heap H).Ns c m := by
    rintro c m ⟨o, es, ep, e, d, r⟩
    refine ⟨o, es, ep, get e (Classical.byContradiction fun q => ?_), d, r⟩
    have ca := only c q
    subst ca
    rw [ha] at e
    cases e
    cases (show Data.seq vs.toArray _ = Data.dict es ep from d)
  have kin : K.In (hidT s.heap H) := fun c o e => get (KX c o e) (Classical.byContradiction fun q => by
    have ca := only c q
    subst ca
    rw [out q] at e
    cases e)
  obtain ⟨mc, l1, l2⟩ := lim
  exact ⟨hidT s.heap H, kin, tab g, rfl, ⟨kin, tab g, ⟨mb, tab b, bb⟩, mc, tab l1, l2⟩, fun c o e => of_hidT e, Nat.le_of_eq (hidT_size _ _), trivial, (fun c hc => nomatch hc), hok, .of_eq gen⟩
theorem law_run (F : FunD K nm qual params body sc [] [] fa fd) (S : FnScope N [x] sc) (B : ∀ base : Heap, K.In base → base.Ns mainGlobals mg → BodyOk P w K mg base k N qual sc body fa sp) (hb : ∀ (s : Shared) (u : Value), BindsTo s fd ⟨[u], []⟩ [(x, u)]) (hr : Room (k + 1) callerA)
    (hsp : ∀ H : Hp, SqL K H a (ns.map V.int) → sp [.ref a] H (fun v _ => v = .bl true) fun _ _ _ => False)
    (KX : K.In s.heap) (g : s.heap.Ns mainGlobals mg) (b : s.heap.Ns builtinsNs mb) (bb : ∀ x : Str, x ≠ "__name__" → mb x = bootBuiltins x) (lim : s.heap.NoLimit) (gen : s.gens = #[])
    (ha : s.heap.get? a = some { cls := .type "list", data := .seq vs.toArray }) (hi : IntsAre vs ns) (hl : ns.length ≤ sizeLine) :
    codeAny (model P w) callerA (.call (.ref fa) ⟨[.ref a], []⟩) (fun r s' => r = .ok (.ret (.bool true)) ∧ OldK s.heap s'.heap ∧ s'.os = s.os ∧ AllBare s'.gens) s := by
  have run : ∀ H : Hp, SqL K H a (ns.map V.int) → HOk P w H s.heap → (∀ c, H c ≠ none → c = a) → (H a ≠ none → K.lookup a = none) → (∀ c u, H c = some u → ∃ o xs, u = .frz o (.lst xs)) →
      codeAny (model P w) callerA (.call (.ref fa) ⟨[.ref a], []⟩) (fun r s' => r = .ok (.ret (.bool true)) ∧ OldK s.heap s'.heap ∧ s'.os = s.os ∧ AllBare s'.gens) s := by
    intro H hS hok only out frz
    obtain ⟨base, k1, k2, e0⟩ := ground_of KX g b bb lim gen ha hok only out
    refine codeAny_mono (body_run (us := [.ref a]) (vs := [.ref a]) F S (B base k1 k2) hr e0 (hb s (.ref a)) (.cons rfl .nil) rfl (hsp H hS)) fun r s' q => ?_
    cases r with
    | error e => exact False.elim q
    | ok fl =>
      cases fl with
      | next => exact False.elim q
      | brk => exact False.elim q
      | cont => exact False.elim q
      | ret u =>
        obtain ⟨v, H', os, bare, un, hok', rv, ev⟩ := q
        have ev' : v = .bl true := ev
        subst ev'
        obtain rfl : u = Value.bool true := rv
        refine ⟨rfl, OldK.of_keep fun c o e => ?_, os, bare⟩
        cases q : H c with
        | none => exact un.keep c o e q (fun z => nomatch z) (fun z => nomatch z)
        | some u =>
          obtain ⟨ob, xs, rfl⟩ := frz c u q
          obtain ⟨e1, _⟩ := hok c _ q
          obtain ⟨e2, _⟩ := hok' c _ (un.frzs c ob _ q)
          rw [e] at e1
          cases e1
          exact e2
  have rv := vals_ints hi
  cases hk : K.lookup a with
  | some o =>
    have e := KX a o hk
    rw [ha] at e
    cases e
    exact run (fun _ => none) (.inr ⟨_, vs.toArray, _, hk, rfl, rfl, rfl, by rw [List.size_toArray, hi.length]; exact hl, by simpa using rv⟩) (fun c u z => nomatch z) (fun c z => absurd rfl z) (fun z => absurd rfl z) fun c u z => nomatch z
  | none =>
    refine run (fun c => if c = a then some (.frz { cls := .type "list", data := .seq vs.toArray } (.lst (ns.map V.int))) else none) (.inl (.inr ⟨{ cls := .type "list", data := .seq vs.toArray }, if_pos rfl⟩)) (fun c u z => ?_)
      (fun c z => Classical.byContradiction fun q => z (if_neg q)) (fun _ => hk) fun c u z => ?_
    · by_cases hc : c = a
      · have z' := (if_pos hc).symm.trans z
        cases z'
        subst hc
        exact ⟨ha, by rw [List.length_map]; exact hl, vs, _, rv, ha⟩
      · cases (if_neg hc).symm.trans z
    · by_cases hc : c = a
      · cases (if_pos hc).symm.trans z
        exact ⟨_, _, rfl⟩
      · cases (if_neg hc).symm.trans z
end
/-- the end -/
theorem walkG {l : PySem.W.OpenLaw} {n k : Nat} {q : Program} {loose : List Str} {XP : (Str → Option Value) → Heap → Prop} {YP : World → Heap → Prop} {d : DefRec} {x : Str} (hn : l.most = some n) (hn2 : n ≤ sizeLine) (hdf : d.params.defaults = []) (hr : Room (k + 1) callerA)
    (F : ∀ (w : World) (mg : Str → Option Value) (fa : Addr) (h : Heap), YP w h → h.Ns mainGlobals mg → mg d.name = some (.ref fa) →
      ∃ (K : PySem.W.Frag) (fd : FuncData) (nm qual : Str) (params : Arguments) (body : List Stmt) (sc : Scope) (N : List Str) (sp : Sp), K.In h ∧ FunD K nm qual params body sc [] [] fa fd ∧ FnScope N [x] sc ∧ (∀ (s : Shared) (u : Value), BindsTo s fd ⟨[u], []⟩ [(x, u)]) ∧
        (∀ (H : Hp) (a : Addr) (ns : List Int), ns.length ≤ n → SqL K H a (ns.map V.int) → sp [.ref a] H (fun v _ => v = .bl true) fun _ _ _ => False) ∧
        ∀ base : Heap, K.In base → base.Ns mainGlobals mg → BodyOk l.prog w K mg base k N qual sc body fa sp) :
    PySem.W.WalkO q loose XP YP l.row.toRowW d [] (fun f vs => PySem.call f vs) := by
  refine Att.attach_call hn hdf fun w s₀ s₁ mg mb fa o pm cd doc a vs ns G Y ho hd hcd hmg hobj hints hlen hg => ?_
  obtain ⟨K, fd, nm, qual, params, body, sc, N, sp, KX, FD, S, hb, hsp, B⟩ := F w mg fa _ Y G.T.g hmg
  exact law_run FD S B hb hr (fun H hS => hsp H a ns hlen hS) KX G.T.g G.T.b G.T.builtins G.T.nolimit hg hobj hints (Nat.le_trans hlen hn2)
end L2


namespace Toy
open PySem PySem.Spec L2 PyProof.Rows
abbrev NLw : List Str := ["_law_script", "_law_tape", "_law_turn", "_law_keys_here", "_law_one", "_law_other", "_law_wide", "_law_wider", "_law_front", "_law_end", "_law_place", "_law_step_here"]
theorem scLw : FnScope NLw ["_law_script"] (defScope sLaw) := ⟨rfl, rfl, rfl, by decide +kernel, rfl, by decide +kernel, by decide +kernel⟩
def spLaw (K : PySem.W.Frag) : Sp := fun vs H Q _ => ∃ (a : Addr) (ns : List Int), vs = [.ref a] ∧ SqL K H a (ns.map V.int) ∧ ns.length ≤ 63 ∧ ∀ H', Q (.bl true) H'
structure LawT (mg : Str → Option Value) : Prop where
  len : mg "len" = none
  range : mg "range" = none
  repr : mg "repr" = none
  tup : mg "tuple" = none
/-- two patterns, in a pair -/
def PairAt (H : Hp) (v : V) : Prop := ∃ (t x y : Addr) (p q : List Stp), v = .ref t ∧ H t = some (.tup [.ref x, .ref y]) ∧ PatAt H x p ∧ PatAt H y q ∧ p.length ≤ 20 ∧ q.length ≤ 20
theorem PairAt.mono {H H' : Hp} {v : V} (k : TK H H') (h : PairAt H v) : PairAt H' v := by
  obtain ⟨t, x, y, p, q, e, ht, hx, hy, l⟩ := h
  exact ⟨t, x, y, p, q, e, k _ _ ht, hx.mono k, hy.mono k, l⟩
theorem cut_rest {R : Hp → Prop} {J : Hp} {G : Prop} (main : (∀ H', Same J H' → R H') → G) (rest : ∀ H', Same J H' → R H') : G := main rest
theorem cov_len {p q : List Stp} (h : cov p q = true) : p.length ≤ q.length := (cov_iff.mp h).1
def tPlace (K : PySem.W.Frag) : TE := tCall spPick [] E0 (tCons (tVar 1) (tCons (tLst (tCons (tOp (rIxL K) (tVar 3) (tC (.int 0))) (tCons (tOp (rIxL K) (tVar 3) (tC (.int 1))) (tCons (tC (.int 0)) (tCons (tC (.int 12)) (tCons (tC (.str "a")) (tCons (tC (.int 3)) tNil))))))) tNil))
section
variable {P : Program} {w : World} {K : PySem.W.Frag} {mg : Str → Option Value} {base : Heap}
theorem body_law {f fB fK fT fO fC fV fF fP : Addr} {dB dK dT dO dC dV dF dP : FuncData} (L : LawT mg)
    (GB : FnOk P w K mg base CX0 1 fB dB ["_law_script"] (spBegin K)) (mB : mg "_law_begin" = some (.ref fB)) (kB : PySem.W.keepIn K (.ref fB) = true) (bB : Binds K dB ["_law_script"] [])
    (GK : FnOk P w K mg base CX0 3 fK dK ["_law_tape"] spKeys) (mK : mg "_law_keys" = some (.ref fK)) (kK : PySem.W.keepIn K (.ref fK) = true) (bK : Binds K dK ["_law_tape"] [])
    (GT : FnOk P w K mg base CX0 4 fT dT ["_law_tape", "_law_keys_here"] spPat) (mT : mg "_law_pattern" = some (.ref fT)) (kT : PySem.W.keepIn K (.ref fT) = true) (bT : Binds K dT ["_law_tape", "_law_keys_here"] [])
    (GO : FnOk P w K mg base CX0 3 fO dO ["_law_tape", "_law_pattern_here"] spLoose) (mO : mg "_law_loosened" = some (.ref fO)) (kO : PySem.W.keepIn K (.ref fO) = true) (bO : Binds K dO ["_law_tape", "_law_pattern_here"] [])
    (GC : FnOk P w K mg base CX0 3 fC dC ["one", "other"] spCV) (mC : mg "covers" = some (.ref fC)) (kC : PySem.W.keepIn K (.ref fC) = true) (bC : Binds K dC ["one", "other"] [])
    (GV : FnOk P w K mg base CX0 1 fV dV ["_law_one", "_law_other"] spCV) (mV : mg "_law_covers" = some (.ref fV)) (kV : PySem.W.keepIn K (.ref fV) = true) (bV : Binds K dV ["_law_one", "_law_other"] [])
    (GF : FnOk P w K mg base CX0 1 fF dF ["_law_place", "_law_pattern_here"] spFits) (mF : mg "_law_fits" = some (.ref fF)) (kF : PySem.W.keepIn K (.ref fF) = true) (bF : Binds K dF ["_law_place", "_law_pattern_here"] [])
    (GP : FnOk P w K mg base CX0 2 fP dP ["_law_tape", "_law_items"] spPick) (mP : mg "_law_pick" = some (.ref fP)) (kP : PySem.W.keepIn K (.ref fP) = true) (bP : Binds K dP ["_law_tape", "_law_items"] []) :
    BodyOk P w K mg base 4 NLw "law" (defScope sLaw) (defBody sLaw) f (spLaw K) := by
  intro cdv s H vs Q E hr h
  obtain ⟨a, ns, rfl, hS, hlen, q⟩ := h
  have hr1 : Room 1 (callerA.deeper (PyProof.Rows.envOfC "law" (defScope sLaw) s.heap.objs.size f cdv)) := hr.mono (by decide)
  have hr2 : Room 2 (callerA.deeper (PyProof.Rows.envOfC "law" (defScope sLaw) s.heap.objs.size f cdv)) := hr.mono (by decide)
  have hr3 : Room 3 (callerA.deeper (PyProof.Rows.envOfC "law" (defScope sLaw) s.heap.objs.size f cdv)) := hr.mono (by decide)
  refine ⟨_, PSs.nox (pss_cons (ps_set (i := 1) scLw.nd rfl (Or.inr rfl) (pe_call GB hr1 (by rfl) mB kB bB .nil pass0 (pa_cons (pv 0) pa_nil)))
    (pss_cons (ps_for PassesOwn.never rfl (pi_range1 (by rfl) L.range (pa_cons pe_int pa_nil)) (pg_name (i := 2) scLw.nd rfl (Or.inl rfl))
      (pss_cons (ps_set (i := 3) scLw.nd rfl (Or.inr rfl) (pe_call GK hr3 (by rfl) mK kK bK .nil pass0 (pa_cons (pv 1) pa_nil)))
      (pss_cons (ps_par (i := 4) (j := 5) rfl scLw.nd rfl rfl (by decide) rfl rfl (pa_cons (pe_call GT hr (by rfl) mT kT bT .nil pass0 (pa_cons (pv 1) (pa_cons (pv 3) pa_nil))) (pa_cons (pe_call GT hr (by rfl) mT kT bT .nil pass0 (pa_cons (pv 1) (pa_cons (pv 3) pa_nil))) pa_nil)) (by rfl))
      (pss_cons (ps_set (i := 6) scLw.nd rfl (Or.inl rfl) (pe_call GO hr3 (by rfl) mO kO bO .nil pass0 (pa_cons (pv 1) (pa_cons (pv 5) pa_nil))))
      (pss_cons (ps_set (i := 7) scLw.nd rfl (Or.inl rfl) (pe_call GO hr3 (by rfl) mO kO bO .nil pass0 (pa_cons (pv 1) (pa_cons (pv 6) pa_nil))))
      (pss_cons (ps_for PassesOwn.never rfl (pi_list (pe_lst (pa_cons (pe_tup (pa_cons (pv 4) (pa_cons (pv 5) pa_nil))) (pa_cons (pe_tup (pa_cons (pv 5) (pa_cons (pv 4) pa_nil))) (pa_cons (pe_tup (pa_cons (pv 6) (pa_cons (pv 5) pa_nil))) (pa_cons (pe_tup (pa_cons (pv 5) (pa_cons (pv 6) pa_nil))) (pa_cons (pe_tup (pa_cons (pv 7) (pa_cons (pv 5) pa_nil))) (pa_cons (pe_tup (pa_cons (pv 7) (pa_cons (pv 4) pa_nil))) pa_nil))))))))
          (pg_tup rfl (pgs_cons (pg_name (i := 8) scLw.nd rfl (Or.inl rfl)) (pgs_cons (pg_name (i := 9) scLw.nd rfl (Or.inl rfl)) pgs_nil)))
        (pss_one (ps_if (pt_cmpR op_ne (pe_callB call_reB (by rfl) L.repr PyProof.Rows.boot_repr (pa_cons (pe_call GC hr3 (by rfl) mC kC bC .nil pass0 (pa_cons (pv 8) (pa_cons (pv 9) pa_nil))) pa_nil)) (pe_callB call_reB (by rfl) L.repr PyProof.Rows.boot_repr (pa_cons (pe_call GV hr1 (by rfl) mV kV bV .nil pass0 (pa_cons (pv 8) (pa_cons (pv 9) pa_nil))) pa_nil)) (nomark _)) (pss_one (ps_ret pe_bl)) pss_nil)))
      (pss_cons (ps_if (PW.pt (pw_or (pt_not (pt_val (pe_call GC hr3 (by rfl) mC kC bC .nil pass0 (pa_cons (pv 4) (pa_cons (pv 4) pa_nil))))) (pw_or (pt_not (pt_val (pe_call GC hr3 (by rfl) mC kC bC .nil pass0 (pa_cons (pe_tup pa_nil) (pa_cons (pv 4) pa_nil)))))
          (pw_or (pt_not (pt_val (pe_call GC hr3 (by rfl) mC kC bC .nil pass0 (pa_cons (pv 6) (pa_cons (pv 5) pa_nil))))) (pw_or1 (pt_not (pt_val (pe_call GC hr3 (by rfl) mC kC bC .nil pass0 (pa_cons (pv 7) (pa_cons (pv 5) pa_nil)))))))))) (pss_one (ps_ret pe_bl)) pss_nil)
      (pss_cons (ps_if (PW.pt (pw_and (pt_val (pe_call GC hr3 (by rfl) mC kC bC .nil pass0 (pa_cons (pv 4) (pa_cons (pv 5) pa_nil)))) (pw_and (pt_val (pe_call GC hr3 (by rfl) mC kC bC .nil pass0 (pa_cons (pv 5) (pa_cons (pv 4) pa_nil)))) (pw_and1 (pt_cmpR (op_neD hr1.units) (pv 4) (pv 5) (nomark _)))))) (pss_one (ps_ret pe_bl)) pss_nil)
      (pss_cons (ps_if (PW.pt (pw_and (pt_val (pe_call GC hr3 (by rfl) mC kC bC .nil pass0 (pa_cons (pv 4) (pa_cons (pv 5) pa_nil)))) (pw_and (pt_val (pe_call GC hr3 (by rfl) mC kC bC .nil pass0 (pa_cons (pv 5) (pa_cons (pv 6) pa_nil)))) (pw_and1 (pt_not (pt_val (pe_call GC hr3 (by rfl) mC kC bC .nil pass0 (pa_cons (pv 4) (pa_cons (pv 6) pa_nil))))))))) (pss_one (ps_ret pe_bl)) pss_nil)
      (pss_cons (ps_set (i := 10) scLw.nd rfl (Or.inl rfl) (pe_callTy call_tuple_of (by rfl) L.tup (by decide +kernel) (pa_cons (pe_lc (own := [("_law_step_here", 11)]) (g := gName 11) (te := tPlace K) (by rfl) scLw.nd (pi_tup (pv 5))
          (blkOk_by (own := [("_law_step_here", 11)]) (N := NLw) (sc := defScope sLaw) (by decide +kernel)) (fun _ _ _ _ _ => pg_name (i := 11) scLw.nd rfl (Or.inl rfl)) (fun _ _ _ _ _ => pts_nil)
          (fun _ _ _ _ _ => pe_call GP hr2 (by rfl) mP kP bP .nil pass0 (pa_cons (pv 1) (pa_cons (pe_lst (pa_cons (pe_ix ix_list (pv 3) pe_int (fun _ _ => rfl)) (pa_cons (pe_ix ix_list (pv 3) pe_int (fun _ _ => rfl)) (pa_cons pe_int (pa_cons pe_int (pa_cons pe_str (pa_cons pe_int pa_nil))))))) pa_nil)))) pa_nil)))
      (pss_one (ps_if (PW.pt (pw_and (pt_val (pe_call GF hr1 (by rfl) mF kF bF .nil pass0 (pa_cons (pv 10) (pa_cons (pv 5) pa_nil)))) (pw_and1 (pt_not (pt_val (pe_call GF hr1 (by rfl) mF kF bF .nil pass0 (pa_cons (pe_slice sl_tupA (pv 10) po_none (po_some (pe_callB call_len_seq (by rfl) L.len PySem.boot_len (pa_cons (pv 6) pa_nil)))) (pa_cons (pv 6) pa_nil)))))))) (pss_one (ps_ret pe_bl)) pss_nil))))))))))))
    (pss_one (ps_ret pe_bl)))), ?_⟩
  refine ⟨_, rfl, a, ns, rfl, hS, hlen, fun H1 d l s1 nd nl nld hT => ?_⟩
  refine ⟨20, rfl, by decide, by decide, ?_⟩
  refine for_range (lo := 0) (n := 20) (fun i σ H' => ∃ v2 v3 v4 v5 v6 v7 v8 v9 v10 : Option V, σ = [some (.ref a), some (.ref d), v2, v3, v4, v5, v6, v7, v8, v9, v10, none] ∧ Tape H' d l (60 * i)) ⟨_, _, _, _, _, _, _, _, _, rfl, hT⟩ ?_ ?_
  · rintro i σ H0 hi ⟨v2, v3, v4, v5, v6, v7, v8, v9, v10, rfl, t0⟩
    refine ⟨_, rfl, d, l, 60 * i, rfl, t0, by omega, fun H1 R k0 k1 b1 t1 nR hR w0 w1 => ?_⟩
    have rd := t1.neL hR
    refine ⟨_, rfl, _, rfl, d, l, R, _, k0, k1, rfl, t1, by omega, hR, w0, w1, fun H2 a1 p1 b2 t2 P1 lp1 => ?_⟩
    have hR2 := b2 _ _ rd hR
    refine ⟨_, rfl, _, rfl, d, l, R, _, k0, k1, rfl, t2, by omega, hR2, w0, w1, fun H3 a2 p2 b3 t3 P2 lp2 => ⟨_, _, rfl, ?_⟩⟩
    have P1 := P1.mono (b3.tk t2)
    have hR3 := b3 _ _ rd hR2
    refine ⟨_, rfl, _, rfl, d, l, a2, _, p2, rfl, t3, by omega, P2, lp2, fun H4 a3 p3 b4 t4 P3 c3 => ?_⟩
    have P1 := P1.mono (b4.tk t3)
    have P2 := P2.mono (b4.tk t3)
    have hR4 := b4 _ _ rd hR3
    have lp3 := cov_len c3
    refine ⟨_, rfl, _, rfl, d, l, a3, _, p3, rfl, t4, by omega, P3, by omega, fun H5 a4 p4 b5 t5 P4 c4 => ?_⟩
    have P1 := P1.mono (b5.tk t4)
    have P2 := P2.mono (b5.tk t4)
    have P3 := P3.mono (b5.tk t4)
    have hR5 := b5 _ _ rd hR4
    have lp4 := cov_len c4
    have c42 := cov_trans c4 c3
    refine ⟨_, rfl, _, rfl, few (by show 2 ≤ 1000; decide), fun e1 n1 => ?_⟩
    have s1 : Same H5 (upd H5 e1 (.tup [.ref a1, .ref a2])) := same_new (fun _ _ z => z) n1
    have g1 : (upd H5 e1 (.tup [.ref a1, .ref a2])) e1 = some (.tup [.ref a1, .ref a2]) := upd_same
    generalize upd H5 e1 (.tup [.ref a1, .ref a2]) = J1 at s1 g1 ⊢
    refine ⟨_, rfl, _, rfl, few (by show 2 ≤ 1000; decide), fun e2 n2 => ?_⟩
    have s2 : Same J1 (upd J1 e2 (.tup [.ref a2, .ref a1])) := same_new (fun _ _ z => z) n2
    have g2 : (upd J1 e2 (.tup [.ref a2, .ref a1])) e2 = some (.tup [.ref a2, .ref a1]) := upd_same
    generalize upd J1 e2 (.tup [.ref a2, .ref a1]) = J2 at s2 g2 ⊢
    refine ⟨_, rfl, _, rfl, few (by show 2 ≤ 1000; decide), fun e3 n3 => ?_⟩
    have s3 : Same J2 (upd J2 e3 (.tup [.ref a3, .ref a2])) := same_new (fun _ _ z => z) n3
    have g3 : (upd J2 e3 (.tup [.ref a3, .ref a2])) e3 = some (.tup [.ref a3, .ref a2]) := upd_same
    generalize upd J2 e3 (.tup [.ref a3, .ref a2]) = J3 at s3 g3 ⊢
    refine ⟨_, rfl, _, rfl, few (by show 2 ≤ 1000; decide), fun e4 n4 => ?_⟩
    have s4 : Same J3 (upd J3 e4 (.tup [.ref a2, .ref a3])) := same_new (fun _ _ z => z) n4
    have g4 : (upd J3 e4 (.tup [.ref a2, .ref a3])) e4 = some (.tup [.ref a2, .ref a3]) := upd_same
    generalize upd J3 e4 (.tup [.ref a2, .ref a3]) = J4 at s4 g4 ⊢
    refine ⟨_, rfl, _, rfl, few (by show 2 ≤ 1000; decide), fun e5 n5 => ?_⟩
    have s5 : Same J4 (upd J4 e5 (.tup [.ref a4, .ref a2])) := same_new (fun _ _ z => z) n5
    have g5 : (upd J4 e5 (.tup [.ref a4, .ref a2])) e5 = some (.tup [.ref a4, .ref a2]) := upd_same
    generalize upd J4 e5 (.tup [.ref a4, .ref a2]) = J5 at s5 g5 ⊢
    refine ⟨_, rfl, _, rfl, few (by show 2 ≤ 1000; decide), fun e6 n6 => ?_⟩
    have s6 : Same J5 (upd J5 e6 (.tup [.ref a4, .ref a1])) := same_new (fun _ _ z => z) n6
    have g6 : (upd J5 e6 (.tup [.ref a4, .ref a1])) e6 = some (.tup [.ref a4, .ref a1]) := upd_same
    generalize upd J5 e6 (.tup [.ref a4, .ref a1]) = J6 at s6 g6 ⊢
    refine ⟨few (by show 6 ≤ 1000; decide), fun W nW => ?_⟩
    have s7 : Same J6 (upd J6 W (.lst [.ref e1, .ref e2, .ref e3, .ref e4, .ref e5, .ref e6])) := same_new (fun _ _ z => z) nW
    have hW : (upd J6 W (.lst [.ref e1, .ref e2, .ref e3, .ref e4, .ref e5, .ref e6])) W = some (.lst [.ref e1, .ref e2, .ref e3, .ref e4, .ref e5, .ref e6]) := upd_same
    generalize upd J6 W (.lst [.ref e1, .ref e2, .ref e3, .ref e4, .ref e5, .ref e6]) = J at s7 hW ⊢
    have s57 : Same H5 J := s1.trans (s2.trans (s3.trans (s4.trans (s5.trans (s6.trans s7)))))
    have P1 := P1.mono (Same.tk s57)
    have P2 := P2.mono (Same.tk s57)
    have P3 := P3.mono (Same.tk s57)
    have P4 := P4.mono (Same.tk s57)
    have tJ := t5.same s57
    have hRJ := s57 _ _ hR5
    have prs : ∀ v ∈ [V.ref e1, .ref e2, .ref e3, .ref e4, .ref e5, .ref e6], PairAt J v := by
      intro v hv
      simp only [List.mem_cons, List.not_mem_nil, or_false] at hv
      rcases hv with e | e | e | e | e | e
      · exact ⟨e1, a1, a2, p1, p2, e, s7 _ _ (s6 _ _ (s5 _ _ (s4 _ _ (s3 _ _ (s2 _ _ g1))))), P1, P2, by omega, by omega⟩
      · exact ⟨e2, a2, a1, p2, p1, e, s7 _ _ (s6 _ _ (s5 _ _ (s4 _ _ (s3 _ _ g2)))), P2, P1, by omega, by omega⟩
      · exact ⟨e3, a3, a2, p3, p2, e, s7 _ _ (s6 _ _ (s5 _ _ (s4 _ _ g3))), P3, P2, by omega, by omega⟩
      · exact ⟨e4, a2, a3, p2, p3, e, s7 _ _ (s6 _ _ (s5 _ _ g4)), P2, P3, by omega, by omega⟩
      · exact ⟨e5, a4, a2, p4, p2, e, s7 _ _ (s6 _ _ g5), P4, P2, by omega, by omega⟩
      · exact ⟨e6, a4, a1, p4, p1, e, s7 _ _ g6, P4, P1, by omega, by omega⟩
    refine ⟨W, rfl, ⟨_, SqL.of hW⟩, for_list (K := K) (a := W) (xs := [.ref e1, .ref e2, .ref e3, .ref e4, .ref e5, .ref e6]) (fun k σ H' => ∃ v8 v9 : Option V, σ = [some (.ref a), some (.ref d), some (.int (0 + (i : Int))), some (.ref R), some (.ref a1), some (.ref a2), some (.ref a3), some (.ref a4), v8, v9, v10, none] ∧ Same J H')
      ⟨_, _, rfl, fun _ _ z => z⟩ (fun k σ H' _ ⟨_, _, _, s⟩ => SqL.of (s _ _ hW)) ?_ ?_⟩
    · rintro k v σ H6 hk ⟨v8, v9, rfl, s6⟩
      obtain ⟨t, x, y, p, q', rfl, ht, hx, hy, lx, ly⟩ := (prs v (List.mem_of_getElem? hk)).mono (Same.tk s6)
      refine ⟨t, _, rfl, SqT.of ht, rfl, _, _, rfl, _, _, rfl, rfl, ?_⟩
      refine ⟨_, rfl, _, rfl, x, y, p, q', rfl, hx, hy, lx, ly, fun H7 s7 => ⟨_, rfl, _, rfl, _, rfl, x, y, p, q', rfl, hx.mono (Same.tk s7), hy.mono (Same.tk s7), lx, ly, fun H8 s8 => ⟨_, rfl, rfl, _, rfl, ?_⟩⟩⟩
      exact iteNS rfl ⟨_, _, rfl, s6.trans (s7.trans s8)⟩
    · rintro σ H6 ⟨v8, v9, rfl, s6⟩
      have P1 := P1.mono (Same.tk s6)
      have P2 := P2.mono (Same.tk s6)
      have P3 := P3.mono (Same.tk s6)
      have P4 := P4.mono (Same.tk s6)
      have l1 : p1.length ≤ 20 := by omega
      have l2 : p2.length ≤ 20 := by omega
      have l3 : p3.length ≤ 20 := by omega
      have l4 : p4.length ≤ 20 := by omega
      refine ⟨_, rfl, _, rfl, a1, a1, p1, p1, rfl, P1, P1, l1, l1, fun H7 s7 => ⟨true, by rw [cov_refl], iteF ?_⟩⟩
      refine ⟨Nat.zero_le _, fun e0 n0 => ?_⟩
      have kz : Same H6 (upd H7 e0 (.tup [])) := same_new ‹Same H6 H7› n0
      refine ⟨_, rfl, e0, a1, [], p1, rfl, ⟨[], upd_same, .nil⟩, P1.mono (Same.tk kz), Nat.zero_le _, l1, fun H8 s8 => ⟨true, by rw [cov_nil], iteF ?_⟩⟩
      have k8 := kz.trans s8
      refine ⟨_, rfl, _, rfl, a3, a2, p3, p2, rfl, P3.mono (Same.tk k8), P2.mono (Same.tk k8), l3, l2, fun H9 s9 => ⟨true, by rw [c3], iteF ?_⟩⟩
      have k9 := k8.trans s9
      refine ⟨_, rfl, _, rfl, a4, a2, p4, p2, rfl, P4.mono (Same.tk k9), P2.mono (Same.tk k9), l4, l2, fun H10 s10 => ⟨true, by rw [c42], iteF ?_⟩⟩
      have k10 := k9.trans s10
      have P1 := P1.mono (Same.tk k10)
      have P2 := P2.mono (Same.tk k10)
      have P3 := P3.mono (Same.tk k10)
      have tX := tJ.same (s6.trans k10)
      have hRX := s6.trans k10 _ _ hRJ
      apply cut_rest (J := H10)
      · intro rest
        refine ⟨_, rfl, _, rfl, a1, a2, p1, p2, rfl, P1, P2, l1, l2, fun G1 z1 => ⟨_, rfl, ?_⟩⟩
        cases e1 : cov p1 p2 with
        | false =>
          refine iteF ?_
          exact rest G1 z1
        | true =>
          refine iteT ⟨_, rfl, _, rfl, a2, a1, p2, p1, rfl, P2.mono (Same.tk z1), P1.mono (Same.tk z1), l2, l1, fun G2 z2 => ⟨_, rfl, ?_⟩⟩
          have z2 := z1.trans z2
          cases e2 : cov p2 p1 with
          | false =>
            refine iteF ?_
            exact rest G2 z2
          | true =>
            have ee := cov_anti e1 e2
            refine iteT ⟨_, rfl, _, rfl, .tuple (p1.map Stp.py), .tuple (p2.map Stp.py), (P1.mono (Same.tk z2)).dp, (P2.mono (Same.tk z2)).dp, pys_shaped P1.ok, pys_shaped P2.ok, _, rfl, ?_⟩
            have ev : PyData.eqv (.tuple (p1.map Stp.py)) (.tuple (p2.map Stp.py)) = true := by
              show PyData.eqvAll (p1.map Stp.py) (p2.map Stp.py) = true
              rw [pys_eqv, ee]
              exact decide_eq_true rfl
            rw [ev]
            exact rest G2 z2
      intro H11 s11
      refine iteF ?_
      have P1 := P1.mono (Same.tk s11)
      have P2 := P2.mono (Same.tk s11)
      have P3 := P3.mono (Same.tk s11)
      have tX := tX.same s11
      have hRX := s11 _ _ hRX
      apply cut_rest (J := H11)
      · intro rest
        refine ⟨_, rfl, _, rfl, a1, a2, p1, p2, rfl, P1, P2, l1, l2, fun G1 z1 => ⟨_, rfl, ?_⟩⟩
        cases e1 : cov p1 p2 with
        | false =>
          refine iteF ?_
          exact rest G1 z1
        | true =>
          refine iteT ⟨_, rfl, _, rfl, a2, a3, p2, p3, rfl, P2.mono (Same.tk z1), P3.mono (Same.tk z1), l2, l3, fun G2 z2 => ⟨_, rfl, ?_⟩⟩
          have z2 := z1.trans z2
          cases e2 : cov p2 p3 with
          | false =>
            refine iteF ?_
            exact rest G2 z2
          | true =>
            refine iteT ⟨_, rfl, _, rfl, a1, a3, p1, p3, rfl, P1.mono (Same.tk z2), P3.mono (Same.tk z2), l1, l3, fun G3 z3 => ⟨true, by rw [cov_trans e1 e2], ?_⟩⟩
            exact rest G3 (z2.trans z3)
      intro H12 s12
      refine iteF ?_
      have P2 := P2.mono (Same.tk s12)
      have P3 := P3.mono (Same.tk s12)
      have tX := tX.same s12
      have hRX := s12 _ _ hRX
      obtain ⟨xs2, ha2, pr2⟩ := id P2
      obtain ⟨xs3, ha3, pr3⟩ := id P3
      have lx2 : xs2.length = p2.length := pr2.length
      have lx3 : xs3.length = p3.length := pr3.length
      have rdX := tX.neL hRX
      refine ⟨_, rfl, a2, rfl, ⟨_, SqT.of ha2⟩, fun D nD => ?_⟩
      obtain ⟨ndD, nlD⟩ := tX.free nD
      refine lc_tup (K := K) (a := a2) (xs := xs2) (fun j H' => ∃ acc : List V, H' D = some (.lst acc) ∧ acc.length = j ∧ (∀ x ∈ acc, PlV x) ∧ But d H12 H' ∧ Tape H' d l (60 * i + 50 + j))
        ⟨[], upd_same, rfl, (fun x hx => nomatch hx), Same.but (same_new (fun _ _ z => z) nD) d, (tX.upd ndD nlD).more (by omega)⟩ ?_ ?_ ?_
      · rintro j H' _ ⟨acc, _, _, _, bb, _⟩
        exact SqT.of (bb _ _ (tX.neT ha2) ha2)
      · rintro j x G1 hx ⟨acc, hD1, lacc, pl, bb, tt⟩
        have hj := get_lt hx
        have hR1 := bb _ _ rdX hRX
        refine ⟨rfl, _, rfl, _, rfl, R, _, _, .str k0, rfl, rfl, SqL.of hR1, rfl, _, rfl, R, _, _, .str k1, rfl, rfl, SqL.of hR1, rfl, few (by show 6 ≤ 1000; decide), fun M nM => ?_⟩
        have sM : Same G1 (upd G1 M (.lst [.str k0, .str k1, .int 0, .int 12, .str "a", .int 3])) := same_new (fun _ _ z => z) nM
        refine ⟨d, l, 60 * i + 50 + j, .ref M, rfl, tt.same sM, by omega, .inl ⟨M, _, rfl, upd_same, (by intro z; cases z), (by show 6 < 1000; decide), fun G2 v b2 t2 mv => ?_⟩⟩
        have hv : PlV v := by
          simp only [List.mem_cons, List.not_mem_nil, or_false] at mv
          rcases mv with e | e | e | e | e | e
          · exact .inl ⟨k0, e, w0.2⟩
          · exact .inl ⟨k1, e, w1.2⟩
          · exact .inr ⟨0, e⟩
          · exact .inr ⟨12, e⟩
          · exact .inl ⟨"a", e, by decide +kernel⟩
          · exact .inr ⟨3, e⟩
        refine ⟨acc, b2 _ _ ndD.symm (sM _ _ hD1), small1000 (by omega), acc ++ [v], upd_same, by rw [List.length_append, lacc]; rfl, fun y hy => ?_, fun b o hb ho => ?_, t2.upd ndD nlD⟩
        · rcases List.mem_append.mp hy with e | e
          · exact pl y e
          · rw [List.mem_singleton.mp e]
            exact hv
        · rw [upd_ne (ne_of_none ho nD)]
          exact b2 _ _ hb (sM _ _ (bb _ _ hb ho))
      · rintro G1 ⟨acc, hD1, lacc, pl, bb, tt⟩
        have P2 := P2.mono (bb.tk tX)
        have P3 := P3.mono (bb.tk tX)
        have ha3 := bb.tk tX _ _ ha3
        refine ⟨D, acc, rfl, .inl ⟨SqL.of hD1, fun e ne => ?_⟩⟩
        have sE : Same G1 (upd G1 e (.tup acc)) := same_new (fun _ _ z => z) ne
        have hE : (upd G1 e (.tup acc)) e = some (.tup acc) := upd_same
        generalize upd G1 e (.tup acc) = G2 at sE hE ⊢
        have P2 := P2.mono (Same.tk sE)
        have P3 := P3.mono (Same.tk sE)
        have ha3 := sE _ _ ha3
        have tE : Tape G2 d l (60 * (i + 1)) := (tt.same sE).more (by omega)
        refine ⟨_, rfl, _, rfl, e, a2, acc, p2, rfl, hE, pl, P2, by omega, l2, fun G3 z3 => ⟨_, rfl, ?_⟩⟩
        cases ef : fit acc p2 with
        | false =>
          refine iteF ?_
          exact ⟨_, _, _, _, _, _, _, _, _, rfl, tE.same z3⟩
        | true =>
          have fc := fit_cut ef c3
          have e1 : HT.sIx acc.length acc.length (some ((xs3.length : Nat) : Int)) = min xs3.length acc.length := HT.sIx_nat _ _ xs3.length
          refine iteT ⟨_, rfl, _, rfl, a3, xs3, rfl, .inr (SqT.of (z3 _ _ ha3)), _, rfl, e, acc, rfl, SqT.of (z3 _ _ hE), fun hw => ?_, fun hw p np => ?_⟩
          · have lw : acc.length ≤ p3.length := by
              have := hw.2
              rw [e1] at this
              omega
            rw [List.take_of_length_le lw] at fc
            refine ⟨_, rfl, e, a3, acc, p3, rfl, z3 _ _ hE, pl, P3.mono (Same.tk z3), by omega, l3, fun G4 z4 => ⟨true, by rw [fc], ?_⟩⟩
            exact ⟨_, _, _, _, _, _, _, _, _, rfl, tE.same (z3.trans z4)⟩
          · have ec : cutV acc none (some ((xs3.length : Nat) : Int)) = acc.take p3.length := by
              rw [cut_take acc (Int.natCast_nonneg _), Int.toNat_natCast, lx3]
            rw [ec]
            have zp : Same G2 (upd G3 p (.tup (acc.take p3.length))) := same_new z3 np
            refine ⟨_, rfl, p, a3, acc.take p3.length, p3, rfl, upd_same, fun x hx => pl x (List.mem_of_mem_take hx), P3.mono (Same.tk zp), by rw [List.length_take]; omega, l3, fun G4 z4 => ⟨true, by rw [fc], ?_⟩⟩
            exact ⟨_, _, _, _, _, _, _, _, _, rfl, tE.same (zp.trans z4)⟩
  · rintro σ H2 ⟨v2, v3, v4, v5, v6, v7, v8, v9, v10, rfl, hT2⟩
    exact q _
end
end Toy


namespace Toy
open PySem PySem.Spec PyProof.Rows L2
/-! ### the head: what the top has written, as one answer -/
def exB (_ : PySem.W.Frag) : Bool := true
def hdOf (x : Str) (st : Stmt) : He.DefD := ⟨(x, none), x, x, defArgs st, defBody st, defScope st, [], []⟩
def fn : List He.DefD := [hdOf "step_covers" sStepC, hdOf "covers_pattern" sCovP, hdOf "covers" sCov, hdOf "_law_begin" sBegin, hdOf "_law_draw" sDraw, hdOf "_law_pick" sPick, hdOf "_law_keys" sKeys, hdOf "_law_step" sStep, hdOf "_law_pattern" sPat, hdOf "_law_loosened" sLoose, hdOf "_law_covers" sLCov, hdOf "_law_fits" sFits, hdOf "law" sLaw]
def fa : List He.Fa := [.glo "step_covers", .glo "covers_pattern", .glo "covers", .glo "_law_begin", .glo "_law_draw", .glo "_law_pick", .glo "_law_keys", .glo "_law_step", .glo "_law_pattern", .glo "_law_loosened", .glo "_law_covers", .glo "_law_fits", .glo "law", .free "len", .free "int", .free "range", .free "min", .free "repr", .free "isinstance", .free "zip", .free "all", .free "str", .free "tuple"]
abbrev R : PySem.W.OpenRow := PySem.W.OpenLaw.row PySem.Challenge.rw_sieveways_k41_patterns_that_cover
abbrev hk : PySem.W.Hook := He.hookX 5 fa fn [] [] exB
def ob (s : PySem.W.SharedT) : He.AlX := He.obsX 5 fa fn [] [] exB (HandSHeadRun.getT s)
theorem ob_eq (s : PySem.W.SharedT) : ob s = hk.obs s.abs := He.obsX_eq (HandSHeadRun.getT_eq s)
def looseN : List Str := ["step_covers", "covers_pattern", "covers", "_law_begin", "_law_draw", "_law_pick", "_law_keys", "_law_step", "_law_pattern", "_law_loosened", "_law_covers", "_law_fits"]
theorem run (w : World) : HandSHeadRun.RunEq R (PySem.W.view R.prog [15]) hk ob 9000 looseN w := by
  intro os
  kernel_rfl
end Toy


namespace Toy
open PySem PySem.Spec PyProof.Rows L2
/-! ### the facts, read off the head's answer -/
theorem fun_of {K : PySem.W.Frag} {x q : Str} {st : Stmt} {f : Addr} {fd : FuncData} (F : FunD K x q (defArgs st) (defBody st) (defScope st) [] [] f fd) : Fun K x q st f fd := by
  obtain ⟨oc, od, dV, kV, doc, pm, an, cdv, ct, osl, rfl, lk, hcd, hD, _⟩ := F.ex
  rcases hD with ⟨_, rfl⟩ | ⟨e, _⟩
  · exact ⟨⟨oc, od, kV, doc, pm, an, cdv, ct, osl, rfl, lk, hcd⟩, F.kp⟩
  · exact absurd rfl e
theorem facts {P : Program} {w : World} {K : PySem.W.Frag} {h : Heap} {mg : Str → Option Value} {f : Addr} (X : K.In h) (G : h.Ns mainGlobals mg) (hfa : mg ("law" : Str) = some (.ref f)) (S : He.SaysX fa fn [] [] exB w h K) :
    ∃ fd : FuncData, FunD K "law" "law" (defArgs sLaw) (defBody sLaw) (defScope sLaw) [] [] f fd ∧ (∀ (s : Shared) (v : Value), BindsTo s fd ⟨[v], []⟩ [("_law_script", v)]) ∧ ∀ base : Heap, K.In base → base.Ns mainGlobals mg → BodyOk P w K mg base 4 NLw "law" (defScope sLaw) (defBody sLaw) f (spLaw K) := by
  obtain ⟨dS, FS⟩ := S.t.d.def_ 0 (d := hdOf "step_covers" sStepC) rfl
  have mS := He.glo_ok X G (S.t.d.fact 0 (f := .glo "step_covers") rfl)
  obtain ⟨dQ, FQ⟩ := S.t.d.def_ 1 (d := hdOf "covers_pattern" sCovP) rfl
  have mQ := He.glo_ok X G (S.t.d.fact 1 (f := .glo "covers_pattern") rfl)
  obtain ⟨dC, FC⟩ := S.t.d.def_ 2 (d := hdOf "covers" sCov) rfl
  have mC := He.glo_ok X G (S.t.d.fact 2 (f := .glo "covers") rfl)
  obtain ⟨dB, FB⟩ := S.t.d.def_ 3 (d := hdOf "_law_begin" sBegin) rfl
  have mB := He.glo_ok X G (S.t.d.fact 3 (f := .glo "_law_begin") rfl)
  obtain ⟨dD, FD⟩ := S.t.d.def_ 4 (d := hdOf "_law_draw" sDraw) rfl
  have mD := He.glo_ok X G (S.t.d.fact 4 (f := .glo "_law_draw") rfl)
  obtain ⟨dP, FP⟩ := S.t.d.def_ 5 (d := hdOf "_law_pick" sPick) rfl
  have mP := He.glo_ok X G (S.t.d.fact 5 (f := .glo "_law_pick") rfl)
  obtain ⟨dK, FK⟩ := S.t.d.def_ 6 (d := hdOf "_law_keys" sKeys) rfl
  have mK := He.glo_ok X G (S.t.d.fact 6 (f := .glo "_law_keys") rfl)
  obtain ⟨dT, FT⟩ := S.t.d.def_ 7 (d := hdOf "_law_step" sStep) rfl
  have mT := He.glo_ok X G (S.t.d.fact 7 (f := .glo "_law_step") rfl)
  obtain ⟨dA, FA⟩ := S.t.d.def_ 8 (d := hdOf "_law_pattern" sPat) rfl
  have mA := He.glo_ok X G (S.t.d.fact 8 (f := .glo "_law_pattern") rfl)
  obtain ⟨dO, FO⟩ := S.t.d.def_ 9 (d := hdOf "_law_loosened" sLoose) rfl
  have mO := He.glo_ok X G (S.t.d.fact 9 (f := .glo "_law_loosened") rfl)
  obtain ⟨dV, FV⟩ := S.t.d.def_ 10 (d := hdOf "_law_covers" sLCov) rfl
  have mV := He.glo_ok X G (S.t.d.fact 10 (f := .glo "_law_covers") rfl)
  obtain ⟨dF, FF⟩ := S.t.d.def_ 11 (d := hdOf "_law_fits" sFits) rfl
  have mF := He.glo_ok X G (S.t.d.fact 11 (f := .glo "_law_fits") rfl)
  obtain ⟨dL, FL⟩ := S.t.d.def_ 12 (d := hdOf "law" sLaw) rfl
  have mL := He.glo_ok X G (S.t.d.fact 12 (f := .glo "law") rfl)
  have z0 := He.free_ok X G (S.t.d.fact 13 (f := .free "len") rfl)
  have z1 := He.free_ok X G (S.t.d.fact 14 (f := .free "int") rfl)
  have z2 := He.free_ok X G (S.t.d.fact 15 (f := .free "range") rfl)
  have z3 := He.free_ok X G (S.t.d.fact 16 (f := .free "min") rfl)
  have z4 := He.free_ok X G (S.t.d.fact 17 (f := .free "repr") rfl)
  have z5 := He.free_ok X G (S.t.d.fact 18 (f := .free "isinstance") rfl)
  have z6 := He.free_ok X G (S.t.d.fact 19 (f := .free "zip") rfl)
  have z7 := He.free_ok X G (S.t.d.fact 20 (f := .free "all") rfl)
  have z8 := He.free_ok X G (S.t.d.fact 21 (f := .free "str") rfl)
  have z9 := He.free_ok X G (S.t.d.fact 22 (f := .free "tuple") rfl)
  have bS : Binds K dS ["one", "other"] [] := FS.bindsN fun _ _ _ _ _ _ us hl => match us, hl with | [_, _], _ => rfl
  have bQ : Binds K dQ ["one", "other"] [] := FQ.bindsN fun _ _ _ _ _ _ us hl => match us, hl with | [_, _], _ => rfl
  have bC : Binds K dC ["one", "other"] [] := FC.bindsN fun _ _ _ _ _ _ us hl => match us, hl with | [_, _], _ => rfl
  have bD : Binds K dD ["_law_tape", "_law_many"] [] := FD.bindsN fun _ _ _ _ _ _ us hl => match us, hl with | [_, _], _ => rfl
  have bP : Binds K dP ["_law_tape", "_law_items"] [] := FP.bindsN fun _ _ _ _ _ _ us hl => match us, hl with | [_, _], _ => rfl
  have bB : Binds K dB ["_law_script"] [] := FB.bindsN fun _ _ _ _ _ _ us hl => match us, hl with | [_], _ => rfl
  have bK : Binds K dK ["_law_tape"] [] := FK.bindsN fun _ _ _ _ _ _ us hl => match us, hl with | [_], _ => rfl
  have bT : Binds K dT ["_law_tape", "_law_keys_here"] [] := FT.bindsN fun _ _ _ _ _ _ us hl => match us, hl with | [_, _], _ => rfl
  have bA : Binds K dA ["_law_tape", "_law_keys_here"] [] := FA.bindsN fun _ _ _ _ _ _ us hl => match us, hl with | [_, _], _ => rfl
  have bO : Binds K dO ["_law_tape", "_law_pattern_here"] [] := FO.bindsN fun _ _ _ _ _ _ us hl => match us, hl with | [_, _], _ => rfl
  have bV : Binds K dV ["_law_one", "_law_other"] [] := FV.bindsN fun _ _ _ _ _ _ us hl => match us, hl with | [_, _], _ => rfl
  have bF : Binds K dF ["_law_place", "_law_pattern_here"] [] := FF.bindsN fun _ _ _ _ _ _ us hl => match us, hl with | [_, _], _ => rfl
  have e := hfa.symm.trans mL
  cases e
  refine ⟨dL, FL, fun s v => FL.bindsA (ps := ["_law_script"]) (fun _ _ _ _ _ _ us hl => match us, hl with | [_], _ => rfl) s [v] rfl, fun base _ _ => ?_⟩
  have GS : FnOk P w K mg base CX0 1 _ dS ["one", "other"] spSC := ok_stepC (fun_of FS) 
  have GQ : FnOk P w K mg base CX0 2 _ dQ ["one", "other"] spCV := ok_covP (fun_of FQ) GS mS FS.kp bS z0 z7 z6
  have GC : FnOk P w K mg base CX0 3 _ dC ["one", "other"] spCV := ok_cov (fun_of FC) GQ mQ FQ.kp bQ
  have GD : FnOk P w K mg base CX0 1 _ dD ["_law_tape", "_law_many"] spDraw := ok_draw (fun_of FD) z0 z1
  have GP : FnOk P w K mg base CX0 2 _ dP ["_law_tape", "_law_items"] spPick := ok_pick (fun_of FP) GD mD FD.kp bD z0
  have GB : FnOk P w K mg base CX0 1 _ dB ["_law_script"] (spBegin K) := ok_begin (fun_of FB) 
  have GK : FnOk P w K mg base CX0 3 _ dK ["_law_tape"] spKeys := ok_keys (fun_of FK) GD mD FD.kp bD GP mP FP.kp bP z2 z1
  have GT : FnOk P w K mg base CX0 3 _ dT ["_law_tape", "_law_keys_here"] spStep := ok_step (fun_of FT) GP mP FP.kp bP
  have GA : FnOk P w K mg base CX0 4 _ dA ["_law_tape", "_law_keys_here"] spPat := ok_pat (fun_of FA) GD mD FD.kp bD GT mT FT.kp bT z2 z9
  have GO : FnOk P w K mg base CX0 3 _ dO ["_law_tape", "_law_pattern_here"] spLoose := ok_loose (fun_of FO) GD mD FD.kp bD GP mP FP.kp bP z0 z9
  have GV : FnOk P w K mg base CX0 1 _ dV ["_law_one", "_law_other"] spCV := ok_lcov (fun_of FV) z0 z2
  have GF : FnOk P w K mg base CX0 1 _ dF ["_law_place", "_law_pattern_here"] spFits := ok_fits (fun_of FF) z0 z2 z3 z5 z8
  exact body_law ⟨z0, z2, z4, z9⟩ GB mB FB.kp bB GK mK FK.kp bK GA mA FA.kp bA GO mO FO.kp bO GC mC FC.kp bC GV mV FV.kp bV GF mF FF.kp bF GP mP FP.kp bP
end Toy
open PySem PySem.W PySem.Calls PyProof.Rows
set_option maxRecDepth 100000 in
set_option maxHeartbeats 0 in
theorem PySem.Challenge.cw_sieveways_k41_patterns_that_cover_holds : PySem.Challenge.rw_sieveways_k41_patterns_that_cover.Holds := by
  w_on; o_law
  refine HandSHeadRun.head_any (r := OpenLaw.row PySem.Challenge.rw_sieveways_k41_patterns_that_cover) (q := view (OpenLaw.row PySem.Challenge.rw_sieveways_k41_patterns_that_cover).prog [15]) (H := Toy.hk) (ob := Toy.ob) (M := 9000) (loose := Toy.looseN) (d := HandSHeadRun.topDef (OpenLaw.row PySem.Challenge.rw_sieveways_k41_patterns_that_cover).prog 15) (kwd := []) Toy.ob_eq
    (by kernel_rfl) (fun s => by kernel_rfl) Toy.run (by kernel_rfl) (by kernel_rfl) (by kernel_rfl) (by rfl) (by first | assumption | decide +kernel) (by decide +kernel) ⟨rfl, rfl, rfl, rfl, rfl, by decide +kernel⟩ ?hw ?hc
  case hw => w_witness2
  case hc =>
    refine L2.walkG (l := PySem.Challenge.rw_sieveways_k41_patterns_that_cover) (n := 63) (k := 4) (x := "_law_script") rfl (by decide) (by kernel_rfl) ⟨rfl, by decide, by decide⟩ ?F
    intro w mg fa h Y G hmg0
    obtain ⟨K, KX, c⟩ := Y
    have hmg : mg ("law" : PySem.Str) = some (.ref fa) := by
      have e : (HandSHeadRun.topDef (OpenLaw.row PySem.Challenge.rw_sieveways_k41_patterns_that_cover).prog 15).name = ("law" : PySem.Str) := by kernel_rfl
      rw [← e]
      exact hmg0
    obtain ⟨fd, FD, hb, hF⟩ := Toy.facts (P := (PySem.Challenge.rw_sieveways_k41_patterns_that_cover).prog) (w := w) KX G hmg c
    exact ⟨K, fd, _, _, _, _, _, Toy.NLw, Toy.spLaw K, KX, FD, Toy.scLw, hb, fun H a ns hl hS => ⟨a, ns, rfl, hS, hl, fun _ => rfl⟩, hF⟩

