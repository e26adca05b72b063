import PyProof.Rows.All
import Wide.All
import OpenK.AllK
import Wide.FinOn
import HandS.ForMost
import HandS.Flow
import HandS.Wide
import HandS.Small
import HandS.ExcValue
import HandS.Defaults
import HandS.IsInst
import HandS.More
import HandS.Strs
import HandS.Style
import HandS.Conv
import HandS.HeadEnd
import KE.KStateDown
import HandS.Zip
import HandS.Deep
import HandS.ListItems
import HandS.SortKw
import PyProof.EqKinds
import PyProof.FactsAll.dict_1
import PyProof.FactsAll.tuple_2
import PyProof.FactsAll.subtypes
import HandS.TupAny
import HandS.TupMul
import KE.KRevSl
import HandS.Walk
import HandS.Steps
import KE.KExcInit
import HandS.Exc
import HandS.ExcInit
import HandS.ExcIs
import HandS.MakeKw
import KE.KExcIs
import HandS.MakeKwOnly
import PyProof.ReprRoads
import HandS.Dict
import HandS.Head0
import HandS.Head1
import HandS.Head2
import HandS.HeadHook1
import HandS.HeadHook2
import HandS.HeadHook3
import HandS.HeadHook4
import HandS.RevRange
import HandS.WordsExc
import HandS.ExcField
import HandS.Star
import KE.GoesZip
import PyProof.ZipIter
import PyProof.CollectWalk
import PyProof.TupleOfGen
import KE.KDictZip
import KE.GoesEnum
import HandS.Rev
import HandS.Keys
import HandS.OwnEq
import KE.SortKeyHeap
import KE.DatumOrd
import PySem.Challenge.RW_sieveways_k20_questions_in_order
set_option Elab.async false
set_option linter.all false
set_option maxRecDepth 100000
set_option maxHeartbeats 0
namespace Toy
open PySem L2
def top (i : Nat) : Stmt := PySem.Challenge.pw_sieveways_k20_questions_in_order.main.body.getD i (.Pass ⟨0, 0, 0, 0⟩)
abbrev sBegin : Stmt := top 56
abbrev sDraw : Stmt := top 57
/-! ### the tape: more may stand behind its three first keys -/
structure Tl where
  a : Addr
  m : List (Key × V)
def kC : Key := Sum.inr ("cells" : Str)
def kA : Key := Sum.inr ("place" : Str)
def kL : Key := Sum.inr ("left" : Str)
def tp (l : Tl) (a f : Int) : List (Key × V) := (kC, .ref l.a) :: ((kA, .int a) :: ((kL, .int f) :: l.m))
def Tail (m : List (Key × V)) : Prop := (∀ p ∈ m, p.1 ≠ kA ∧ p.1 ≠ kL) ∧ m.length ≤ 10
theorem k_ca : ¬ (kC = kA) := by decide +kernel
theorem k_cl : ¬ (kC = kL) := by decide +kernel
theorem k_al : ¬ (kA = kL) := by decide +kernel
theorem k_la : ¬ (kL = kA) := by decide +kernel
theorem tp_cells (l : Tl) (a f : Int) : valV (tp l a f) kC = some (.ref l.a) := by
  unfold tp
  rw [valV_pos rfl]
theorem tp_at (l : Tl) (a f : Int) : valV (tp l a f) kA = some (.int a) := by
  unfold tp
  rw [valV_neg k_ca, valV_pos rfl]
theorem tp_left (l : Tl) (a f : Int) : valV (tp l a f) kL = some (.int f) := by
  unfold tp
  rw [valV_neg k_cl, valV_neg k_al, valV_pos rfl]
theorem tail_map {m : List (Key × V)} {k : Key} {v : V} (h : ∀ p ∈ m, p.1 ≠ k) : m.map (fun p => if p.1 = k then (p.1, v) else p) = m := by
  induction m with
  | nil => rfl
  | cons p m ih =>
    rw [List.map_cons, if_neg (h p List.mem_cons_self), ih fun q hq => h q (List.mem_cons_of_mem _ hq)]
theorem put_at {l : Tl} (a f b : Int) (h : Tail l.m) : putK (tp l a f) kA (.int b) = tp l b f := by
  unfold tp putK
  rw [if_pos (by simp)]
  simp only [List.map_cons]
  rw [if_neg k_ca, if_pos trivial, if_neg k_la, tail_map fun p hp => (h.1 p hp).1]
theorem put_left {l : Tl} (a f b : Int) (h : Tail l.m) : putK (tp l a f) kL (.int b) = tp l a b := by
  unfold tp putK
  rw [if_pos (by simp)]
  simp only [List.map_cons]
  rw [if_neg k_cl, if_neg k_al, if_pos trivial, tail_map fun p hp => (h.1 p hp).2]
section
variable {H : Hp} {d : Addr} {l : Tl} {a f : Int} (h : H d = some (.dK (tp l a f)))
include h
theorem get_cells : DGet H d (.str ("cells" : Str)) (some (.ref l.a)) := by
  have z := DGet.k (k := kC) h
  rw [tp_cells] at z
  exact z
theorem get_at : DGet H d (.str ("place" : Str)) (some (.int a)) := by
  have z := DGet.k (k := kA) h
  rw [tp_at] at z
  exact z
theorem get_left : DGet H d (.str ("left" : Str)) (some (.int f)) := by
  have z := DGet.k (k := kL) h
  rw [tp_left] at z
  exact z
variable (ht : Tail l.m)
include ht
theorem tp_len : (tp l a f).length < sizeLine := by
  have := ht.2
  show l.m.length + 1 + 1 + 1 < _
  have e : sizeLine = 16777216 := by decide
  omega
theorem set_at (b : Int) : DPut H d (.str ("place" : Str)) (.int b) (upd H d (.dK (tp l b f))) := by
  have z := DPut.k (k := kA) (v := .int b) h (tp_len h ht)
  rw [put_at _ _ _ ht] at z
  exact z
theorem set_left (b : Int) : DPut H d (.str ("left" : Str)) (.int b) (upd H d (.dK (tp l a b))) := by
  have z := DPut.k (k := kL) (v := .int b) h (tp_len h ht)
  rw [put_left _ _ _ ht] at z
  exact z
end
/-- at d a tape, of which at most n draws were made -/
def Tape (H : Hp) (d : Addr) (l : Tl) (n : Nat) : Prop := ∃ (ns : List Int) (a f : Int), H d = some (.dK (tp l a f)) ∧ H l.a = some (.lst (ns.map V.int)) ∧ ns ≠ [] ∧ ns.length ≤ 1000 ∧ 0 ≤ a ∧ a ≤ n ∧ Tail l.m
/-- all that stood stands, but at d -/
def But (d : Addr) (H H' : Hp) : Prop := ∀ b o, b ≠ d → H b = some o → H' b = some o
theorem But.refl {d : Addr} {H : Hp} : But d H H := fun _ _ _ e => e
theorem But.trans {d : Addr} {H H1 H2 : Hp} (a : But d H H1) (b : But d H1 H2) : But d H H2 := fun x o n e => b x o n (a x o n e)
theorem But.upd {d : Addr} {H H1 : Hp} {u : HO} (a : But d H H1) : But d H (upd H1 d u) := fun x o n e => by
  rw [upd_ne n]
  exact a x o n e
theorem But.new {d p : Addr} {H H1 : Hp} {u : HO} (a : But d H H1) (hp : H1 p = none) : But d H (L2.upd H1 p u) := fun x o n e => by
  rw [upd_ne (ne_of_none (a x o n e) hp)]
  exact a x o n e
def spDraw : Sp := fun vs H Q _ => ∃ (d : Addr) (l : Tl) (n : Nat) (m : Int), vs = [.ref d, .int m] ∧ Tape H d l n ∧ n ≤ 1000000 ∧ 0 < m ∧ m < 1000000 ∧
  ∀ H' r, But d H H' → Tape H' d l (n + 1) → 0 ≤ r → r < m → Q (.int r) H'
section
variable {P : Program} {w : World} {K : PySem.W.Frag} {mg : Str → Option Value} {base : Heap}
theorem scD : FnScope ["_law_tape", "_law_many", "_law_place", "_law_size", "_law_cell", "_law_found"] ["_law_tape", "_law_many"] (defScope sDraw) := ⟨rfl, rfl, rfl, by decide +kernel, rfl, by decide +kernel, by decide +kernel⟩
theorem ok_draw {f : Addr} {fd : FuncData} (F : Fun K "_law_draw" "_law_draw" sDraw f fd) (mLen : mg "len" = none) (mInt : mg "int" = none) : FnOk P w K mg base CX0 1 f fd ["_law_tape", "_law_many"] spDraw := by
  refine F.ok scD (fun vs H Q E h => ?_) (fun cdv A outer s H vs Q E hr h => ?_)
  · obtain ⟨d, l, n, m, rfl, _⟩ := h
    rfl
  · obtain ⟨d, l, n, m, rfl, ⟨ns, a, f, hd, hl, hne, hlen, a0, an, ht⟩, hn, m0, m1, q⟩ := h
    have hu := hu_of hr
    refine ⟨_, pss_cons (ps_if (pt_cmpR op_lt (pe_dget hu (pv 0) pe_str (fun _ _ => rfl)) (pv 1) (nomark _))
      (pss_cons (ps_par (i := 2) (j := 3) rfl scD.nd rfl rfl (by decide) rfl rfl (pa_cons (pe_dget hu (pv 0) pe_str (fun _ _ => rfl)) (pa_cons (pe_callB call_len_seq (by rfl) mLen PySem.boot_len (pa_cons (pe_dget hu (pv 0) pe_str (fun _ _ => rfl)) pa_nil)) pa_nil)) (by rfl))
      (pss_cons (ps_asg (pe_tup (pa_cons (pe_ix ix_list (pe_dget hu (pv 0) pe_str (fun _ _ => rfl)) (pe_op op_mod (pe_callTy call_int1 (by rfl) mInt (by decide +kernel) (pa_cons (pv 2) pa_nil)) (pv 3)) (fun _ _ => rfl)) (pa_cons (pe_op op_add (pv 2) pe_int) pa_nil)))
          (pg_tup rfl (pgs_cons (pg_name (i := 4) scD.nd rfl (.inl rfl)) (pgs_cons (pg_sub (pv 0) pe_str (set_dict hu)) pgs_nil))))
      (pss_cons (ps_dput hu (pv 0) pe_str (pe_op op_mod (pe_callTy call_int1 (by rfl) mInt (by decide +kernel) (pa_cons (pe_op op_pow (pe_op op_add (pe_op op_add (pe_op op_mod (pe_callTy call_int1 (by rfl) mInt (by decide +kernel) (pa_cons (pv 4) pa_nil)) pe_int) (pe_op op_mul pe_int (pv 2))) pe_int) pe_int) pa_nil)) (pe_op op_add (pe_op op_pow pe_int pe_int) pe_int)) rfl)
      (pss_one (ps_if (PW.pt (pw_and (pt_cmpR op_ge (pv 4) (pe_op op_pow pe_int pe_int) (nomark _)) (pw_and1 (pt_cmpR op_lt (pv 2) (pv 3) (nomark _)))))
        (pss_one (ps_dput hu (pv 0) pe_str (pe_op op_sub (pv 4) (pe_op op_pow pe_int pe_int)) rfl)) pss_nil)))))
      pss_nil)
      (pss_cons (ps_asg (pe_tup (pa_cons (pe_op op_mod (pe_callTy call_int1 (by rfl) mInt (by decide +kernel) (pa_cons (pe_dget hu (pv 0) pe_str (fun _ _ => rfl)) pa_nil)) (pv 1)) (pa_cons (pe_op op_fdivW (pe_dget hu (pv 0) pe_str (fun _ _ => rfl)) (pv 1)) pa_nil)))
          (pg_tup rfl (pgs_cons (pg_name (i := 5) scD.nd rfl (.inl rfl)) (pgs_cons (pg_sub (pv 0) pe_str (set_dict hu)) pgs_nil))))
      (pss_one (ps_ret (pv 5)))), ?_⟩
    refine ⟨_, rfl, d, _, rfl, get_left hd, _, rfl, _, _, rfl, rfl, _, rfl, ?_⟩
    refine ite2 (fun c => ?_) (fun c => ?_)
    · have e0 : ((ns.map V.int).length : Int) = (ns.length : Int) := by rw [List.length_map]
      have lp : 0 < ns.length := List.length_pos_iff.mpr hne
      obtain ⟨j, hj, ej⟩ : ∃ j : Nat, j < ns.length ∧ a % ((ns.map V.int).length : Int) = (j : Int) := by
        rw [e0]
        have h1 : 0 ≤ a % (ns.length : Int) := Int.emod_nonneg a (by omega)
        have h2 : a % (ns.length : Int) < (ns.length : Int) := Int.emod_lt_of_pos a (by omega)
        exact ⟨(a % (ns.length : Int)).toNat, by omega, by omega⟩
      have hat : atI (ns.map V.int) (j : Int) = some (.int ns[j]) := atI_nat (by rw [List.getElem?_map, List.getElem?_eq_getElem hj]; rfl)
      refine ⟨_, rfl, d, _, rfl, get_at hd, _, rfl, d, _, rfl, get_cells hd, l.a, _, rfl, .inl (SqL.of hl), _, _, rfl, ?_⟩
      refine ⟨_, rfl, d, _, rfl, get_cells hd, _, rfl, .inl ⟨_, rfl, _, rfl, _, _, rfl, rfl, (by show 0 < ((ns.map V.int).length : Int); omega), ?_⟩⟩
      refine ⟨l.a, _, _, .int ns[j], rfl, rfl, SqL.of hl, (by rw [ej]; exact hat), _, rfl, _, _, rfl, rfl, (by show 2 ≤ sizeLine; decide), fun t nt => ?_⟩
      have ndt : d ≠ t := ne_of_none hd nt
      have nlt : l.a ≠ t := ne_of_none hl nt
      have nld : l.a ≠ d := ne_of hl hd (by intro z; cases z)
      refine ⟨t, _, rfl, SqT.of upd_same, rfl, _, _, rfl, _, _, rfl, _, rfl, d, _, rfl, set_at (by rw [upd_ne ndt]; exact hd) ht _, rfl, ?_⟩
      generalize hcell : ns[j] = cell
      have h63 : 0 ≤ cell % 2147483477 := Int.emod_nonneg _ (by decide)
      have h64 : cell % 2147483477 < 2147483477 := Int.emod_lt_of_pos _ (by decide)
      refine ⟨_, rfl, .inl ⟨_, rfl, _, _, rfl, rfl, (by show (0 : Int) < 2147483477; decide), _, rfl, _, _, rfl, rfl, (.inl ⟨by decide, by decide⟩), _, _, rfl, rfl, _, _, rfl, rfl, _, _, rfl, rfl, ⟨by decide, by decide, by omega⟩, .inl ⟨_, rfl, _, _, rfl, rfl, ⟨by decide, by decide, by decide⟩, _, _, rfl, rfl, _, _, rfl, rfl, (by show (0 : Int) < 10 ^ 50 + 151; decide), ?_⟩⟩⟩
      refine ⟨_, rfl, d, _, rfl, set_left upd_same ht _, ?_⟩
      refine ⟨_, rfl, _, _, rfl, rfl, ⟨by decide, by decide, by decide⟩, _, _, rfl, rfl, _, rfl, ?_⟩
      refine ite2 (fun c1 => ?_) (fun c1 => ?_)
      · refine ⟨_, rfl, _, rfl, _, _, rfl, rfl, _, rfl, ?_⟩
        refine ite2 (fun c2 => ?_) (fun c2 => ?_)
        · refine ⟨_, rfl, _, _, rfl, rfl, ⟨by decide, by decide, by decide⟩, _, _, rfl, rfl, _, rfl, d, _, rfl, set_left upd_same ht _, ?_⟩
          refine ⟨_, rfl, d, _, rfl, get_left upd_same, .inl ⟨_, rfl, _, rfl, _, _, rfl, rfl, m0, _, rfl, d, _, rfl, get_left upd_same, _, rfl, _, _, rfl, rfl, wide_div (b := 64) m0 (by omega) (by decide) (by decide), (by show 2 ≤ sizeLine; decide), fun t2 nt2 => ?_⟩⟩
          have ndt2 : d ≠ t2 := ne_of_none upd_same nt2
          refine ⟨t2, _, rfl, SqT.of upd_same, rfl, _, _, rfl, _, _, rfl, _, rfl, d, _, rfl, set_left (by rw [upd_ne ndt2]; exact upd_same) ht _, rfl, _, rfl, q _ _ ((((But.refl : But d H H).new nt).upd.upd.upd).new nt2).upd ?_ (Int.emod_nonneg _ (by omega)) (Int.emod_lt_of_pos _ m0)⟩
          have nlt2 : l.a ≠ t2 := ne_of_none (by rw [upd_ne nld, upd_ne nld, upd_ne nld, upd_ne nlt]; exact hl) nt2
          exact ⟨ns, a + 1, _, upd_same, by rw [upd_ne nld, upd_ne nlt2, upd_ne nld, upd_ne nld, upd_ne nld, upd_ne nlt]; exact hl, hne, hlen, by omega, by push_cast; omega, ht⟩
        · refine ⟨_, rfl, d, _, rfl, get_left upd_same, .inl ⟨_, rfl, _, rfl, _, _, rfl, rfl, m0, _, rfl, d, _, rfl, get_left upd_same, _, rfl, _, _, rfl, rfl, wide_div (b := 64) m0 (by omega) (by decide) (by decide), (by show 2 ≤ sizeLine; decide), fun t2 nt2 => ?_⟩⟩
          have ndt2 : d ≠ t2 := ne_of_none upd_same nt2
          refine ⟨t2, _, rfl, SqT.of upd_same, rfl, _, _, rfl, _, _, rfl, _, rfl, d, _, rfl, set_left (by rw [upd_ne ndt2]; exact upd_same) ht _, rfl, _, rfl, q _ _ ((((But.refl : But d H H).new nt).upd.upd).new nt2).upd ?_ (Int.emod_nonneg _ (by omega)) (Int.emod_lt_of_pos _ m0)⟩
          have nlt2 : l.a ≠ t2 := ne_of_none (by rw [upd_ne nld, upd_ne nld, upd_ne nlt]; exact hl) nt2
          exact ⟨ns, a + 1, _, upd_same, by rw [upd_ne nld, upd_ne nlt2, upd_ne nld, upd_ne nld, upd_ne nlt]; exact hl, hne, hlen, by omega, by push_cast; omega, ht⟩
      · refine iteF ?_
        refine ⟨_, rfl, d, _, rfl, get_left upd_same, .inl ⟨_, rfl, _, rfl, _, _, rfl, rfl, m0, _, rfl, d, _, rfl, get_left upd_same, _, rfl, _, _, rfl, rfl, wide_div (b := 64) m0 (by omega) (by decide) (by decide), (by show 2 ≤ sizeLine; decide), fun t2 nt2 => ?_⟩⟩
        have ndt2 : d ≠ t2 := ne_of_none upd_same nt2
        refine ⟨t2, _, rfl, SqT.of upd_same, rfl, _, _, rfl, _, _, rfl, _, rfl, d, _, rfl, set_left (by rw [upd_ne ndt2]; exact upd_same) ht _, rfl, _, rfl, q _ _ ((((But.refl : But d H H).new nt).upd.upd).new nt2).upd ?_ (Int.emod_nonneg _ (by omega)) (Int.emod_lt_of_pos _ m0)⟩
        have nlt2 : l.a ≠ t2 := ne_of_none (by rw [upd_ne nld, upd_ne nld, upd_ne nlt]; exact hl) nt2
        exact ⟨ns, a + 1, _, upd_same, by rw [upd_ne nld, upd_ne nlt2, upd_ne nld, upd_ne nld, upd_ne nlt]; exact hl, hne, hlen, by omega, by push_cast; omega, ht⟩
    · refine ⟨_, rfl, d, _, rfl, get_left hd, .inl ⟨_, rfl, _, rfl, _, _, rfl, rfl, m0, _, rfl, d, _, rfl, get_left hd, _, rfl, _, _, rfl, rfl, wide_div (b := 64) m0 (by omega) (by decide) (by decide), (by show 2 ≤ sizeLine; decide), fun t nt => ?_⟩⟩
      have ndt : d ≠ t := ne_of_none hd nt
      refine ⟨t, _, rfl, SqT.of upd_same, rfl, _, _, rfl, _, _, rfl, _, rfl, d, _, rfl, set_left (by rw [upd_ne ndt]; exact hd) ht _, rfl, _, rfl, q _ _ (((But.refl : But d H H)).new nt).upd ?_ (Int.emod_nonneg _ (by omega)) (Int.emod_lt_of_pos _ m0)⟩
      exact ⟨ns, a, _, upd_same, by rw [upd_ne (ne_of hl hd (by intro z; cases z)), upd_ne (ne_of_none hl nt)]; exact hl, hne, hlen, by omega, by push_cast; omega, ht⟩
end
end Toy


namespace Toy
open PySem L2
section
variable {P : Program} {w : World} {K : PySem.W.Frag} {mg : Str → Option Value} {base : Heap}
theorem cut63 (ns : List Int) (h : ns.length ≤ 63) : cutV (ns.map V.int) none (some 63) = ns.map V.int := by
  unfold cutV
  rw [show HT.sIx (ns.map V.int).length (ns.map V.int).length (some 63) = min 63 (ns.map V.int).length from HT.sIx_nat _ _ 63, HT.sIx_none, List.length_map, show min 63 ns.length = ns.length by omega, List.drop_zero, Nat.sub_zero]
  exact List.take_of_length_le (by rw [List.length_map]; exact Nat.le_refl _)
abbrev tl0 (l : Addr) : Tl := ⟨l, []⟩
theorem tail0 (l : Addr) : Tail (tl0 l).m := ⟨fun p hp => (by cases hp), by show 0 ≤ 10; decide⟩
theorem merge_tp (l : Addr) : mergeK [] [(kC, V.ref l), (kA, V.int 0), (kL, V.int 0)] = tp (tl0 l) 0 0 := by
  unfold mergeK
  simp only [List.foldl_cons, List.foldl_nil]
  unfold putK
  simp [k_ca, k_cl, k_al]
  rfl
def spBegin (K : PySem.W.Frag) : Sp := fun vs H Q _ => ∃ (a : Addr) (ns : List Int), vs = [.ref a] ∧ SqL K H a (ns.map V.int) ∧ ns.length ≤ 63 ∧ ∀ H' d (l : Addr), Same H H' → H d = none → H l = none → l ≠ d → Tape H' d (tl0 l) 0 → Q (.ref d) H'
theorem scB : FnScope ["_law_script"] ["_law_script"] (defScope sBegin) := ⟨rfl, rfl, rfl, by decide +kernel, rfl, by decide +kernel, by decide +kernel⟩
theorem same_new {H H1 : Hp} {p : Addr} {u : HO} (a : Same H H1) (hp : H1 p = none) : Same H (upd H1 p u) := fun x o e => by
  rw [upd_ne (ne_of_none (a x o e) hp)]
  exact a x o e
theorem ok_begin {f : Addr} {fd : FuncData} (F : Fun K "_law_begin" "_law_begin" sBegin f fd) : FnOk P w K mg base CX0 1 f fd ["_law_script"] (spBegin K) := by
  refine F.ok scB (fun vs H Q E h => ?_) (fun cdv A outer s H vs Q E hr h => ?_)
  · obtain ⟨a, ns, rfl, _⟩ := h
    rfl
  · obtain ⟨a, ns, rfl, hS, hlen, q⟩ := h
    refine ⟨_, pss_one (ps_ret (pe_disp (pps_cons pe_str (pe_orT (pe_slice sl_list (pv 0) po_none (po_some pe_int)) (pe_one (pe_lst (pa_cons pe_int pa_nil)))) (pps_cons pe_str pe_int (pps_cons pe_str pe_int pps_nil))) (by rfl) (by rfl) (fun z => by cases z) (by decide))), ?_⟩
    intro p np
    have s1 : Same H (upd H p (.dK [])) := same_new (fun _ _ e => e) np
    refine ⟨_, rfl, 63, rfl, a, _, rfl, s1.seq hS, fun c nc => ?_⟩
    have npc : p ≠ c := ne_of_none upd_same nc
    refine ⟨_, .inl ⟨_, SqL.of upd_same, rfl⟩, ?_⟩
    have fin : ∀ (H2 : Hp) (l : Addr) (ms : List Int), H l = none → Same (upd H p (.dK [])) H2 → H2 l = some (.lst (ms.map V.int)) → ms ≠ [] → ms.length ≤ 1000 → Q (.ref p) (upd H2 p (.dK (mergeK [] [(kC, V.ref l), (kA, V.int 0), (kL, V.int 0)]))) := by
      intro H2 l ms nl s2 hl h1 h2
      have npl : l ≠ p := ne_of hl (s2 _ _ upd_same) (by intro z; cases z)
      rw [merge_tp]
      refine q _ p l (fun b o e => ?_) np nl npl ⟨ms, 0, 0, upd_same, by rw [upd_ne npl]; exact hl, h1, h2, Int.le_refl _, Int.le_refl _, tail0 l⟩
      rw [upd_ne (ne_of_none e np)]
      exact s2 _ _ (s1 _ _ e)
    refine ite2 (fun c1 => ?_) (fun c1 => ?_)
    · refine ⟨Eq.trans (upd_ne npc) upd_same, [(kC, V.ref c), (kA, V.int 0), (kL, V.int 0)], rfl, (by show 3 ≤ 15; decide), fin _ c ns (by rw [upd_ne npc.symm] at nc; exact nc) (same_new (fun _ _ e => e) nc) (by rw [upd_same, cut63 ns hlen]) ?_ (by omega)⟩
      intro z
      rw [z] at c1
      exact Bool.false_ne_true c1
    · refine ⟨(by show 1 ≤ sizeLine; decide), fun e ne => ?_⟩
      have npe : p ≠ e := ne_of_none (Eq.trans (upd_ne npc) upd_same) ne
      refine ⟨Eq.trans (upd_ne npe) (Eq.trans (upd_ne npc) upd_same), [(kC, V.ref e), (kA, V.int 0), (kL, V.int 0)], rfl, (by show 3 ≤ 15; decide), fin _ e [0] (by rw [upd_ne (ne_of_none upd_same ne).symm, upd_ne npe.symm] at ne; exact ne) (same_new (same_new (fun _ _ e => e) nc) ne) upd_same (by decide) (by decide)⟩
end
end Toy


namespace L2
open PySem PySem.Spec PyProof.Rows
/-! The law's own def, run by its caller alone (so that what runs around it is known: repr asks that). -/
/-- the body of the law, in the caller's surroundings -/
def BodyOk (P : Program) (w : World) (K : PySem.W.Frag) (mg : Str → Option Value) (base : Heap) (k : Nat) (N : List Str) (qual : Str) (sc : Scope) (body : List Stmt) (f : Addr) (sp : Sp) : Prop :=
  ∀ (cdv : Value) (s : Shared) (H : Hp) (vs : List V) (Q : VK) (E : XK), Room k (callerA.deeper (envOfC qual sc s.heap.objs.size f cdv)) → sp vs H Q E →
    ∃ t, PSs (cxOf CX0 P w K mg base N qual sc f cdv callerA [] s H E) body t ∧ t { nx := fun _ H' => Q .non H', rt := Q } (start N vs) H
section
variable {P : Program} {w : World} {K : PySem.W.Frag} {mg : Str → Option Value} {base : Heap} {k : Nat} {f : Addr} {x qual : Str} {params : Arguments} {body : List Stmt} {sc : Scope} {N ps : List Str} {sp : Sp} {fd : FuncData}
theorem body_run (F : FunD K x qual params body sc [] [] f fd) (S : FnScope N ps sc) (B : BodyOk P w K mg base k N qual sc body f sp) {s : Shared} {H : Hp} {args : Args} {us : List Value} {vs : List V} {Q : VK} {E : XK} (hr : Room (k + 1) callerA)
    (e0 : Env0 P w K mg base callerA [] s H) (hb : BindsTo s fd args (ps.zip us)) (r : Vals vs us) (hl : vs.length = ps.length) (h : sp vs H Q E) : codeAny (model P w) callerA (.call (.ref f) args) (CR CX0 [] P w H s Q E) s := by
  obtain ⟨oc, od, dV, kV, doc, pm, an, cdv, ct, osl, rfl, lk, hcd, _, _⟩ := F.ex
  have up : ∀ b o, base.get? b = some o → s.heap.get? b = some o := fun b o e => (e0.bs b o e).1
  have KX : K.In s.heap := e0.mod.kin.keeps up
  have kinds : ∀ y ∈ ps.zip us, sc.names.lookup y.1 = some .local ∨ (sc.names.lookup y.1 = some .cell ∧ ((cellsFrom (s.heap.objs.size + 1) sc.names []).lookup y.1).isSome = true) := by
    rintro ⟨n, v⟩ hy
    exact (S.par n (List.of_mem_zip hy).1).imp id fun q => ⟨q, PySem.W.cellsFrom_some _ _ _ (.inl q)⟩
  refine codeAny_call_function hr.depth (KX _ _ lk) rfl S.co S.gen rfl (PySem.W.codeRec_of KX hcd) (hb _ _ _ _ (wpAny_newFunctionEnv_cells S.kind kinds fun env he s1 x => ?_))
  subst he
  obtain ⟨t, ht, hq⟩ := B cdv s H vs Q E (hr.deeper _) h
  refine ⟨(e0.mod.nolimit.keeps up).keeps x.toInCall.keep, codeAny_func (wpAny_mono (ht.run [] s1 (start N vs) H _ (inv_start S hr.hd e0 hl r x) hq) (fun fl s' hs => ?_) fun e s' hs => hs)⟩
  cases fl with
  | ret u =>
    obtain ⟨v, σ', H', J, rv, q⟩ := hs
    exact ⟨v, H', J.os, J.bare, J.base, J.hok, rv, q⟩
  | next =>
    obtain ⟨σ', H', J, q⟩ := hs
    exact ⟨V.non, H', J.os, J.bare, J.base, J.hok, rfl, q⟩
  | brk =>
    obtain ⟨_, _, _, q⟩ := hs
    exact False.elim q
  | cont =>
    obtain ⟨_, _, _, q⟩ := hs
    exact False.elim q
end
end L2
namespace L2
open PySem PySem.Spec PyProof.Rows
section
variable {P : Program} {w : World} {K : PySem.W.Frag} {mg mb : Str → Option Value} {k : Nat} {a fa : Addr} {x qual nm : Str} {params : Arguments} {body : List Stmt} {sc : Scope} {N : List Str} {sp : Sp} {fd : FuncData} {s : Shared} {vs : List Value} {ns : List Int}
/-- where the abstract heap tracks the script alone (or nothing) -/
theorem ground_of {H : Hp} (KX : K.In s.heap) (g : s.heap.Ns mainGlobals mg) (b : s.heap.Ns builtinsNs mb) (bb : ∀ x : Str, x ≠ "__name__" → mb x = bootBuiltins x) (lim : s.heap.NoLimit) (gen : s.gens = #[])
    (ha : s.heap.get? a = some { cls := .type "list", data := .seq vs.toArray }) (hok : HOk P w H s.heap) (only : ∀ c, H c ≠ none → c = a) (out : H a ≠ none → K.lookup a = none) :
    ∃ base : Heap, K.In base ∧ base.Ns mainGlobals mg ∧ Env0 P w K mg base callerA [] s H := by
  have get : ∀ {c : Addr} {o : Obj}, s.heap.get? c = some o → H c = none → (hidT s.heap H).get? c = some o := fun e n => hidT_get e n
  have tab : ∀ {c : Addr} {m : Str → Option Value}, s.heap.Ns c m → (hidT s.heap H).Ns c m := by
    rintro c m ⟨o, es, ep, e, d, r⟩
    refine ⟨o, es, ep, get e (Classical.byContradiction fun q => ?_), d, r⟩
    have ca := only c q
    subst ca
    rw [ha] at e
    cases e
    cases (show Data.seq vs.toArray _ = Data.dict es ep from d)
  have kin : K.In (hidT s.heap H) := fun c o e => get (KX c o e) (Classical.byContradiction fun q => by
    have ca := only c q
    subst ca
    rw [out q] at e
    cases e)
  obtain ⟨mc, l1, l2⟩ := lim
  exact ⟨hidT s.heap H, kin, tab g, rfl, ⟨kin, tab g, ⟨mb, tab b, bb⟩, mc, tab l1, l2⟩, fun c o e => of_hidT e, Nat.le_of_eq (hidT_size _ _), trivial, (fun c hc => nomatch hc), hok, .of_eq gen⟩
theorem law_run (F : FunD K nm qual params body sc [] [] fa fd) (S : FnScope N [x] sc) (B : ∀ base : Heap, K.In base → base.Ns mainGlobals mg → BodyOk P w K mg base k N qual sc body fa sp) (hb : ∀ (s : Shared) (u : Value), BindsTo s fd ⟨[u], []⟩ [(x, u)]) (hr : Room (k + 1) callerA)
    (hsp : ∀ H : Hp, SqL K H a (ns.map V.int) → sp [.ref a] H (fun v _ => v = .bl true) fun _ _ _ => False)
    (KX : K.In s.heap) (g : s.heap.Ns mainGlobals mg) (b : s.heap.Ns builtinsNs mb) (bb : ∀ x : Str, x ≠ "__name__" → mb x = bootBuiltins x) (lim : s.heap.NoLimit) (gen : s.gens = #[])
    (ha : s.heap.get? a = some { cls := .type "list", data := .seq vs.toArray }) (hi : IntsAre vs ns) (hl : ns.length ≤ sizeLine) :
    codeAny (model P w) callerA (.call (.ref fa) ⟨[.ref a], []⟩) (fun r s' => r = .ok (.ret (.bool true)) ∧ OldK s.heap s'.heap ∧ s'.os = s.os ∧ AllBare s'.gens) s := by
  have run : ∀ H : Hp, SqL K H a (ns.map V.int) → HOk P w H s.heap → (∀ c, H c ≠ none → c = a) → (H a ≠ none → K.lookup a = none) → (∀ c u, H c = some u → ∃ o xs, u = .frz o (.lst xs)) →
      codeAny (model P w) callerA (.call (.ref fa) ⟨[.ref a], []⟩) (fun r s' => r = .ok (.ret (.bool true)) ∧ OldK s.heap s'.heap ∧ s'.os = s.os ∧ AllBare s'.gens) s := by
    intro H hS hok only out frz
    obtain ⟨base, k1, k2, e0⟩ := ground_of KX g b bb lim gen ha hok only out
    refine codeAny_mono (body_run (us := [.ref a]) (vs := [.ref a]) F S (B base k1 k2) hr e0 (hb s (.ref a)) (.cons rfl .nil) rfl (hsp H hS)) fun r s' q => ?_
    cases r with
    | error e => exact False.elim q
    | ok fl =>
      cases fl with
      | next => exact False.elim q
      | brk => exact False.elim q
      | cont => exact False.elim q
      | ret u =>
        obtain ⟨v, H', os, bare, un, hok', rv, ev⟩ := q
        have ev' : v = .bl true := ev
        subst ev'
        obtain rfl : u = Value.bool true := rv
        refine ⟨rfl, OldK.of_keep fun c o e => ?_, os, bare⟩
        cases q : H c with
        | none => exact un.keep c o e q (fun z => nomatch z) (fun z => nomatch z)
        | some u =>
          obtain ⟨ob, xs, rfl⟩ := frz c u q
          obtain ⟨e1, _⟩ := hok c _ q
          obtain ⟨e2, _⟩ := hok' c _ (un.frzs c ob _ q)
          rw [e] at e1
          cases e1
          exact e2
  have rv := vals_ints hi
  cases hk : K.lookup a with
  | some o =>
    have e := KX a o hk
    rw [ha] at e
    cases e
    exact run (fun _ => none) (.inr ⟨_, vs.toArray, _, hk, rfl, rfl, rfl, by rw [List.size_toArray, hi.length]; exact hl, by simpa using rv⟩) (fun c u z => nomatch z) (fun c z => absurd rfl z) (fun z => absurd rfl z) fun c u z => nomatch z
  | none =>
    refine run (fun c => if c = a then some (.frz { cls := .type "list", data := .seq vs.toArray } (.lst (ns.map V.int))) else none) (.inl (.inr ⟨{ cls := .type "list", data := .seq vs.toArray }, if_pos rfl⟩)) (fun c u z => ?_)
      (fun c z => Classical.byContradiction fun q => z (if_neg q)) (fun _ => hk) fun c u z => ?_
    · by_cases hc : c = a
      · have z' := (if_pos hc).symm.trans z
        cases z'
        subst hc
        exact ⟨ha, by rw [List.length_map]; exact hl, vs, _, rv, ha⟩
      · cases (if_neg hc).symm.trans z
    · by_cases hc : c = a
      · cases (if_pos hc).symm.trans z
        exact ⟨_, _, rfl⟩
      · cases (if_neg hc).symm.trans z
end
/-- the end -/
theorem walkG {l : PySem.W.OpenLaw} {n k : Nat} {q : Program} {loose : List Str} {XP : (Str → Option Value) → Heap → Prop} {YP : World → Heap → Prop} {d : DefRec} {x : Str} (hn : l.most = some n) (hn2 : n ≤ sizeLine) (hdf : d.params.defaults = []) (hr : Room (k + 1) callerA)
    (F : ∀ (w : World) (mg : Str → Option Value) (fa : Addr) (h : Heap), YP w h → h.Ns mainGlobals mg → mg d.name = some (.ref fa) →
      ∃ (K : PySem.W.Frag) (fd : FuncData) (nm qual : Str) (params : Arguments) (body : List Stmt) (sc : Scope) (N : List Str) (sp : Sp), K.In h ∧ FunD K nm qual params body sc [] [] fa fd ∧ FnScope N [x] sc ∧ (∀ (s : Shared) (u : Value), BindsTo s fd ⟨[u], []⟩ [(x, u)]) ∧
        (∀ (H : Hp) (a : Addr) (ns : List Int), ns.length ≤ n → SqL K H a (ns.map V.int) → sp [.ref a] H (fun v _ => v = .bl true) fun _ _ _ => False) ∧
        ∀ base : Heap, K.In base → base.Ns mainGlobals mg → BodyOk l.prog w K mg base k N qual sc body fa sp) :
    PySem.W.WalkO q loose XP YP l.row.toRowW d [] (fun f vs => PySem.call f vs) := by
  refine Att.attach_call hn hdf fun w s₀ s₁ mg mb fa o pm cd doc a vs ns G Y ho hd hcd hmg hobj hints hlen hg => ?_
  obtain ⟨K, fd, nm, qual, params, body, sc, N, sp, KX, FD, S, hb, hsp, B⟩ := F w mg fa _ Y G.T.g hmg
  exact law_run FD S B hb hr (fun H hS => hsp H a ns hlen hS) KX G.T.g G.T.b G.T.builtins G.T.nolimit hg hobj hints (Nat.le_trans hlen hn2)
end L2


namespace Toy
open PySem L2
theorem Same.delH {H H' : Hp} (s : Same H H') (z : Addr) : Same (L2.delH H z) (L2.delH H' z) := fun b o e => by
  by_cases h : b = z
  · rw [h, delH_same] at e
    cases e
  · rw [delH_ne h] at e ⊢
    exact s b o e
theorem Same.off {H : Hp} (z : Addr) : Same (L2.delH H z) H := fun b o e => by
  by_cases h : b = z
  · rw [h, delH_same] at e
    cases e
  · rw [delH_ne h] at e
    exact e
theorem But.off {H H' : Hp} {z : Addr} (s : But z H H') : Same (L2.delH H z) (L2.delH H' z) := fun b o e => by
  by_cases h : b = z
  · rw [h, delH_same] at e
    cases e
  · rw [delH_ne h] at e ⊢
    exact s b o h e
theorem Same.but {H H' : Hp} (s : Same H H') (z : Addr) : But z H H' := fun b o _ e => s b o e
theorem few {n : Nat} (h : n ≤ 1000) : n ≤ sizeLine := Nat.le_of_lt (small1000 h)
theorem Tape.same {H H' : Hp} {d : Addr} {l : Tl} {n : Nat} (t : Tape H d l n) (s : Same H H') : Tape H' d l n := by
  obtain ⟨ns, a, f, h1, h2, h3⟩ := t
  exact ⟨ns, a, f, s _ _ h1, s _ _ h2, h3⟩
abbrev partOf (st : Stmt) (i : Nat) : Stmt := (defBody st).getD i (.Pass ⟨0, 0, 0, 0⟩)
end Toy


namespace Toy
open PySem L2 PyProof.Rows
theorem dpStrs {K : PySem.W.Frag} {H : Hp} : ∀ ks : List Str, DpAll K H (ks.map V.str) (ks.map PyData.str)
  | [] => .nil
  | k :: ks => .cons (.str k) (dpStrs ks)
theorem layStrs : ∀ {ks : List Str}, (∀ k ∈ ks, PyData.strOk k = true) → PyData.canLayAll0 (ks.map PyData.str) = true
  | [], _ => by simp [PyData.canLayAll0]
  | k :: ks, h => by
    simp only [List.map_cons, PyData.canLayAll0, PyData.canLay0]
    rw [h k List.mem_cons_self, layStrs fun x hx => h x (List.mem_cons_of_mem _ hx)]
    rfl
theorem depthStrs : ∀ ks : List Str, PyData.depthAll (ks.map PyData.str) ≤ 1
  | [] => by simp [PyData.depthAll]
  | k :: ks => by
    have := depthStrs ks
    simp only [List.map_cons, PyData.depthAll, PyData.depth]
    omega
theorem shapedStrs {ks : List Str} (h : ∀ k ∈ ks, PyData.strOk k = true) : SeqAt.shaped (.list (ks.map PyData.str)) = true := by
  unfold SeqAt.shaped
  have z := depthStrs ks
  rw [show (PyData.list (ks.map PyData.str)).canLay0 = true by simp only [PyData.canLay0]; exact layStrs h, Bool.true_and]
  exact decide_eq_true (by simp only [PyData.depth]; omega)
theorem Tape.at {H : Hp} {d : Addr} {l : Tl} {n : Nat} (t : Tape H d l n) : (∃ o, H d = some o) ∧ ∃ o, H l.a = some o := by
  obtain ⟨ns, a, f, h1, h2, _⟩ := t
  exact ⟨⟨_, h1⟩, _, h2⟩
theorem Tape.upd {H : Hp} {d : Addr} {l : Tl} {p : Addr} {n : Nat} {u : HO} (t : Tape H d l n) (h1 : d ≠ p) (h2 : l.a ≠ p) : Tape (L2.upd H p u) d l n := by
  obtain ⟨ns, a, f, e1, e2, e3⟩ := t
  exact ⟨ns, a, f, by rw [upd_ne h1]; exact e1, by rw [upd_ne h2]; exact e2, e3⟩
theorem nodup_fst_put {kvs : List (Key × V)} {k : Key} {v : V} (h : k ∉ kvs.map (·.1)) : putK kvs k v = kvs ++ [(k, v)] := by
  unfold putK
  rw [if_neg]
  simpa using h
theorem merge_new : ∀ (more kvs : List (Key × V)), ((kvs ++ more).map (·.1)).Nodup → mergeK kvs more = kvs ++ more
  | [], kvs, _ => by simp [mergeK]
  | p :: more, kvs, h => by
    have e : mergeK kvs (p :: more) = mergeK (putK kvs p.1 p.2) more := by simp [mergeK]
    have hp : p.1 ∉ kvs.map (·.1) := by
      rw [List.map_append, List.nodup_append] at h
      intro z
      exact h.2.2 _ z _ (by simp) rfl
    rw [e, nodup_fst_put hp, merge_new more (kvs ++ [(p.1, p.2)]) (by simpa using h)]
    simp
theorem same_put {H H1 : Hp} {D : Addr} {u : HO} (s : Same H H1) (n : H D = none) : Same H (upd H1 D u) := fun b o e => by
  rw [upd_ne (ne_of_none e n)]
  exact s _ _ e
theorem same_id {H : Hp} : Same H H := fun _ _ z => z
theorem Tape.more {H : Hp} {d : Addr} {l : Tl} {n m : Nat} (t : Tape H d l n) (h : n ≤ m) : Tape H d l m := by
  obtain ⟨ns, a, f, h1, h2, h3, h4, h5, h6, h7⟩ := t
  exact ⟨ns, a, f, h1, h2, h3, h4, h5, by omega, h7⟩
abbrev sPick : Stmt := top 58
def spPick : Sp := fun vs H Q _ => ∃ (d : Addr) (l : Tl) (p : Addr) (n : Nat) (xs : List V), vs = [.ref d, .ref p] ∧ Tape H d l n ∧ n ≤ 1000000 ∧ H p = some (.lst xs) ∧ xs ≠ [] ∧ xs.length < 1000000 ∧
  ∀ H' v, But d H H' → Tape H' d l (n + 1) → v ∈ xs → Q v H'
section
variable {P : Program} {w : World} {K : PySem.W.Frag} {mg : Str → Option Value} {base : Heap}
theorem scP : FnScope ["_law_tape", "_law_items"] ["_law_tape", "_law_items"] (defScope sPick) := ⟨rfl, rfl, rfl, by decide +kernel, rfl, by decide +kernel, by decide +kernel⟩
theorem ok_pick {f fD : Addr} {fd fdD : FuncData} (F : Fun K "_law_pick" "_law_pick" sPick f fd) (GD : FnOk P w K mg base CX0 1 fD fdD ["_law_tape", "_law_many"] spDraw) (mD : mg "_law_draw" = some (.ref fD)) (kD : PySem.W.keepIn K (.ref fD) = true) (bD : Binds K fdD ["_law_tape", "_law_many"] []) (mLen : mg "len" = none) : FnOk P w K mg base CX0 2 f fd ["_law_tape", "_law_items"] spPick := by
  refine F.ok scP (fun vs H Q E h => ?_) (fun cdv A outer s H vs Q E hr h => ?_)
  · obtain ⟨d, l, p, n, xs, rfl, _⟩ := h
    rfl
  · obtain ⟨d, l, p, n, xs, rfl, hT, hn, hp, hne, hlen, q⟩ := h
    refine ⟨_, pss_one (ps_ret (pe_ix ix_list (pv 1) (pe_call GD hr rfl mD kD bD .nil pass0 (pa_cons (pv 0) (pa_cons (pe_callB call_len_seq (by rfl) mLen PySem.boot_len (pa_cons (pv 1) pa_nil)) pa_nil))) (fun _ _ => rfl))), ?_⟩
    have lp : 0 < xs.length := List.length_pos_iff.mpr hne
    refine ⟨_, rfl, _, rfl, _, rfl, p, _, rfl, .inl (SqL.of hp), d, l, n, _, rfl, hT, hn, (by omega), (by omega), fun H1 r hb hT1 r0 r1 => ?_⟩
    have npd : p ≠ d := by
      obtain ⟨ns, a, f, hd, _⟩ := hT
      exact ne_of hp hd (by intro z; cases z)
    obtain ⟨j, ej⟩ : ∃ j : Nat, r = (j : Int) := ⟨r.toNat, by omega⟩
    have hj : j < xs.length := by omega
    refine ⟨p, xs, _, xs[j], rfl, rfl, SqL.of (hb _ _ npd hp), (by rw [ej]; exact atI_nat (List.getElem?_eq_getElem hj)), q _ _ hb hT1 (List.getElem_mem hj)⟩
end
end Toy


namespace Toy
open PySem PySem.Spec L2 PyProof.Rows PySem.W
def okK (k : Str) : Bool := (PyData.strOk k && decide (k.length ≤ 1000)) && decide (37 ∉ k.cps.toList)
theorem okK_1 {k : Str} (h : okK k = true) : PyData.strOk k = true := by
  unfold okK at h
  rw [Bool.and_eq_true, Bool.and_eq_true] at h
  exact h.1.1
theorem okK_2 {k : Str} (h : okK k = true) : k.length ≤ 1000 := by
  unfold okK at h
  rw [Bool.and_eq_true, Bool.and_eq_true] at h
  exact of_decide_eq_true h.1.2
theorem okK_3 {k : Str} (h : okK k = true) : 37 ∉ k.cps.toList := by
  unfold okK at h
  rw [Bool.and_eq_true] at h
  exact of_decide_eq_true h.2
/-! ### values: leaves, tuples, and lists and dicts that are never looked into -/
inductive Dt where
  | non
  | bl (b : Bool)
  | int (i : Int)
  | str (x : Str)
  | tup (l : List Dt)
  | opq
mutual
def nd : Dt → Nat
  | .tup l => ndL l + 1
  | .non => 0
  | .bl _ => 0
  | .int _ => 0
  | .str _ => 0
  | .opq => 0
def ndL : List Dt → Nat
  | [] => 0
  | t :: l => nd t + ndL l
end
mutual
def dep : Dt → Nat
  | .tup l => depL l + 1
  | .non => 0
  | .bl _ => 0
  | .int _ => 0
  | .str _ => 0
  | .opq => 0
def depL : List Dt → Nat
  | [] => 0
  | t :: l => max (dep t) (depL l)
end
mutual
def okd (c : Nat) : Dt → Bool
  | .tup l => decide (l.length ≤ c) && okdL c l
  | .non => true
  | .bl _ => true
  | .int _ => true
  | .str x => okK x
  | .opq => true
def okdL (c : Nat) : List Dt → Bool
  | [] => true
  | t :: l => okd c t && okdL c l
end
mutual
theorem okd_mono {c c' : Nat} (h : c ≤ c') : ∀ t, okd c t = true → okd c' t = true
  | .tup l, z => by
    simp only [okd, Bool.and_eq_true, decide_eq_true_eq] at z ⊢
    exact ⟨Nat.le_trans z.1 h, okdL_mono h l z.2⟩
  | .non, _ => by simp [okd]
  | .bl _, _ => by simp [okd]
  | .int _, _ => by simp [okd]
  | .str _, z => by simpa [okd] using z
  | .opq, _ => by simp [okd]
theorem okdL_mono {c c' : Nat} (h : c ≤ c') : ∀ l, okdL c l = true → okdL c' l = true
  | [], _ => by simp [okdL]
  | t :: l, z => by
    simp only [okdL, Bool.and_eq_true] at z ⊢
    exact ⟨okd_mono h t z.1, okdL_mono h l z.2⟩
end
mutual
inductive Dv (K : PySem.W.Frag) (H : Hp) : V → Dt → Prop
  | non : Dv K H .non .non
  | bl (b : Bool) : Dv K H (.bl b) (.bl b)
  | int (i : Int) : Dv K H (.int i) (.int i)
  | str (x : Str) : Dv K H (.str x) (.str x)
  | tup {a : Addr} {us : List V} {ts : List Dt} : SqT K H a us → DvL K H us ts → Dv K H (.ref a) (.tup ts)
  | lst {a : Addr} {us : List V} : H a = some (.lst us) → Dv K H (.ref a) .opq
  | dct {a : Addr} {m : List (Key × V)} : H a = some (.dK m) → Dv K H (.ref a) .opq
inductive DvL (K : PySem.W.Frag) (H : Hp) : List V → List Dt → Prop
  | nil : DvL K H [] []
  | cons {v : V} {t : Dt} {vs : List V} {ts : List Dt} : Dv K H v t → DvL K H vs ts → DvL K H (v :: vs) (t :: ts)
end
theorem same_seqT {K : PySem.W.Frag} {H H' : Hp} {a : Addr} {xs : List V} (e : Same H H') (h : SqT K H a xs) : SqT K H' a xs := by
  rcases h with (h | ⟨o, h⟩) | h
  · exact .inl (.inl (e _ _ h))
  · exact .inl (.inr ⟨o, e _ _ h⟩)
  · exact .inr h
mutual
theorem dvM {K : PySem.W.Frag} {H H' : Hp} (s : Same H H') : ∀ {v : V} {d : Dt}, Dv K H v d → Dv K H' v d
  | _, _, .non => .non
  | _, _, .bl b => .bl b
  | _, _, .int i => .int i
  | _, _, .str x => .str x
  | _, _, .tup h a => .tup (same_seqT s h) (dvLM s a)
  | _, _, .lst h => .lst (s _ _ h)
  | _, _, .dct h => .dct (s _ _ h)
theorem dvLM {K : PySem.W.Frag} {H H' : Hp} (s : Same H H') : ∀ {vs : List V} {ds : List Dt}, DvL K H vs ds → DvL K H' vs ds
  | _, _, .nil => .nil
  | _, _, .cons a b => .cons (dvM s a) (dvLM s b)
end
theorem dvl_len {K : PySem.W.Frag} {H : Hp} : ∀ {vs : List V} {ds : List Dt}, DvL K H vs ds → vs.length = ds.length
  | _, _, .nil => rfl
  | _, _, .cons _ t => congrArg Nat.succ (dvl_len t)
theorem dvl_app {K : PySem.W.Frag} {H : Hp} : ∀ {vs : List V} {ds : List Dt} {us : List V} {es : List Dt}, DvL K H vs ds → DvL K H us es → DvL K H (vs ++ us) (ds ++ es)
  | _, _, _, _, .nil, r => r
  | _, _, _, _, .cons a b, r => .cons a (dvl_app b r)
theorem dvl_get {K : PySem.W.Frag} {H : Hp} : ∀ {vs : List V} {ds : List Dt} {i : Nat} {v : V}, DvL K H vs ds → vs[i]? = some v → ∃ d, ds[i]? = some d ∧ Dv K H v d
  | _, _, 0, _, .cons a _, h => by cases h; exact ⟨_, rfl, a⟩
  | _, _, i + 1, _, .cons _ b, h => by
    obtain ⟨d, e, z⟩ := dvl_get (i := i) b (by simpa using h)
    exact ⟨d, by simpa using e, z⟩
  | _, _, _, _, .nil, h => by simp at h
theorem dvl_take {K : PySem.W.Frag} {H : Hp} : ∀ {vs : List V} {ds : List Dt} (n : Nat), DvL K H vs ds → DvL K H (vs.take n) (ds.take n)
  | _, _, 0, _ => by simpa using DvL.nil
  | _, _, n + 1, .nil => by simpa using DvL.nil
  | _, _, n + 1, .cons a b => by simpa using DvL.cons a (dvl_take n b)
theorem dvl_drop {K : PySem.W.Frag} {H : Hp} : ∀ {vs : List V} {ds : List Dt} (n : Nat), DvL K H vs ds → DvL K H (vs.drop n) (ds.drop n)
  | _, _, 0, h => by simpa using h
  | _, _, n + 1, .nil => by simpa using DvL.nil
  | _, _, n + 1, .cons a b => by simpa using dvl_drop n b
theorem dvl_rev {K : PySem.W.Frag} {H : Hp} : ∀ {vs : List V} {ds : List Dt}, DvL K H vs ds → DvL K H vs.reverse ds.reverse
  | _, _, .nil => by simpa using DvL.nil
  | _, _, .cons a b => by
    rw [List.reverse_cons, List.reverse_cons]
    exact dvl_app (dvl_rev b) (.cons a .nil)
/-! sizes -/
theorem ndL_app : ∀ a b, ndL (a ++ b) = ndL a + ndL b
  | [], b => by simp [ndL]
  | t :: a, b => by simp only [List.cons_append, ndL, ndL_app a b]; omega
theorem depL_app : ∀ a b, depL (a ++ b) = max (depL a) (depL b)
  | [], b => by simp [depL]
  | t :: a, b => by simp only [List.cons_append, depL, depL_app a b]; omega
theorem okdL_app (c : Nat) : ∀ a b, okdL c (a ++ b) = (okdL c a && okdL c b)
  | [], b => by simp [okdL]
  | t :: a, b => by simp only [List.cons_append, okdL, okdL_app c a b, Bool.and_assoc]
theorem okdL_all (c : Nat) : ∀ l, okdL c l = l.all (okd c)
  | [] => by simp [okdL]
  | t :: l => by simp only [okdL, List.all_cons, okdL_all c l]
theorem dep_mem : ∀ {l : List Dt} {t : Dt}, t ∈ l → dep t ≤ depL l
  | a :: l, t, h => by
    rw [depL]
    rcases List.mem_cons.mp h with rfl | h
    · omega
    · have := dep_mem h
      omega
theorem nd_mem : ∀ {l : List Dt} {t : Dt}, t ∈ l → nd t ≤ ndL l
  | a :: l, t, h => by
    rw [ndL]
    rcases List.mem_cons.mp h with rfl | h
    · omega
    · have := nd_mem h
      omega
theorem depL_le {l : List Dt} {e : Nat} (h : ∀ t ∈ l, dep t ≤ e) : depL l ≤ e := by
  induction l with
  | nil => simp [depL]
  | cons a l ih =>
    rw [depL]
    have h1 := h a List.mem_cons_self
    have h2 := ih fun t ht => h t (List.mem_cons_of_mem _ ht)
    omega
/-- a value of at most n tuples, e deep, of tuples no longer than c, off the tape -/
def Fv (K : PySem.W.Frag) (d : Addr) (H : Hp) (c n e : Nat) (v : V) : Prop := ∃ t, Dv K (delH H d) v t ∧ nd t ≤ n ∧ dep t ≤ e ∧ okd c t = true
theorem Fv.but {K : PySem.W.Frag} {d : Addr} {H H' : Hp} {c n e : Nat} {v : V} (h : Fv K d H c n e v) (b : But d H H') : Fv K d H' c n e v := by
  obtain ⟨t, h1, h2⟩ := h
  exact ⟨t, dvM (But.off b) h1, h2⟩
theorem Fv.mono {K : PySem.W.Frag} {d : Addr} {H : Hp} {c n n' e e' : Nat} {v : V} (h : Fv K d H c n e v) (k : n ≤ n') (k2 : e ≤ e') : Fv K d H c n' e' v := by
  obtain ⟨t, h1, h2, h3, h4⟩ := h
  exact ⟨t, h1, Nat.le_trans h2 k, Nat.le_trans h3 k2, h4⟩
theorem Fv.wide {K : PySem.W.Frag} {d : Addr} {H : Hp} {c c' n e : Nat} {v : V} (h : Fv K d H c n e v) (k : c ≤ c') : Fv K d H c' n e v := by
  obtain ⟨t, h1, h2, h3, h4⟩ := h
  exact ⟨t, h1, h2, h3, okd_mono k t h4⟩
/-- fields of a tuple: k of them, of at most n tuples, e deep -/
def Fa (K : PySem.W.Frag) (d : Addr) (H : Hp) (c k n e : Nat) (vs : List V) : Prop := vs.length = k ∧ ∃ ts, DvL K (delH H d) vs ts ∧ ndL ts ≤ n ∧ depL ts ≤ e ∧ okdL c ts = true
section
variable {K : PySem.W.Frag} {d : Addr} {H : Hp} {c n n2 e k : Nat} {v : V} {vs : List V}
theorem fa_nil : Fa K d H c 0 0 e [] := ⟨rfl, [], .nil, by simp [ndL], by simp [depL], by simp [okdL]⟩
theorem fa_cons (h : Fv K d H c n e v) (r : Fa K d H c k n2 e vs) : Fa K d H c (k + 1) (n + n2) e (v :: vs) := by
  obtain ⟨t, h1, h2, h3, h4⟩ := h
  obtain ⟨rl, ts, r1, r2, r3, r4⟩ := r
  refine ⟨by rw [List.length_cons, rl], t :: ts, .cons h1 r1, ?_, ?_, ?_⟩
  · rw [ndL]; omega
  · rw [depL]; omega
  · rw [okdL, h4, r4]; rfl
theorem mkF {T : Addr} (hd : ∃ o, H d = some o) (nT : H T = none) (hf : Fa K d H c k n e vs) (hk : k ≤ c) : Fv K d (upd H T (.tup vs)) c (n + 1) (e + 1) (.ref T) := by
  obtain ⟨hl, ts, h1, h2, h3, h4⟩ := hf
  obtain ⟨o, ho⟩ := hd
  have nTd : T ≠ d := (ne_of_none ho nT).symm
  have s : Same (delH H d) (delH (upd H T (.tup vs)) d) := Same.delH (same_new same_id nT) d
  have lt := dvl_len h1
  refine ⟨.tup ts, .tup (SqT.of ((delH_ne nTd).trans upd_same)) (dvLM s h1), ?_, ?_, ?_⟩
  · rw [nd]; omega
  · rw [dep]; omega
  · rw [okd, h4, Bool.and_true]
    exact decide_eq_true (by omega)
end
end Toy


/-! a set of texts, of a list or tuple of any length: how many it has is told by a bound -/
namespace SS2
open PySem PySem.Spec PyProof.Rows
/-- among the first i of zs c are different; T tells which stand there -/
def Cn (zs : List Str) (i c : Nat) : Prop := c ≤ i ∧ (c = i ↔ (zs.take i).Nodup)
def TM (zs : List Str) (i : Nat) (T : Str → Bool) : Prop := ∀ k, T k = decide (k ∈ zs.take i)
theorem take_next {zs : List Str} {i : Nat} (h : i < zs.length) : zs.take (i + 1) = zs.take i ++ [zs.getD i Str.empty] := by
  rw [List.take_add_one, List.getElem?_eq_getElem h, List.getD_eq_getElem?_getD, List.getElem?_eq_getElem h]
  rfl
theorem TM.next {zs : List Str} {i : Nat} {T : Str → Bool} (h : TM zs i T) (hi : i < zs.length) : TM zs (i + 1) (fun k' => T k' || decide (k' = zs.getD i Str.empty)) := by
  intro k
  show (T k || decide (k = zs.getD i Str.empty)) = _
  rw [h k, take_next hi, Bool.eq_iff_iff]
  simp
theorem Cn.next {zs : List Str} {i c : Nat} {T : Str → Bool} (h : Cn zs i c) (t : TM zs i T) (hi : i < zs.length) : Cn zs (i + 1) (if T (zs.getD i Str.empty) = true then c else c + 1) := by
  obtain ⟨h1, h2⟩ := h
  have e := t (zs.getD i Str.empty)
  unfold Cn
  rw [take_next hi, List.nodup_append]
  cases ht : T (zs.getD i Str.empty) with
  | true =>
    rw [ht] at e
    have hm := of_decide_eq_true e.symm
    rw [if_pos rfl]
    refine ⟨by omega, fun z => by omega, fun z => ?_⟩
    exact absurd rfl (z.2.2 _ hm _ (List.mem_singleton.mpr rfl))
  | false =>
    rw [ht] at e
    have hm := of_decide_eq_false e.symm
    rw [if_neg Bool.false_ne_true]
    refine ⟨by omega, fun z => ⟨h2.mp (by omega), by simp, fun a ha b hb ab => ?_⟩, fun z => by rw [h2.mpr z.1]⟩
    rw [List.mem_singleton] at hb
    rw [ab, hb] at ha
    exact hm ha
def emptyS (led : Bool) : Obj := { cls := .type "set", dict := none, data := .set #[] 0 (.fresh 0 0 led) }
section
variable {prog : Program} {w : World} {A : Around} {R : Result → Shared → Prop} {I : Addr} {fp wr : List Addr} {G : Array GenState → Array GenState → Prop} {n : Nat} {P : Nat → Value → Prop} {St : Nat → Shared → Prop}
theorem loopS (W : WalksS prog w A.in1 I fp wr G n P St) (S : Addr) (hSf : S ∉ fp) (zs : List Str) (hsz : zs.length = n) (hn : n + 1 < scanBound) (hval : ∀ i v, P i v → ∃ t, v = .str (zs.getD i Str.empty) t) :
    ∀ (k i : Nat) (s : Shared), n - i = k → i ≤ n → St i s → (∃ c, Cn zs i c ∧ ∃ T, TM zs i T ∧ s.heap.SetOf (PySem.strKind prog w) S T c) → (∀ s', Moved (S :: wr) G s s' → (∃ c, Cn zs n c ∧ ∃ T, s'.heap.SetOf (PySem.strKind prog w) S T c) → R (.ok (.ret .none)) s') → codeAny (model prog w) A (.builtin "set.update.loop" ⟨[.ref S, .ref I], []⟩) R s := by
  have hSw : S ∉ wr := fun h => hSf (W.sub _ h)
  have move : ∀ {s s' : Shared} {c : Nat} {T : Str → Bool}, Moved wr G s s' → s.heap.SetOf (PySem.strKind prog w) S T c → s'.heap.SetOf (PySem.strKind prog w) S T c := fun hm hS => by
    obtain ⟨o, es, ep, t, ho, rest⟩ := hS
    exact ⟨o, es, ep, t, hm.heap S _ hSw ho, rest⟩
  intro k
  induction k with
  | zero =>
    rintro i s hk hi hst ⟨c, hc, T, hT, hS⟩ hR
    obtain rfl : i = n := by omega
    refine codeAny_builtin PyProof.Rows.F.entry_set_update_loop ?_
    rw [Around.under_plainId PyProof.Rows.F.plain_set_update_loop _]
    refine (show wpAny _ A.in1 (pyNext (.ref I) >>= _) _ _ s from wpAny_bind (W.done s _ _ hst fun s' hm => ?_))
    exact (show wpAny _ A.in1 (ret Value.none) _ _ s' from wpAny_pure (hR s' (hm.mono fun b hb => List.mem_cons_of_mem _ hb) ⟨c, hc, T, move hm hS⟩))
  | succ k ih =>
    rintro i s hk hi hst ⟨c, hc, T, hT, hS⟩ hR
    have hlt : i < n := by omega
    refine codeAny_builtin PyProof.Rows.F.entry_set_update_loop ?_
    rw [Around.under_plainId PyProof.Rows.F.plain_set_update_loop _]
    refine (show wpAny _ A.in1 (pyNext (.ref I) >>= _) _ _ s from wpAny_bind (W.item i s _ _ hlt hst fun v s' hP hst' hm => ?_))
    obtain ⟨t, rfl⟩ := hval i v hP
    have hS1 := move hm hS
    refine (show wpAny _ A.in1 (holding [Value.str (zs.getD i Str.empty) t] (setAdd S (.str (zs.getD i Str.empty) t)) >>= _) _ _ s' from wpAny_bind (wpAny_holding ?_))
    unfold setAdd
    refine wpAny_holding (wpAny_bind ((PySem.strKind prog w).pyHash (k := zs.getD i Str.empty) (strKind_is _ _ _ _) ?_))
    have hci := hc.1
    refine wpAny_setAddHashed_of (knd := PySem.strKind prog w) (s := { s' with toks := s'.toks + 1 }) (strKind_is _ _ _ _) rfl hS1 (by omega) fun h' hsb hS2 => ?_
    have le := hc.next hT (by omega)
    have tm := hT.next (by omega)
    refine wpAny_pure ⟨plainId_quiet PyProof.Rows.F.plain_set_update_loop _, ih (i + 1) _ (by omega) hlt (W.frame _ s' _ _ hst' (Nat.le_succ _) fun b hb o e => ?_) ⟨_, le, _, tm, hS2⟩ fun s2 hm2 hS3 => hR s2 (Moved.trans W.gtrans ((hm.mono fun b hb => List.mem_cons_of_mem _ hb).then_heap (Nat.le_succ _) fun b o hb e => ?_) hm2) hS3⟩
    · exact (hsb.2 b (fun z : b = S => hSf (by rw [← z]; exact hb))).trans e
    · exact (hsb.2 b (fun z : b = S => hb (by rw [z]; exact List.mem_cons_self))).trans e
end
section
variable {prog : Program} {w : World} {A : Around} {E : Value → Shared → Prop} {s : Shared}
theorem call_setL {l : Addr} {ys : Array Value} {zs : List Str} {Q : Value → Shared → Prop} (hh : A.handled = none) (hl : s.heap.IsList l ys) (hi : PyProof.Rows.StrsAre ys.toList zs) (hn : zs.length + 1 < scanBound)
    (h : ∀ (h' : Heap) (tk c : Nat), Cn zs zs.length c → (∃ S, h'.SetOf (PySem.strKind prog w) s.heap.objs.size S c) → (∀ b o, b < s.heap.objs.size → s.heap.get? b = some o → h'.get? b = some o) → Q (.ref s.heap.objs.size) { s with heap := h', toks := tk }) :
    wpAny (model prog w) A (call (.type "set") [.ref l]) Q E s := by
  have facts := And.intro PySem.F.called_set.made PySem.F.called_set.sub
  obtain ⟨hmade, hsub⟩ := facts
  obtain ⟨c0, tl0, hmro⟩ := PySem.F.called_set.mro
  refine wpAny_call (codeAny_of_tree (show wpAny _ _ (callAny (.type "set") _) _ _ _ from wpAny_pure ⟨Code.quiet_builtin _ (by decide +kernel), codeAny_builtin PySem.F.entry_type_call ?_⟩))
  rw [Around.under_plain (weight_type_call_type "set" [.ref l] []) rfl]
  have facts2 := And.intro PySem.F.called_set.notType (And.intro PySem.F.called_set.canCreate (PySem.F.typeCall_set_1 (.ref l)))
  obtain ⟨h1, h2, hct⟩ := facts2
  repeat (any_goals (first | assumption | wp_step))
  refine codeAny_mono (code_set_new_1 (.ref l) (E := E) (Q₁ := fun ob s1 => ∃ led : Bool, ob = .ref s.heap.objs.size ∧ s1 = { s with heap := s.heap.push (emptyS led) }) fun led => ⟨led, rfl, rfl⟩) fun r s1 hr => ?_
  cases r with
  | error e => exact hr
  | ok fl =>
    cases fl with
    | ret ob =>
      obtain ⟨led, rfl, rfl⟩ := hr
      have hS : (s.heap.push (emptyS led)).get? s.heap.objs.size = some (emptyS led) := Heap.get?_push_size _ rfl
      have hT : Shared.TypeIs { s with heap := s.heap.push (emptyS led) } (.ref s.heap.objs.size) "set" := ⟨_, hS, rfl⟩
      have facts3 := And.intro PySem.F.called_set.init.lookup (PySem.F.called_set.init.bind (.ref s.heap.objs.size))
      obtain ⟨hli, hbi⟩ := facts3
      repeat (any_goals (first | assumption | wp_step))
      refine codeAny_mono (codeAny_call_builtin (R := wants (fun r s2 => r = .none ∧ ∃ h' tk c, s2 = { s with heap := h', toks := tk } ∧ (Cn zs zs.length c ∧ ∃ S, h'.SetOf (PySem.strKind prog w) s.heap.objs.size S c) ∧ (∀ b o, b < s.heap.objs.size → s.heap.get? b = some o → h'.get? b = some o)) E) PySem.F.called_set.init.plain PySem.F.entry_set_init (check_set_init_1 hT ?_)) fun r2 s2 hr2 => ?_
      · obtain ⟨⟨oc, odi, oda, osl⟩, hol, hcl, nl, hdl⟩ := hl
        simp only at hcl hdl
        subst hcl hdl
        have hol' : (s.heap.push (emptyS led)).get? l = some { cls := .type "list", dict := odi, data := .seq ys nl, slots := osl } := Heap.get?_push_of_some _ hol
        have facts4 := And.intro PySem.F.sub_list_set PySem.F.sub_list_frozenset
        obtain ⟨hsls, hslf⟩ := facts4
        have hne : (Value.type "list" == Value.type "dict") = false := by decide
        have hl1 : (s.heap.push (emptyS led)).IsList l ys := ⟨_, hol', rfl, nl, rfl⟩
        unfold Builtin.«set.__init__» noKeywords Builtin.Frozenset.updateFrom
        generalize hPI : pyIter = PI
        wp_walk
        subst hPI
        refine wpAny_pyIter_list hl1 (wpAny_bind (wpAny_runValue ?_))
        have hlS : l < s.heap.objs.size := Heap.lt_size hol
        have hneI : l ≠ (s.heap.push (emptyS led)).objs.size := by
          rw [Heap.size_push]
          exact Nat.ne_of_lt (Nat.lt_succ_of_lt hlS)
        have hSf : s.heap.objs.size ∉ [(s.heap.push (emptyS led)).objs.size, l] := by
          rw [Heap.size_push]
          simp only [List.mem_cons, List.not_mem_nil, or_false, not_or]
          exact ⟨Nat.ne_of_lt (Nat.lt_succ_self _), Nat.ne_of_gt hlS⟩
        have hsz : zs.length = ys.size := by rw [← StrsAre.len_eq hi, Array.length_toList]
        have hval : ∀ (i : Nat) (v : Value), ys[i]? = some v → ∃ t, v = .str (zs.getD i Str.empty) t := fun i v hv => SS.strs_at hi i v (by rw [Array.getElem?_toList]; exact hv)
        refine loopS ((Walks.list (by simp [hh] : A.in1.in1.in1.handled = none) _ l hneI ys).toS) s.heap.objs.size hSf zs hsz (by rw [← hsz]; exact hn) hval (ys.size - 0) 0 _ (by omega) (Nat.zero_le _) ⟨⟨_, Heap.get?_push_size _ rfl, rfl, rfl⟩, (hl1.push _)⟩ ?hS0 ?hR
        case hS0 =>
          have hget : ((s.heap.push (emptyS led)).push { cls := .type "list_iterator", data := .fields #[.ref l, .int 0 0] }).get? s.heap.objs.size = some (emptyS led) := Heap.get?_push_of_some _ hS
          exact ⟨0, ⟨Nat.le_refl _, by simp⟩, _, (fun k => by simp), (PyProof.Rows.setObjOf_fresh (knd := PySem.strKind prog w) led).setOf hget (by unfold scanBound; omega)⟩
        case hR =>
          rintro ⟨h', g', d', tk', os'⟩ hm ⟨c, hc, S, hS'⟩
          obtain rfl : g' = s.gens := hm.gens
          obtain rfl : d' = s.drawn := hm.drawn
          obtain rfl : os' = s.os := hm.os
          show wpAny _ _ _ _ _ _
          refine wpAny_pure (show wpAny _ _ (ret Value.none) _ _ _ from wpAny_pure ⟨rfl, h', tk', c, rfl, ⟨by rw [hsz]; exact hc, S, hS'⟩, fun b o hb e => ?_⟩)
          refine hm.heap b o ?_ (Heap.get?_push_of_some _ (Heap.get?_push_of_some _ e))
          rw [Heap.size_push]
          simp only [List.mem_cons, List.not_mem_nil, or_false, not_or]
          exact ⟨Nat.ne_of_lt hb, Nat.ne_of_lt (Nat.lt_succ_of_lt hb)⟩
      · cases r2 with
        | error e => exact hr2
        | ok fl2 =>
          cases fl2 with
          | ret r =>
            obtain ⟨rfl, h', tk, c, rfl, ⟨hc, hS'⟩, hk'⟩ := hr2
            repeat (any_goals (first | assumption | wp_step))
            exact h _ _ c hc hS' hk'
          | _ => exact hr2.elim
    | _ => exact hr.elim
theorem call_setT {l : Addr} {ys : Array Value} {zs : List Str} {Q : Value → Shared → Prop} (hh : A.handled = none) (hl : s.heap.IsTuple l ys) (hi : PyProof.Rows.StrsAre ys.toList zs) (hn : zs.length + 1 < scanBound)
    (h : ∀ (h' : Heap) (tk c : Nat), Cn zs zs.length c → (∃ S, h'.SetOf (PySem.strKind prog w) s.heap.objs.size S c) → (∀ b o, b < s.heap.objs.size → s.heap.get? b = some o → h'.get? b = some o) → Q (.ref s.heap.objs.size) { s with heap := h', toks := tk }) :
    wpAny (model prog w) A (call (.type "set") [.ref l]) Q E s := by
  have facts := And.intro PySem.F.called_set.made PySem.F.called_set.sub
  obtain ⟨hmade, hsub⟩ := facts
  obtain ⟨c0, tl0, hmro⟩ := PySem.F.called_set.mro
  refine wpAny_call (codeAny_of_tree (show wpAny _ _ (callAny (.type "set") _) _ _ _ from wpAny_pure ⟨Code.quiet_builtin _ (by decide +kernel), codeAny_builtin PySem.F.entry_type_call ?_⟩))
  rw [Around.under_plain (weight_type_call_type "set" [.ref l] []) rfl]
  have facts2 := And.intro PySem.F.called_set.notType (And.intro PySem.F.called_set.canCreate (PySem.F.typeCall_set_1 (.ref l)))
  obtain ⟨h1, h2, hct⟩ := facts2
  repeat (any_goals (first | assumption | wp_step))
  refine codeAny_mono (code_set_new_1 (.ref l) (E := E) (Q₁ := fun ob s1 => ∃ led : Bool, ob = .ref s.heap.objs.size ∧ s1 = { s with heap := s.heap.push (emptyS led) }) fun led => ⟨led, rfl, rfl⟩) fun r s1 hr => ?_
  cases r with
  | error e => exact hr
  | ok fl =>
    cases fl with
    | ret ob =>
      obtain ⟨led, rfl, rfl⟩ := hr
      have hS : (s.heap.push (emptyS led)).get? s.heap.objs.size = some (emptyS led) := Heap.get?_push_size _ rfl
      have hT : Shared.TypeIs { s with heap := s.heap.push (emptyS led) } (.ref s.heap.objs.size) "set" := ⟨_, hS, rfl⟩
      have facts3 := And.intro PySem.F.called_set.init.lookup (PySem.F.called_set.init.bind (.ref s.heap.objs.size))
      obtain ⟨hli, hbi⟩ := facts3
      repeat (any_goals (first | assumption | wp_step))
      refine codeAny_mono (codeAny_call_builtin (R := wants (fun r s2 => r = .none ∧ ∃ h' tk c, s2 = { s with heap := h', toks := tk } ∧ (Cn zs zs.length c ∧ ∃ S, h'.SetOf (PySem.strKind prog w) s.heap.objs.size S c) ∧ (∀ b o, b < s.heap.objs.size → s.heap.get? b = some o → h'.get? b = some o)) E) PySem.F.called_set.init.plain PySem.F.entry_set_init (check_set_init_1 hT ?_)) fun r2 s2 hr2 => ?_
      · obtain ⟨⟨oc, odi, oda, osl⟩, hol, hcl, nl, hdl⟩ := hl
        simp only at hcl hdl
        subst hcl hdl
        have hol' : (s.heap.push (emptyS led)).get? l = some { cls := .type "tuple", dict := odi, data := .seq ys nl, slots := osl } := Heap.get?_push_of_some _ hol
        have facts4 := And.intro PySem.F.sub_tuple_set PySem.F.sub_tuple_frozenset
        obtain ⟨hsls, hslf⟩ := facts4
        have hne : (Value.type "tuple" == Value.type "dict") = false := by decide
        have hl1 : (s.heap.push (emptyS led)).IsTuple l ys := ⟨_, hol', rfl, nl, rfl⟩
        unfold Builtin.«set.__init__» noKeywords Builtin.Frozenset.updateFrom
        generalize hPI : pyIter = PI
        wp_walk
        subst hPI
        refine wpAny_pyIter_tuple hl1 (wpAny_bind (wpAny_runValue ?_))
        have hlS : l < s.heap.objs.size := Heap.lt_size hol
        have hneI : l ≠ (s.heap.push (emptyS led)).objs.size := by
          rw [Heap.size_push]
          exact Nat.ne_of_lt (Nat.lt_succ_of_lt hlS)
        have hSf : s.heap.objs.size ∉ [(s.heap.push (emptyS led)).objs.size, l] := by
          rw [Heap.size_push]
          simp only [List.mem_cons, List.not_mem_nil, or_false, not_or]
          exact ⟨Nat.ne_of_lt (Nat.lt_succ_self _), Nat.ne_of_gt hlS⟩
        have hsz : zs.length = ys.size := by rw [← StrsAre.len_eq hi, Array.length_toList]
        have hval : ∀ (i : Nat) (v : Value), ys[i]? = some v → ∃ t, v = .str (zs.getD i Str.empty) t := fun i v hv => SS.strs_at hi i v (by rw [Array.getElem?_toList]; exact hv)
        refine loopS ((Walks.tuple (by simp [hh] : A.in1.in1.in1.handled = none) _ l hneI ys).toS) s.heap.objs.size hSf zs hsz (by rw [← hsz]; exact hn) hval (ys.size - 0) 0 _ (by omega) (Nat.zero_le _) ⟨⟨_, Heap.get?_push_size _ rfl, rfl, rfl⟩, (hl1.push _)⟩ ?hS0 ?hR
        case hS0 =>
          have hget : ((s.heap.push (emptyS led)).push { cls := .type "tuple_iterator", data := .fields #[.ref l, .int 0 0] }).get? s.heap.objs.size = some (emptyS led) := Heap.get?_push_of_some _ hS
          exact ⟨0, ⟨Nat.le_refl _, by simp⟩, _, (fun k => by simp), (PyProof.Rows.setObjOf_fresh (knd := PySem.strKind prog w) led).setOf hget (by unfold scanBound; omega)⟩
        case hR =>
          rintro ⟨h', g', d', tk', os'⟩ hm ⟨c, hc, S, hS'⟩
          obtain rfl : g' = s.gens := hm.gens
          obtain rfl : d' = s.drawn := hm.drawn
          obtain rfl : os' = s.os := hm.os
          show wpAny _ _ _ _ _ _
          refine wpAny_pure (show wpAny _ _ (ret Value.none) _ _ _ from wpAny_pure ⟨rfl, h', tk', c, rfl, ⟨by rw [hsz]; exact hc, S, hS'⟩, fun b o hb e => ?_⟩)
          refine hm.heap b o ?_ (Heap.get?_push_of_some _ (Heap.get?_push_of_some _ e))
          rw [Heap.size_push]
          simp only [List.mem_cons, List.not_mem_nil, or_false, not_or]
          exact ⟨Nat.ne_of_lt hb, Nat.ne_of_lt (Nat.lt_succ_of_lt hb)⟩
      · cases r2 with
        | error e => exact hr2
        | ok fl2 =>
          cases fl2 with
          | ret r =>
            obtain ⟨rfl, h', tk, c, rfl, ⟨hc, hS'⟩, hk'⟩ := hr2
            repeat (any_goals (first | assumption | wp_step))
            exact h _ _ c hc hS' hk'
          | _ => exact hr2.elim
    | _ => exact hr.elim
end
end SS2
namespace L2
open PySem PySem.Spec PyProof.Rows
/-- len(set(xs)), xs a list or tuple of texts -/
def tLenSetA (K : PySem.W.Frag) (ta : TE) : TE := fun σ H Q => ta σ H fun x H1 => ∃ l, ∃ xs : List Str, x = .ref l ∧ (SqL K H1 l (xs.map V.str) ∨ SqT K H1 l (xs.map V.str)) ∧ xs.length ≤ 300 ∧ ∀ c : Nat, (c = xs.length ↔ xs.Nodup) → Q (.int c) H1
theorem pe_lenSetA {X : Cx} {a : Expr} {ta : TE} {p p2 q pos : Pos} (hc : X.calm = true) (hg : Gl X "len") (hm : X.mg "len" = none) (hg2 : Gl X "set") (hm2 : X.mg "set" = none) (ha : PE X a ta) (na : starEach [a] X.env = (false, eval a X.env) :: starEach [] X.env := by rfl) :
    PE X (.Call (.Name "len" p) [.Call (.Name "set" p2) [a] [] q] [] pos) (tLenSetA X.K ta) := by
  refine ⟨fun pins s σ H Q I h => Call_ (ld_blt I hg hm boot_len (PyProof.Rows.callWith_builtin1 (PyProof.Rows.args_cons (Call_ (ld_blt I hg2 hm2 boot_set ?_)) rfl) rfl rfl))⟩
  refine PyProof.Rows.callWith_type1 (PyProof.Rows.args_cons (thn (ha.run pins s σ H _ I h) fun v s1 ⟨x, H1, I1, r1, l, xs, ex, hq, h1, q1⟩ => PyProof.Rows.args_nil ?_) na) na rfl
  subst ex
  cases r1
  have sb : xs.length + 1 < scanBound := by
    unfold scanBound
    omega
  have fin : ∀ (h' : Heap) (tk c : Nat), SS2.Cn xs xs.length c → (∃ S, h'.SetOf (PySem.strKind X.prog X.w) s1.heap.objs.size S c) → (∀ b o, b < s1.heap.objs.size → s1.heap.get? b = some o → h'.get? b = some o) →
      wpAny (model X.prog X.w) X.A (spliced (backTo pos (starEach [] X.env))) (fun vs s2 => wpAny (model X.prog X.w) X.A (call (.builtin "len") (Value.ref s1.heap.objs.size :: vs)) (EP X pins σ Q) X.xe s2) X.xe { s1 with heap := h', toks := tk } := fun h' tk c hc' ⟨S, hS⟩ hk => by
    obtain ⟨o, es, ep, t, ho, hex, hd, _, _, _, hf, hn⟩ := hS
    have I2 : Inv X pins σ H1 { s1 with heap := h', toks := tk } := I1.kept fun b o e => hk b o (Heap.lt_size e) e
    exact PyProof.Rows.args_nil (call_len_set ho hex hd hf (by have := hc'.1; rw [hn] <;> omega) ⟨.int c, H1, I2.tok _, ⟨_, by rw [hn]⟩, q1 c (by have := hc'.2; rwa [List.take_length] at this)⟩)
  rcases hq with hq | hq
  · obtain ⟨its, r, pl, hz⟩ := I1.list hq
    exact SS2.call_setL (I1.ok.hd hc) pl.isList (by simpa using strsAre_of r) sb fin
  · obtain ⟨its, r, pl, hz⟩ := I1.tuple hq
    exact SS2.call_setT (I1.ok.hd hc) pl (by simpa using strsAre_of r) sb fin
end L2


/-! a text beside a dict; a tuple beside the empty one -/
namespace PySem.SeqAt
open AutoSeq1 (wpAny_loadPart')
open MeetsSeq
theorem str_eq_declines_dict (b : Str) (u : Tok) (l : Addr) (c : Value) (items : Array DictEntry) (n : Nat) (dd : Option Addr) (sl : Array (Option Value)) :
    Meets (Builtin.«str.__eq__» ⟨[.str b u, .ref l], []⟩) (fun _ R s => s.heap.get? l = some { cls := c, dict := dd, data := .dict items n, slots := sl } ∧ R (.ok (.ret .notImplemented)) s) :=
  .of_wp fun prog w A R s h => by obtain ⟨hp, g, d, tk, os⟩ := s; obtain ⟨hl, h⟩ := h; wp_walk using wpAny_loadPart' hl, wpAny_load hl; exact ⟨_, rfl, h⟩
theorem dict_eq_declines_str (l : Addr) (items : Array DictEntry) (n : Nat) (dd : Option Addr) (sl : Array (Option Value)) (b : Str) (u : Tok) :
    Meets (Builtin.«dict.__eq__» ⟨[.ref l, .str b u], []⟩) (fun _ R s => s.heap.get? l = some { cls := .type "dict", dict := dd, data := .dict items n, slots := sl } ∧ R (.ok (.ret .notImplemented)) s) :=
  .of_wp fun prog w A R s h => by obtain ⟨hp, g, d, tk, os⟩ := s; obtain ⟨hl, h⟩ := h; have f1 := F.sub_str_dict; wp_walk using wpAny_loadPart' hl, wpAny_load hl; exact ⟨_, rfl, h⟩
section
variable {A : Around} {s : Shared}
theorem RcAt.str_dict {l : Addr} {items : Array DictEntry} {n : Nat} {dd : Option Addr} {sl : Array (Option Value)} (b : Str) (u : Tok) (ho : s.heap.get? l = some { cls := .type "dict", dict := dd, data := .dict items n, slots := sl }) (hu : A.units < cLine) : RcAt A s (.str b u) (.ref l) false := fun prog w E Q h => by
  exact rc_eq_decline_or (k := false) (typeIs_str s b u) ⟨_, ho, rfl⟩ (by decide) F.sub_dict_str F.slot_str_eq F.slot_dict_eq_refl
    (fun _ hq => call_meets F.slot_str_eq (typeIs_str s b u) F.entry_str_eq (F.args_str_eq_2 _ _) (str_eq_declines_dict b u l (.type "dict") items n dd sl) ⟨ho, hq⟩)
    (fun _ hq => call_meets F.slot_dict_eq_refl ⟨_, ho, rfl⟩ F.entry_dict_eq (F.args_dict_eq_2 _ _) (dict_eq_declines_str l items n dd sl b u) ⟨ho, hq⟩)
    (fun _ hq => wpAny_of_eq (rfl : isSame (.str b u) (.ref l) = pure false) hq) (.inr hu) h
theorem EqAt.str_dict {l : Addr} {items : Array DictEntry} {n : Nat} {dd : Option Addr} {sl : Array (Option Value)} (b : Str) (u : Tok) (ho : s.heap.get? l = some { cls := .type "dict", dict := dd, data := .dict items n, slots := sl }) (hu : A.units < cLine) : EqAt A s (.str b u) (.ref l) false := fun prog w E Q h => by
  unfold eqBool
  refine wpAny_holding ?_
  refine wpAny_ite_split (fun hab => absurd (eq_of_beq hab) nofun) (fun _ => ?_)
  exact wpAny_bind (RcAt.str_dict b u ho hu prog w E _ (wpAny_truthy_bool h))
end
theorem tuple_ne0 (l b : Addr) (items : Array Value) (n n2 : Nat) (dd dd2 : Option Addr) (sl sl2 : Array (Option Value)) :
    Meets (Builtin.«tuple.__ne__» ⟨[.ref l, .ref b], []⟩)
      (fun A R s => s.heap.get? l = some { cls := .type "tuple", dict := dd, data := .seq items n, slots := sl } ∧ s.heap.get? b = some { cls := .type "tuple", dict := dd2, data := .seq #[] n2, slots := sl2 } ∧
        R (.ok (.ret (.bool (items.size != 0)))) s) :=
  .of_wp fun prog w A R s h => by
    obtain ⟨hp, g, d, tk, os⟩ := s; obtain ⟨hl, hb, h⟩ := h
    have f2 := AutoSeq1.sub_tuple_tuple
    have hZ : (items.toList.zip (#[] : Array Value).toList) = [] := by simp
    wp_walk using wpAny_loadPart' hl, wpAny_loadPart' hb, wpAny_forIn_list _ (fun rest b s' => b.1 = none ∧ s' = ⟨hp, g, d, tk, os⟩ ∧ rest = []) _
    case turn =>
      rintro ⟨y, x⟩ rest b s' ⟨hb', rfl, hz⟩
      cases hz
    case fin =>
      rintro ⟨b1, b2⟩ s' ⟨hb', rfl, hz⟩
      simp only at hb'
      subst hb'
      wp_walk
      exact ⟨_, rfl, by simpa [Builtin.Tuple.tupleCompareSizes] using h⟩
    case h =>
      exact ⟨rfl, rfl, hZ⟩
theorem RcNe.tuple0 {A : Around} {s : Shared} {prog : Program} {w : World} {E : Value → Shared → Prop} {l b : Addr} {items : Array Value} {Q : Value → Shared → Prop} (hl : s.heap.IsTuple l items) (hb : s.heap.IsTuple b #[]) (hu : A.units < cLine)
    (h : Q (.bool (items.size != 0)) s) : wpAny (model prog w) A (compareOp .NotEq (.ref l) (.ref b)) Q E s := by
  obtain ⟨⟨cls, dd, data, sl⟩, ho, hc, n, hd⟩ := id hl
  obtain ⟨⟨cls2, dd2, data2, sl2⟩, ho2, hc2, n2, hd2⟩ := id hb
  simp only at hc hd hc2 hd2
  subst hc hd hc2 hd2
  exact richCompare_meets_room (op := .NotEq) ⟨_, ho, rfl⟩ ⟨_, ho2, rfl⟩ F.slot_tuple_ne F.entry_tuple_ne (F.args_tuple_ne_2 _ _) (tuple_ne0 l b items n n2 dd dd2 sl sl2)
    ⟨ho, ho2, show Value.bool (items.size != 0) ≠ Value.notImplemented ∧ Q (.bool (items.size != 0)) s from ⟨(fun x => nomatch x), h⟩⟩ hu
end PySem.SeqAt
namespace L2
open PySem PySem.Spec PyProof.Rows
section
variable {X : Cx}
def rNe0 (K : PySem.W.Frag) : R2 := fun x y H Q => ∃ (a b : Addr) (xs : List V), x = .ref a ∧ y = .ref b ∧ SqT K H a xs ∧ SqT K H b [] ∧ Q (.bl (!xs.isEmpty)) H
theorem op_neT0 (hu : X.A.units + 64 < cLine) : OpR X (compareOp .NotEq) (rNe0 X.K) := by
  intro pins s σ H x y v u Q I rx ry h
  obtain ⟨a, b, xs, rfl, rfl, ha, hb, q⟩ := h
  cases rx
  cases ry
  obtain ⟨its, r, pl, _⟩ := I.tuple ha
  obtain ⟨its2, r2, pl2, _⟩ := I.tuple hb
  cases r2
  refine SeqAt.RcNe.tuple0 pl pl2 (by omega) ⟨.bl _, H, I, rfl, ?_⟩
  have e : (its.toArray.size != 0) = !xs.isEmpty := by
    rw [List.size_toArray, ← r.length]
    cases xs <;> rfl
  rw [e]
  exact q
def rEq0 (K : PySem.W.Frag) : R2 := fun x y H Q => ∃ (a b : Addr) (xs : List V), x = .ref a ∧ y = .ref b ∧ SqT K H a xs ∧ SqT K H b [] ∧ Q (.bl xs.isEmpty) H
theorem op_eqT0 (hu : X.A.units + 64 < cLine) : OpR X (compareOp .Eq) (rEq0 X.K) := by
  intro pins s σ H x y v u Q I rx ry h
  obtain ⟨a, b, xs, rfl, rfl, ha, hb, q⟩ := h
  cases rx
  cases ry
  obtain ⟨its, r, pl, _⟩ := I.tuple ha
  obtain ⟨its2, r2, pl2, _⟩ := I.tuple hb
  cases r2
  refine SeqAt.eq_tupleAt (e := fun _ => true) pl pl2 (by omega) (fun j h1 h2 => by simp at h2) ⟨.bl _, H, I, rfl, ?_⟩
  have e : ((List.range (min its.toArray.size ([] : List Value).toArray.size)).all (fun _ => true) && its.toArray.size == ([] : List Value).toArray.size) = xs.isEmpty := by
    rw [List.size_toArray, ← r.length]
    cases xs <;> simp
  rw [e]
  exact q
/-- a value in a tuple of texts -/
def rInTx (K : PySem.W.Frag) : R2 := fun x y H Q => ∃ (p : Addr) (ks : List Str), y = .ref p ∧ SqT K H p (ks.map V.str) ∧ ((flatV x = true ∧ Q (.bl (inV x (ks.map V.str))) H) ∨ ∃ a, x = .ref a ∧ ((∃ us, SqL K H a us) ∨ (∃ us, SqT K H a us) ∨ ∃ m, H a = some (.dK m)) ∧ Q (.bl false) H)
theorem op_inTx (hu : X.A.units + 65 < cLine) : OpR X (compareOp .In) (rInTx X.K) := by
  intro pins s σ H x y v u Q I rx ry h
  obtain ⟨p, ks, rfl, hp, h⟩ := h
  rcases h with ⟨fx, q⟩ | ⟨a, rfl, ha, q⟩
  · exact op_in_seq pins s σ H x _ v u Q I rx ry ⟨p, _, rfl, .inr hp, fx, List.all_eq_true.mpr fun z hz => by
      obtain ⟨k, _, rfl⟩ := List.mem_map.mp hz
      rfl, q⟩
  · cases rx
    cases ry
    obtain ⟨its, r, pl, hz⟩ := I.tuple hp
    have hu1 : X.A.in1.units < cLine := by
      show X.A.units + 1 < cLine
      omega
    refine SeqAt.in_tupleAt (fun _ => false) pl (fun w hw => ?_) ⟨.bl _, H, I, rfl, ?_⟩
    · have hw' : w ∈ its := by simpa using hw
      obtain ⟨k, t, rfl⟩ : ∃ k t, w = Value.str k t := by
        have : ∀ {ks : List Str} {us : List Value}, Vals (ks.map V.str) us → ∀ u ∈ us, ∃ k t, u = Value.str k t := by
          intro ks us hv
          induction ks generalizing us with
          | nil => cases hv; intro u hu; cases hu
          | cons k ks ih =>
            cases hv with
            | cons r1 r2 =>
              obtain ⟨t, rfl⟩ := r1
              intro u hu
              rcases List.mem_cons.mp hu with rfl | hu
              · exact ⟨k, t, rfl⟩
              · exact ih r2 u hu
        exact this r w hw'
      rcases ha with ⟨us, ha⟩ | ⟨us, ha⟩ | ⟨m, ha⟩
      · obtain ⟨its2, _, pl2, _⟩ := I.list ha
        exact SeqAt.EqAt.str_list k t pl2.isList hu1
      · obtain ⟨its2, _, pl2, _⟩ := I.tuple ha
        exact SeqAt.EqAt.str_tuple k t pl2 hu1
      · obtain ⟨_, _, vs, _, o, es, ep, ho, hc, hd, _⟩ := (show ObjOk X.prog X.w H s.heap a (.dK m) from I.hok a _ ha)
        obtain ⟨cls, dd, data, sl⟩ := o
        have hc1 := hc.1
        simp only at hc1 hd
        subst hc1 hd
        exact SeqAt.EqAt.str_dict k t ho hu1
    · have e : its.toArray.any (fun _ => false) = false := by simp
      rw [e]
      exact q
end
end L2


/-! a tuple backwards -/
namespace L2
open PySem PySem.Spec PyProof.Rows HT
section
variable {prog : Program} {w : World} {A : Around} {E : Value → Shared → Prop} {s : Shared}
theorem adjust_rev (n : Nat) : Builtin.Slice.sliceAdjust none none (-1) (n : Int) = ((n : Int) - 1, -1) := by
  unfold Builtin.Slice.sliceAdjust
  simp
theorem places_rev (n : Nat) : Builtin.Slice.slicePlaces ((n : Int) - 1) (-1) (-1) = n := by
  unfold Builtin.Slice.slicePlaces
  have h1 : ¬ ((-1 : Int) > 0) := by omega
  simp only [h1, if_false]
  by_cases h : (n : Int) - 1 > -1
  · rw [if_pos h]
    have : (n : Int) - 1 - -1 - 1 = (n : Int) - 1 := by omega
    rw [this, show -(-1 : Int) = 1 by decide, Int.ediv_one]
    omega
  · rw [if_neg h]
    omega
theorem sliceApplied_rev {sl : Addr} {u : Tok} {n : Nat} {Q : Int × Int × Nat → Shared → Prop} (hs : s.heap.IsSliceOf sl .none .none (.int (-1) u))
    (h : Q ((n : Int) - 1, -1, n) s) : wpAny (model prog w) A (Builtin.Slice.sliceApplied (.ref sl) (pure (n : Int))) Q E s := by
  obtain ⟨os, hos, hcs, hds⟩ := id hs
  unfold Builtin.Slice.sliceApplied Builtin.Slice.sliceFields
  refine wpAny_bind (wpAny_bind (wpAny_field hos hds (x := .none) rfl (wpAny_bind (wpAny_field hos hds (x := .none) rfl (wpAny_bind (wpAny_field hos hds (x := .int (-1) u) rfl (wpAny_pure ?_)))))))
  refine wpAny_bind (slicePart_int ?_)
  show wpAny _ _ (if ((-1 : Int) == 0) = true then _ else _) _ _ s
  rw [if_neg (by decide)]
  refine wpAny_bind (slicePart_none (wpAny_bind (slicePart_none (wpAny_bind (wpAny_pure ?_)))))
  show wpAny _ _ (match Builtin.Slice.sliceAdjust none none (-1) (n : Int) with | (lo, hi) => pure (lo, (-1 : Int), Builtin.Slice.slicePlaces lo hi (-1))) _ _ s
  rw [adjust_rev]
  show wpAny _ _ (pure (((n : Int) - 1), (-1 : Int), Builtin.Slice.slicePlaces ((n : Int) - 1) (-1) (-1))) _ _ s
  rw [places_rev]
  exact wpAny_pure h
theorem fm_congr {α β : Type} {f g : α → Option β} : ∀ {l : List α}, (∀ x ∈ l, f x = g x) → l.filterMap f = l.filterMap g
  | [], _ => rfl
  | a :: l, h => by
    rw [List.filterMap_cons, List.filterMap_cons, h a List.mem_cons_self, fm_congr fun x hx => h x (List.mem_cons_of_mem _ hx)]
theorem pick_rev (xs : Array Value) : ((List.range xs.size).filterMap fun (m : Nat) => xs[((xs.size : Int) - 1 + (m : Int) * -1).toNat]?).toArray = xs.toList.reverse.toArray := by
  congr 1
  have e : (List.range xs.size).filterMap (fun (m : Nat) => xs[((xs.size : Int) - 1 + (m : Int) * -1).toNat]?) = (List.range xs.size).filterMap (fun m => xs.toList.reverse[m]?) := by
    refine fm_congr fun m hm => ?_
    rw [List.mem_range] at hm
    rw [List.getElem?_reverse (by simpa using hm)]
    have : ((xs.size : Int) - 1 + (m : Int) * -1).toNat = xs.toList.length - 1 - m := by
      rw [Array.length_toList]
      omega
    rw [this, Array.getElem?_toList]
  rw [e]
  have z : ∀ l : List Value, (List.range l.length).filterMap (fun m => l[m]?) = l := by
    intro l
    have := List.filterMap_map (f := fun m => l[m]?) (g := id) (l := List.range l.length)
    refine List.ext_getElem? fun i => ?_
    have h2 : (List.range l.length).filterMap (fun m => l[m]?) = (List.range l.length).filterMap (fun m => some (l.getD m .none)) := by
      refine fm_congr fun m hm => ?_
      rw [List.mem_range] at hm
      simp [hm]
    rw [h2, List.filterMap_eq_map']
    rw [List.getElem?_map]
    by_cases hi : i < l.length
    · rw [List.getElem?_range hi]
      simp [hi]
    · rw [List.getElem?_eq_none (by simpa using hi), List.getElem?_eq_none (by omega)]
      rfl
  have := z xs.toList.reverse
  rw [List.length_reverse, Array.length_toList] at this
  exact this
theorem getItem_tuple_rev {t sl : Addr} {items : Array Value} {u : Tok} {Q : Value → Shared → Prop} (ht : IsTup s.heap t items) (hs : s.heap.IsSliceOf sl .none .none (.int (-1) u))
    (h : Q (.ref s.heap.objs.size) { s with heap := s.heap.push { cls := .type "tuple", data := .seq items.toList.reverse.toArray } })
    (hsz : items.size ≤ sizeLine) : wpAny (model prog w) A (getItem (.ref t) (.ref sl)) Q E s := by
  have htake : sizeOk (.seq items.toList.reverse.toArray) := by
    show items.toList.reverse.toArray.size ≤ sizeLine
    rw [List.size_toArray, List.length_reverse, Array.length_toList]
    exact hsz
  obtain ⟨os, hos, hcs, hds⟩ := id hs
  have hTs : s.TypeIs (.ref sl) "slice" := ⟨os, hos, hcs⟩
  unfold getItem
  try with_reducible refine wpAny_holding ?_
  first | refine wpAny_bind (wpAny_pure ?_) | skip
  refine wpAny_bind (wpAny_sequenceKey ht.typeIs (by decide) ?_)
  refine wpAny_bind (wpAny_callSpecial?_slot (name := Str.ofString "__getitem__") ht.typeIs PyProof.Rows.slot_tuple_getitem
    (wpAny_call_entry PyProof.Rows.slot_tuple_getitem ht.typeIs entry_tuple_getitem ?_ (args_tuple_getitem _ _)))
  show wpAny _ _ (Builtin.Tuple.tupleItemsOf (.ref t) >>= _) _ _ s
  refine wpAny_bind (tupleItemsOf_ ht ?_)
  refine wpAny_bind (wpAny_typeOf hTs ?_)
  rw [if_pos (by decide)]
  refine wpAny_bind (sliceApplied_rev hs ?_)
  have hno : ¬ ((((items.size : Int) - 1) == 0 && (-1 : Int) == 1 && items.size == items.size) = true) := by
    intro q
    rw [Bool.and_eq_true, Bool.and_eq_true] at q
    exact absurd (eq_of_beq q.1.2) (by decide)
  show wpAny _ _ (if (((items.size : Int) - 1) == 0 && (-1 : Int) == 1 && items.size == items.size) = true then _ else _) _ _ s
  rw [if_neg hno, pick_rev]
  first
    | exact wpAny_bind (m := Builtin.Tuple.tupleExact _) (wpAny_newObj_type (wpAny_pure ⟨_, rfl, wpAny_pure h⟩) htake)
    | exact wpAny_bind (m := Builtin.Tuple.tupleExact _) (wpAny_newObj_type (wpAny_bind (wpAny_pure (wpAny_pure ⟨_, rfl, wpAny_pure h⟩))) htake)
    | exact wpAny_bind (wpAny_bind (m := Builtin.Tuple.tupleExact _) (wpAny_newObj_type (wpAny_pure (wpAny_pure ⟨_, rfl, wpAny_pure h⟩)) htake))
    | exact wpAny_bind (wpAny_bind (m := Builtin.Tuple.tupleExact _) (wpAny_newObj_type (wpAny_pure ⟨_, rfl, wpAny_pure h⟩) htake))
end
section
variable {X : Cx}
def tRevT (K : PySem.W.Frag) (te : TE) : TE := fun σ H Q => te σ H fun x H1 => ∃ a xs, x = .ref a ∧ SqT K H1 a xs ∧ ∀ p, H1 p = none → Q (.ref p) (upd H1 p (.tup xs.reverse))
theorem pe_revT {e : Expr} {te : TE} {k : Nat} {p1 p2 p3 pos : Pos} (he : PE X e te) : PE X (.Subscript e (.Slice none none (some (.UnaryOp .USub (.Constant (.int 1) k p1) p2)) p3) pos) (tRevT X.K te) := by
  refine ⟨fun pins s σ H Q I h => ?_⟩
  refine Subscript_ (thn (he.run pins s σ H _ I h) fun v s1 ⟨x, H1, I1, r1, q1⟩ => ?_)
  obtain ⟨a, xs, ex, hx, q⟩ := q1
  subst ex
  cases r1
  have hst : PO X (some (.UnaryOp .USub (.Constant (.int 1) k p1) p2)) (tPart (tUn (rU fun i => .int (-i)) (tC (.int 1)))) := po_some (pe_un un_neg pe_int)
  refine wpAny_Slice (thn (po_none.run pins s1 σ H1 (fun o H2 => o = none ∧ H2 = H1) I1 ⟨rfl, rfl⟩) fun vl s2 ⟨l, H2, I2, pl, el, e2⟩ => ?_)
  subst el e2
  refine thn (po_none.run pins s2 σ H2 (fun o H3 => o = none ∧ H3 = H2) I2 ⟨rfl, rfl⟩) fun vu s3 ⟨u, H3, I3, pu, eu, e3⟩ => ?_
  subst eu e3
  refine thn (hst.run pins s3 σ H3 (fun o H4 => o = some (-1) ∧ H4 = H3) I3 ⟨1, rfl, -1, rfl, rfl, rfl⟩) fun vs s4 ⟨o, H4, I4, ps, eo, e4⟩ => ?_
  subst eo e4
  have I5 : Inv X pins σ H4 { s4 with heap := s4.heap.push { cls := .type "slice", data := .fields #[vl, vu, vs] } } := I4.kept (t' := s4.toks) fun b ob q => Heap.get?_push_of_some _ q
  obtain ⟨its, r, ht, hz⟩ := I5.tuple hx
  have hlen := r.length
  cases pl
  cases pu
  cases ps
  show wpAny (model X.prog X.w) X.A (subscriptTail e (.Slice none none (some (.UnaryOp .USub (.Constant (.int 1) k p1) p2)) p3) (.ref a) (.ref s4.heap.objs.size)) (EP X pins σ Q) X.xe _
  refine tail_any (ops := [.ref a, .ref s4.heap.objs.size]) ht.typeIs (PyProof.Rows.slot_tuple_getitem.lookup) ?_ (by with_unfolding_all rfl)
  refine getItem_tuple_rev ht (Heap.IsSliceOf.new _ _ _ _) ?_ (by rw [List.size_toArray]; omega)
  refine ⟨.ref _, _, I5.laid (t' := s4.toks) (o := .tup xs.reverse) (fun b ob q => Heap.get?_push_of_some _ q) (Nat.le_refl _) ?_, rfl, q _ (I5.hok.fresh (Nat.le_refl _))⟩
  exact ⟨by rw [List.length_reverse]; exact hz, _, r.reverse, IsTup.new _ _⟩
end
end L2


namespace Toy
open PySem L2
section
variable {P : Program} {w : World} {A : Around} {E : Value → Shared → Prop} {s : Shared}
theorem dictPut_pairs {d : Addr} {kvs : List (Key × Value)} {k : Key} {key v : Value} {Q : Unit → Shared → Prop} (hkey : (mixKind P w).is k key = true) (hm : s.heap.DictOf (mixKind P w) d kvs)
    (hQ : ∀ h', h'.DictOf (mixKind P w) d (stored kvs k v) → Heap.SameBut d s.heap h' → Q () { s with heap := h' })
    (hsz : kvs.length ≤ sizeLine) :
    wpAny (model P w) A (dictPut d ((mixKind P w).hash k) key v) Q E s := by
  obtain ⟨o, es, ep, ho, hc, hd, hk, hp, hn⟩ := hm
  have hes : es.size ≤ sizeLine := by
    have e1 := hp.length
    have e2 : es.toList.length = es.size := by simp
    omega
  unfold dictPut
  refine wpAny_bind (wpAny_dictFind_of hkey ho hd hk ?_)
  have hidx : (es.findIdx? fun e => (mixKind P w).is k e.key) = kvs.findIdx? fun kv => decide (kv.1 = k) := by
    rw [← hp.findIdx k]; obtain ⟨l⟩ := es; simp
  cases hi : es.findIdx? fun e => (mixKind P w).is k e.key with
  | some i =>
    refine wpAny_updateDict ho hd (hQ _ ⟨_, _, ep, Heap.get?_update_self _ ho (Obj.isFreed_of_dict (Obj.data_mapDict hd _)),
      hc.mapDict _, Obj.data_mapDict hd _, hk.modify _ _, ?_, ?_⟩ (Heap.SameBut.update ..))
    · rw [stored, if_pos (any_of_findIdx_some (hidx ▸ hi))]
      have hl : (es.toList.findIdx? fun e => (mixKind P w).is k e.key) = some i := by rw [← hi]; obtain ⟨l⟩ := es; simp
      have := hp.modify hn hl v
      obtain ⟨l⟩ := es
      simpa using this
    · rw [stored, if_pos (any_of_findIdx_some (hidx ▸ hi)), keys_map_store]; exact hn
  | none =>
    have hnot : k ∉ kvs.map (·.1) := not_mem_of_findIdx_none (hidx ▸ hi)
    have hany : ¬ (kvs.any fun kv => decide (kv.1 = k)) = true := by
      rw [List.any_eq_true]; rintro ⟨kv, hkv, he⟩
      exact hnot (List.mem_map.mpr ⟨kv, hkv, of_decide_eq_true he⟩)
    refine wpAny_updateDictKeys (hz := hes) ho hd (hQ _ ⟨_, _, ep + 1, Heap.get?_update_self _ ho (Obj.isFreed_of_dict (Obj.data_mapDictKeys hd _)),
      hc.mapDictKeys _, Obj.data_mapDictKeys hd _, hk.push hkey _, ?_, ?_⟩ (Heap.SameBut.update ..))
    · rw [stored, if_neg hany]
      have := hp.append hkey ((mixKind P w).hash k) v
      obtain ⟨l⟩ := es
      simpa using this
    · rw [stored, if_neg hany, List.map_append, List.nodup_append]
      refine ⟨hn, by simp, ?_⟩
      intro a ha b hb
      simp only [List.map_cons, List.map_nil, List.mem_singleton] at hb
      subst hb
      exact fun e => hnot (e ▸ ha)
theorem mergeMap {d o : Addr} {kvs more : List (Key × Value)} {Q : Unit → Shared → Prop} (hdo : d ≠ o) (hoS : (o == sysModules) = false)
    (hd : s.heap.DictOf (mixKind P w) d kvs) (ho : s.heap.DictOf (mixKind P w) o more)
    (hQ : ∀ h', h'.DictOf (mixKind P w) d (merged kvs more) → h'.DictOf (mixKind P w) o more → Heap.SameBut d s.heap h' → Q () { s with heap := h' })
    (hsz : kvs.length + more.length ≤ sizeLine) :
    wpAny (model P w) A (mergeMapping d (.ref o) false) Q E s := by
  obtain ⟨od, esd, epd, hod, hcd, hdd, hkd, hpd, hnd⟩ := id hd
  obtain ⟨oo, eso, epo, hoo, hco, hdo', hko, hpo, hno⟩ := id ho
  unfold mergeMapping
  have hlen : more.length = eso.size := by rw [← hpo.length]; simp
  refine wpAny_bind (wpAny_isInstance ho.typeIs isSubtype_dict_dict ?_)
  rw [if_pos rfl]
  refine wpAny_bind (wpAny_specialOf ho.typeIs F.slot_dict_iter.lookup (wpAny_bind (wpAny_pure ?_)))
  rw [beq_self_eq_true]
  dsimp only
  rw [if_neg (by rw [hoS]; exact Bool.false_ne_true)]
  have loop : wpAny (model P w) A (do
      let l ← dictEntries o
      let epoch ← dictEpoch o
      forIn (List.range l.size) PUnit.unit fun i (_ : PUnit) => (do
          let l' ← dictEntries o
          match l'[i]? with
            | some e => do
              holding [e.key, e.val] (dictPut d e.hash e.key e.val)
              let ep' ← dictEpoch o
              if (ep' != epoch) = true then do
                  (unsupported "dict.changed-during-merge" : Sem PUnit)
                  pure (ForInStep.yield PUnit.unit)
                else pure (ForInStep.yield PUnit.unit)
            | _ => do
              (unsupported "dict.changed-during-merge" : Sem PUnit)
              pure (ForInStep.yield PUnit.unit) : Sem (ForInStep PUnit))
      pure ()) Q E s := by
    refine wpAny_bind (wpAny_dictEntries hoo hdo' ?_)
    refine wpAny_bind (wpAny_dictEpoch hoo hdo' ?_)
    refine wpAny_bind ?_
    rw [List.range_eq_range']
    refine wpAny_forIn_list _
      (fun rest _ s' => ∃ h' i, s' = { s with heap := h' } ∧ rest = List.range' i (eso.size - i) ∧ i ≤ eso.size ∧ h'.DictOf (mixKind P w) d (merged kvs (more.take i)) ∧ h'.get? o = some oo ∧ Heap.SameBut d s.heap h')
      _ ?_ ?_ _ _ ⟨s.heap, 0, rfl, by simp, Nat.zero_le _, by simpa [merged] using hd, hoo, Heap.SameBut.refl _ _⟩
    · rintro x rest b s' ⟨h', i, rfl, hr, hi, hd', hoo', hs'⟩
      have hlt : i < eso.size := by
        rcases Nat.lt_or_ge i eso.size with h | h
        · exact h
        · rw [Nat.sub_eq_zero_of_le h] at hr; simp at hr
      obtain ⟨rfl, hrest⟩ : x = i ∧ rest = List.range' (i + 1) (eso.size - (i + 1)) := by
        have e : eso.size - i = (eso.size - (i + 1)) + 1 := by omega
        rw [e, List.range'_succ] at hr
        injection hr with h1 h2
        exact ⟨h1, h2⟩
      refine wpAny_bind (wpAny_dictEntries hoo' hdo' ?_)
      rw [Array.getElem?_eq_getElem hlt]
      obtain ⟨kv, hkv⟩ : ∃ kv, more[x]? = some kv := ⟨more[x]'(by rw [hlen]; exact hlt), List.getElem?_eq_getElem _⟩
      obtain ⟨k, v⟩ := kv
      obtain ⟨hkey, hval⟩ := hpo.get? (e := eso[x]) (by simp [hlt]) hkv
      obtain ⟨k', hkey', hhash⟩ := hko eso[x] (Array.getElem_mem hlt)
      obtain rfl : k' = k := (mixKind P w).inj _ _ _ hkey' hkey
      show wpAny _ _ (holding [eso[x].key, eso[x].val] (dictPut d eso[x].hash eso[x].key eso[x].val) >>= _) _ _ _
      rw [hhash, hval]
      have hmx : (merged kvs (more.take x)).length ≤ sizeLine := by
        have e1 := merged_length_le kvs (more.take x)
        have e2 : (more.take x).length ≤ more.length := by rw [List.length_take]; omega
        omega
      refine wpAny_bind (wpAny_holding (dictPut_pairs (hsz := hmx) hkey hd' fun h'' hd'' hs'' => ?_))
      have hoo'' : h''.get? o = some oo := (hs''.2 o (Ne.symm hdo)).trans hoo'
      refine wpAny_bind (wpAny_dictEpoch hoo'' hdo' ?_)
      rw [if_neg (by simp)]
      exact wpAny_pure ⟨h'', x + 1, rfl, hrest, hlt, by rw [merged_take_succ kvs more x (k', v) hkv]; exact hd'', hoo'', hs'.trans hs''⟩
    · rintro b s' ⟨h', i, rfl, hr, hi, hd', hoo', hs'⟩
      have hin : i = eso.size := by
        rcases Nat.lt_or_ge i eso.size with h | h
        · have e : eso.size - i = (eso.size - (i + 1)) + 1 := by omega
          rw [e, List.range'_succ] at hr; exact nomatch hr
        · exact Nat.le_antisymm hi h
      refine wpAny_pure (hQ h' ?_ ⟨oo, eso, epo, hoo', hco, hdo', hko, hpo, hno⟩ hs')
      rw [hin, ← hlen, List.take_length] at hd'; exact hd'
  refine wpAny_bind (wpAny_dictEntries hod hdd ?_)
  split
  · refine wpAny_bind (wpAny_dictEntries hoo hdo' ?_)
    refine wpAny_bind ?_
    rw [← Array.forIn_toList]
    refine wpAny_forIn_list _ (fun rest _ s' => s' = s ∧ ∀ e ∈ rest, e ∈ eso.toList) _ ?_ ?_ _ _ ⟨rfl, fun _ h => h⟩
    · rintro x rest b s' ⟨rfl, hr⟩
      obtain ⟨k', hkey', _⟩ := hko x (Array.mem_toList_iff.mp (hr x List.mem_cons_self))
      rcases keyIs_shape hkey' with ⟨i, t, e1, e⟩ | ⟨y, t, e1, e⟩
      · rw [e]
        exact wpAny_pure ⟨rfl, fun e he => hr e (List.mem_cons_of_mem _ he)⟩
      · rw [e]
        exact wpAny_pure ⟨rfl, fun e he => hr e (List.mem_cons_of_mem _ he)⟩
    · rintro b s' ⟨rfl, _⟩
      exact loop
  · exact loop
end
end Toy


namespace Toy
open PySem PySem.Spec L2 PyProof.Rows PySem.W
section

theorem asg_run {te : TE} {g : TG} {rest : TS} {D : Ends} {σ : L2.St} {H : Hp} (h : te σ H fun x H1 => g x σ H1 fun σ2 H2 => rest D σ2 H2) : tSeq (tAsg te g) rest D σ H := h
end
end Toy
namespace Toy
open PySem PySem.Spec L2 PyProof.Rows PySem.W
section

theorem ret_run {te : TE} {D : Ends} {σ : L2.St} {H : Hp} (h : te σ H D.rt) : tRet te D σ H := h
end
end Toy
namespace Toy
open PySem PySem.Spec L2 PyProof.Rows PySem.W
section

def isTup : Dt → Bool
  | .tup _ => true
  | _ => false
end
end Toy
namespace Toy
open PySem PySem.Spec L2 PyProof.Rows PySem.W
section

def isStr : Dt → Bool
  | .str _ => true
  | _ => false
end
end Toy
namespace Toy
open PySem PySem.Spec L2 PyProof.Rows PySem.W
section

def isBl : Dt → Bool
  | .bl _ => true
  | _ => false
end
end Toy
namespace Toy
open PySem PySem.Spec L2 PyProof.Rows PySem.W
section

def isInt : Dt → Bool
  | .int _ => true
  | .bl _ => true
  | _ => false
end
end Toy
namespace Toy
open PySem PySem.Spec L2 PyProof.Rows PySem.W
section

theorem tyT {K : PySem.W.Frag} {H : Hp} {a : Addr} {xs : List V} (h : SqT K H a xs) : TyX K H (.ref a) (.type "tuple") := by
  rcases h with (h | ⟨o, h⟩) | ⟨o, its, n, hk, hc, _⟩
  · exact .base (.tup h)
  · exact .fTuple h
  · exact .kTuple hk hc
end
end Toy
namespace Toy
open PySem PySem.Spec L2 PyProof.Rows PySem.W
section
variable {K : PySem.W.Frag} {H : Hp} {v : V} {t : Dt} {Q : VK}
theorem isi_tup (h : Dv K H v t) (q : Q (.bl (isTup t)) H) : rIsi K [v, .ty "tuple"] H Q := by
  cases h with
  | non => exact ⟨_, _, _, _, _, rfl, .ty _, .base .non, kit_ty (r := false) (by decide +kernel), q⟩
  | bl b => exact ⟨_, _, _, _, _, rfl, .ty _, .base (.bl b), kit_ty (r := false) (by decide +kernel), q⟩
  | int i => exact ⟨_, _, _, _, _, rfl, .ty _, .base (.int i), kit_ty (r := false) (by decide +kernel), q⟩
  | str x => exact ⟨_, _, _, _, _, rfl, .ty _, .base (.str x), kit_ty (r := false) (by decide +kernel), q⟩
  | tup hs _ => exact ⟨_, _, _, _, _, rfl, .ty _, tyT hs, kit_ty (r := true) (by decide +kernel), q⟩
  | lst hs => exact ⟨_, _, _, _, _, rfl, .ty _, .base (.lst hs), kit_ty (r := false) (by decide +kernel), q⟩
  | dct hs => exact ⟨_, _, _, _, _, rfl, .ty _, .base (.dK hs), kit_ty (r := false) (by decide +kernel), q⟩
end
end Toy
namespace Toy
open PySem PySem.Spec L2 PyProof.Rows PySem.W
section
variable {K : PySem.W.Frag} {H : Hp} {v : V} {t : Dt} {Q : VK}
theorem isi_str (h : Dv K H v t) (q : Q (.bl (isStr t)) H) : rIsi K [v, .ty "str"] H Q := by
  cases h with
  | non => exact ⟨_, _, _, _, _, rfl, .ty _, .base .non, kit_ty (r := false) (by decide +kernel), q⟩
  | bl b => exact ⟨_, _, _, _, _, rfl, .ty _, .base (.bl b), kit_ty (r := false) (by decide +kernel), q⟩
  | int i => exact ⟨_, _, _, _, _, rfl, .ty _, .base (.int i), kit_ty (r := false) (by decide +kernel), q⟩
  | str x => exact ⟨_, _, _, _, _, rfl, .ty _, .base (.str x), kit_ty (r := true) (by decide +kernel), q⟩
  | tup hs _ => exact ⟨_, _, _, _, _, rfl, .ty _, tyT hs, kit_ty (r := false) (by decide +kernel), q⟩
  | lst hs => exact ⟨_, _, _, _, _, rfl, .ty _, .base (.lst hs), kit_ty (r := false) (by decide +kernel), q⟩
  | dct hs => exact ⟨_, _, _, _, _, rfl, .ty _, .base (.dK hs), kit_ty (r := false) (by decide +kernel), q⟩
end
end Toy
namespace Toy
open PySem PySem.Spec L2 PyProof.Rows PySem.W
section
variable {K : PySem.W.Frag} {H : Hp} {v : V} {t : Dt} {Q : VK}
theorem isi_int (h : Dv K H v t) (q : Q (.bl (isInt t)) H) : rIsi K [v, .ty "int"] H Q := by
  cases h with
  | non => exact ⟨_, _, _, _, _, rfl, .ty _, .base .non, kit_ty (r := false) (by decide +kernel), q⟩
  | bl b => exact ⟨_, _, _, _, _, rfl, .ty _, .base (.bl b), kit_ty (r := true) (by decide +kernel), q⟩
  | int i => exact ⟨_, _, _, _, _, rfl, .ty _, .base (.int i), kit_ty (r := true) (by decide +kernel), q⟩
  | str x => exact ⟨_, _, _, _, _, rfl, .ty _, .base (.str x), kit_ty (r := false) (by decide +kernel), q⟩
  | tup hs _ => exact ⟨_, _, _, _, _, rfl, .ty _, tyT hs, kit_ty (r := false) (by decide +kernel), q⟩
  | lst hs => exact ⟨_, _, _, _, _, rfl, .ty _, .base (.lst hs), kit_ty (r := false) (by decide +kernel), q⟩
  | dct hs => exact ⟨_, _, _, _, _, rfl, .ty _, .base (.dK hs), kit_ty (r := false) (by decide +kernel), q⟩
end
end Toy
namespace Toy
open PySem PySem.Spec L2 PyProof.Rows PySem.W
section
variable {K : PySem.W.Frag} {H : Hp} {v : V} {t : Dt} {Q : VK}
theorem isi_bl (h : Dv K H v t) (q : Q (.bl (isBl t)) H) : rIsi K [v, .ty "bool"] H Q := by
  cases h with
  | non => exact ⟨_, _, _, _, _, rfl, .ty _, .base .non, kit_ty (r := false) (by decide +kernel), q⟩
  | bl b => exact ⟨_, _, _, _, _, rfl, .ty _, .base (.bl b), kit_ty (r := true) (by decide +kernel), q⟩
  | int i => exact ⟨_, _, _, _, _, rfl, .ty _, .base (.int i), kit_ty (r := false) (by decide +kernel), q⟩
  | str x => exact ⟨_, _, _, _, _, rfl, .ty _, .base (.str x), kit_ty (r := false) (by decide +kernel), q⟩
  | tup hs _ => exact ⟨_, _, _, _, _, rfl, .ty _, tyT hs, kit_ty (r := false) (by decide +kernel), q⟩
  | lst hs => exact ⟨_, _, _, _, _, rfl, .ty _, .base (.lst hs), kit_ty (r := false) (by decide +kernel), q⟩
  | dct hs => exact ⟨_, _, _, _, _, rfl, .ty _, .base (.dK hs), kit_ty (r := false) (by decide +kernel), q⟩
end
end Toy
namespace Toy
open PySem PySem.Spec L2 PyProof.Rows PySem.W
section
variable {K : PySem.W.Frag} {H : Hp} {v : V} {t : Dt} {Q : VK}
theorem isT {σ : L2.St} (h : Dv K H v t) (q : Q (.bl (isTup t)) H) : tCons (tC (.ty "tuple")) tNil σ H (fun xs H2 => rIsi K (v :: xs) H2 Q) := isi_tup h q
end
end Toy
namespace Toy
open PySem PySem.Spec L2 PyProof.Rows PySem.W
section
variable {K : PySem.W.Frag} {H : Hp} {v : V} {t : Dt} {Q : VK}
theorem isS {σ : L2.St} (h : Dv K H v t) (q : Q (.bl (isStr t)) H) : tCons (tC (.ty "str")) tNil σ H (fun xs H2 => rIsi K (v :: xs) H2 Q) := isi_str h q
end
end Toy
namespace Toy
open PySem PySem.Spec L2 PyProof.Rows PySem.W
section
variable {K : PySem.W.Frag} {H : Hp} {v : V} {t : Dt} {Q : VK}
theorem isI {σ : L2.St} (h : Dv K H v t) (q : Q (.bl (isInt t)) H) : tCons (tC (.ty "int")) tNil σ H (fun xs H2 => rIsi K (v :: xs) H2 Q) := isi_int h q
end
end Toy
namespace Toy
open PySem PySem.Spec L2 PyProof.Rows PySem.W
section
variable {K : PySem.W.Frag} {H : Hp} {v : V} {t : Dt} {Q : VK}
theorem isB {σ : L2.St} (h : Dv K H v t) (q : Q (.bl (isBl t)) H) : tCons (tC (.ty "bool")) tNil σ H (fun xs H2 => rIsi K (v :: xs) H2 Q) := isi_bl h q
end
end Toy
namespace Toy
open PySem PySem.Spec L2 PyProof.Rows PySem.W
section
variable {J : It} {n : Nat} {G : Hp → Prop} {Y : Nat → Hp → V → Hp → Prop} {g : TG} {tt : TT} {te : TE} {vs : List Nat} {σ : L2.St} {H1 : Hp} {D : Addr} {Qd : Hp → Prop}
theorem lc_map (w : Walk J n G Y) (f : Nat → V) (hn : n ≤ 900) (nD : H1 D = none) (hG : ∀ H, Same H1 H → G H) (hY : ∀ i H x H', Y i H x H' → H' = H)
    (hs : ∀ i x H (P1 : V → Hp → Prop), i < n → Same H1 H → Y i H x H → (∀ H2, Same H H2 → P1 (f i) H2) → g x (wipe σ vs) H fun σ2 H2 => wipe σ2 vs = wipe σ vs ∧ te σ2 H2 P1)
    (hd : ∀ H, Same H1 H → H D = some (.lst ((List.range n).map f)) → Qd H) :
    ∃ W : Nat → Nat → Hp → Prop, (∃ m, W 0 m (upd H1 D (.lst []))) ∧ ∀ i m H, W i m H →
      (J.stop i H ∧ Qd H) ∨ (J.go i H ∧ ∃ Nx : Hp → Prop, (∀ H', Nx H' → ∃ m', m' < m ∧ W (i + 1) m' H') ∧ ∀ x H', J.yld i H x H' → g x (wipe σ vs) H' fun σ2 H2 => wipe σ2 vs = wipe σ vs ∧ tYes σ2 H2 fun b H3 =>
        if b = true then te σ2 H3 fun y H4 => ∃ acc, H4 D = some (.lst acc) ∧ acc.length < sizeLine ∧ Nx (upd H4 D (.lst (acc ++ [y]))) else Nx H3) := by
  refine lc_it w (fun i H => Same H1 H ∧ H D = some (.lst ((List.range i).map f))) ⟨same_new same_id nD, upd_same⟩ (fun i H _ p => hG H p.1) ?_ ?_
  · rintro i x H H' hi ⟨s1, hD⟩ y
    have e := hY _ _ _ _ y
    subst e
    refine hs i x H' _ hi s1 y fun H2 s2 => ⟨_, s2 _ _ hD, small1000 (by rw [List.length_map, List.length_range]; omega), same_put (s1.trans s2) nD, ?_⟩
    rw [upd_same, List.range_succ, List.map_append]
    rfl
  · rintro H ⟨s1, hD⟩
    exact hd H s1 hD
end
end Toy
namespace Toy
open PySem PySem.Spec L2 PyProof.Rows PySem.W
section

theorem yAt_same {xs : List V} : ∀ i H x H', YAt xs i H x H' → H' = H := fun _ _ _ _ y => y.1
end
end Toy
namespace Toy
open PySem PySem.Spec L2 PyProof.Rows PySem.W
section

def lower (c : Nat) : Bool := decide (97 ≤ c) && decide (c ≤ 122)
end
end Toy
namespace Toy
open PySem PySem.Spec L2 PyProof.Rows PySem.W
section

def shown (c : Nat) : Bool := decide (32 ≤ c) && decide (c ≤ 126)
end
end Toy
namespace Toy
open PySem PySem.Spec L2 PyProof.Rows PySem.W
section

def wordS (x : Str) : Bool := (decide (1 ≤ x.length) && decide (x.length ≤ 8)) && x.cps.toList.all lower
end
end Toy
namespace Toy
open PySem PySem.Spec L2 PyProof.Rows PySem.W
section

def wordsL : List Str := ["null", "yes", "no", "each", "none", "fail", "try", "other", "if", "then", "else", "end", "when", "as", "catch", "reduce", "first", "take", "fails", "def", "in", "change", "drop", "places", "add", "append", "is", "equal", "at", "and", "or", "not"]
end
end Toy
namespace Toy
open PySem PySem.Spec L2 PyProof.Rows PySem.W
section

def sortsL : List Str := ["null", "no", "yes", "number", "text", "list", "dict"]
end
end Toy
namespace Toy
open PySem PySem.Spec L2 PyProof.Rows PySem.W
section

def wordD : Dt → Bool
  | .str x => wordS x
  | _ => false
end
end Toy
namespace Toy
open PySem PySem.Spec L2 PyProof.Rows PySem.W
section

def freeD : Dt → Bool
  | .str x => wordS x && !decide (x ∈ wordsL)
  | _ => false
end
end Toy
namespace Toy
open PySem PySem.Spec L2 PyProof.Rows PySem.W
section

def leafD : Dt → Bool
  | .non => true
  | .bl _ => true
  | .int i => decide (-(10 ^ 30) ≤ i) && decide (i ≤ 10 ^ 30)
  | .str x => decide (x.length ≤ 200) && x.cps.toList.all shown
  | _ => false
end
end Toy
namespace Toy
open PySem PySem.Spec L2 PyProof.Rows PySem.W
section

def wholeD : Dt → Bool
  | .int i => decide (0 ≤ i) && decide (i ≤ 99)
  | _ => false
end
end Toy
namespace Toy
open PySem PySem.Spec L2 PyProof.Rows PySem.W
section

def sortD : Dt → Bool
  | .str x => decide (x ∈ sortsL)
  | _ => false
end
end Toy
namespace Toy
open PySem PySem.Spec L2 PyProof.Rows PySem.W
section

theorem all_range {α : Type} (xs : List α) (p : α → Bool) (f : Nat → Bool) (h : ∀ i (hi : i < xs.length), f i = p xs[i]) : (List.range xs.length).all f = xs.all p := by
  rw [Bool.eq_iff_iff, List.all_eq_true, List.all_eq_true]
  constructor
  · intro z x hx
    obtain ⟨i, hi, rfl⟩ := List.getElem_of_mem hx
    rw [← h i hi]
    exact z i (List.mem_range.mpr hi)
  · intro z i hi
    rw [List.mem_range] at hi
    rw [h i hi]
    exact z _ (List.getElem_mem hi)
end
end Toy
namespace Toy
open PySem PySem.Spec L2 PyProof.Rows PySem.W
section

def sg (x : Str) (i : Nat) : Nat := x.cps.toList.getD i 0
end
end Toy
namespace Toy
open PySem PySem.Spec L2 PyProof.Rows PySem.W
section

theorem sg_of {x : Str} {i c : Nat} (h : x.cps[i]? = some c) : sg x i = c := by
  unfold sg
  rw [List.getD_eq_getElem?_getD, Array.getElem?_toList, h]
  rfl
end
end Toy
namespace Toy
open PySem PySem.Spec L2 PyProof.Rows PySem.W
section

theorem all_sg (x : Str) (p : Nat → Bool) : ((List.range x.cps.size).all fun i => p (sg x i)) = x.cps.toList.all p := by
  have e : x.cps.size = x.cps.toList.length := by simp
  rw [e]
  refine all_range _ p _ fun i hi => ?_
  unfold sg
  rw [List.getD_eq_getElem?_getD, List.getElem?_eq_getElem hi]
  rfl
end
end Toy
namespace Toy
open PySem PySem.Spec L2 PyProof.Rows PySem.W
section

def spM (K : PySem.W.Frag) (m : Dt → Bool) : Sp := fun vs H Q _ => ∃ v t, vs = [v] ∧ Dv K H v t ∧ okd 300 t = true ∧ ∀ H', Same H H' → Q (.bl (m t)) H'
end
end Toy
namespace Toy
open PySem PySem.Spec L2 PyProof.Rows PySem.W
section

theorem lt1 (a c : Nat) : decide ([a] < [c]) = decide (a < c) := by
  refine decide_eq_decide.mpr ⟨fun h => ?_, fun h => .rel h⟩
  cases h with
  | rel h => exact h
  | cons h => cases h
end
end Toy
namespace Toy
open PySem PySem.Spec L2 PyProof.Rows PySem.W
section

theorem inV_strs (x : Str) : ∀ ks : List Str, inV (.str x) (ks.map V.str) = decide (x ∈ ks)
  | [] => by simp [inV]
  | k :: ks => by
    have ih := inV_strs x ks
    unfold inV at ih ⊢
    rw [List.map_cons, List.any_cons, ih]
    show ((k == x) || decide (x ∈ ks)) = _
    rw [Bool.eq_iff_iff, Bool.or_eq_true, beq_iff_eq, decide_eq_true_iff, decide_eq_true_iff, List.mem_cons]
    exact ⟨fun h => h.imp Eq.symm id, fun h => h.imp Eq.symm id⟩
end
end Toy
namespace Toy
open PySem PySem.Spec L2 PyProof.Rows PySem.W
section

theorem flat_strs (ks : List Str) : (ks.map V.str).all flatV = true := by
  rw [List.all_eq_true]
  intro v hv
  obtain ⟨k, _, rfl⟩ := List.mem_map.mp hv
  rfl
end
end Toy
namespace Toy
open PySem PySem.Spec L2 PyProof.Rows PySem.W
section

def slA : List (Str × Str) := [("same", ""), ("every", ""), ("none", ""), ("fail", ""), ("field", "k"), ("item", "i"), ("pipe", "ff"), ("both", "ff")]
end
end Toy
namespace Toy
open PySem PySem.Spec L2 PyProof.Rows PySem.W
section

def slB : List (Str × Str) := [("if", "tff"), ("try", "w"), ("other", "wf"), ("leaf", "x"), ("list", "f"), ("dict", "e"), ("sum", "ff"), ("less", "ff")]
end
end Toy
namespace Toy
open PySem PySem.Spec L2 PyProof.Rows PySem.W
section

def slC : List (Str × Str) := [("product", "ff"), ("alike", "ff"), ("before", "ff"), ("as", "fnf"), ("name", "n"), ("when", "fff"), ("catch", "ff")]
end
end Toy
namespace Toy
open PySem PySem.Spec L2 PyProof.Rows PySem.W
section

def slD : List (Str × Str) := [("reduce", "fnff"), ("first", "f"), ("take", "if"), ("fails", "f"), ("def", "npff"), ("call", "na"), ("places", "c")]
end
end Toy
namespace Toy
open PySem PySem.Spec L2 PyProof.Rows PySem.W
section

def slE : List (Str × Str) := [("change", "cf"), ("drop", "c"), ("add", "ckf"), ("append", "cf")]
end
end Toy
namespace Toy
open PySem PySem.Spec L2 PyProof.Rows PySem.W
section

def kvO (xs : List (Str × Str)) : List (Key × V) := xs.map fun p => (.inr p.1, .str p.2)
end
end Toy
namespace Toy
open PySem PySem.Spec L2 PyProof.Rows PySem.W
section

abbrev mA : List (Key × V) := mergeK [] (kvO slA)
end
end Toy
namespace Toy
open PySem PySem.Spec L2 PyProof.Rows PySem.W
section

abbrev mB : List (Key × V) := mergeK mA (mergeK [] (kvO slB))
end
end Toy
namespace Toy
open PySem PySem.Spec L2 PyProof.Rows PySem.W
section

abbrev mC : List (Key × V) := mergeK mB (mergeK [] (kvO slC))
end
end Toy
namespace Toy
open PySem PySem.Spec L2 PyProof.Rows PySem.W
section

abbrev mD : List (Key × V) := mergeK mC (mergeK [] (kvO slD))
end
end Toy
namespace Toy
open PySem PySem.Spec L2 PyProof.Rows PySem.W
section

abbrev mE : List (Key × V) := mergeK mD (mergeK [] (kvO slE))
end
end Toy
namespace Toy
open PySem PySem.Spec L2 PyProof.Rows PySem.W
section

def testsL : List Str := ["is", "equal", "at", "and", "or", "not"]
end
end Toy
namespace Toy
open PySem PySem.Spec L2 PyProof.Rows PySem.W
section

def walksL : List Str := ["same", "field", "item", "none", "fail", "pipe", "if"]
end
end Toy
namespace Toy
open PySem PySem.Spec L2 PyProof.Rows PySem.W
section

def keyD : Dt → Str
  | .tup (.str k :: _) => k
  | _ => Str.empty
end
end Toy
namespace Toy
open PySem PySem.Spec L2 PyProof.Rows PySem.W
section

def valD : Dt → Dt
  | .tup [_, g] => g
  | x => x
end
end Toy
namespace Toy
open PySem PySem.Spec L2 PyProof.Rows PySem.W
section

def entD : Dt → Bool
  | .tup [.str k, _] => wordS k
  | _ => false
end
end Toy
namespace Toy
open PySem PySem.Spec L2 PyProof.Rows PySem.W
section

def strOfD : Dt → Str
  | .str x => x
  | _ => Str.empty
end
end Toy
namespace Toy
open PySem PySem.Spec L2 PyProof.Rows PySem.W
section

def uniq (ks : List Str) : Bool := decide ks.Nodup
end
end Toy
namespace Toy
open PySem PySem.Spec L2 PyProof.Rows PySem.W
section

def entsD (l : List Dt) : Bool := l.all entD && uniq (l.map keyD)
end
end Toy
namespace Toy
open PySem PySem.Spec L2 PyProof.Rows PySem.W
section

theorem at_nat {xs : List V} {n : Nat} {v : V} (h : xs[n]? = some v) : atI xs (n : Int) = some v := atI_nat h
end
end Toy
namespace Toy
open PySem PySem.Spec L2 PyProof.Rows PySem.W
section

theorem cut_1 (a : V) (xs : List V) : cutV (a :: xs) (some 1) none = xs := by
  unfold cutV
  rw [show HT.sIx (a :: xs).length 0 (some 1) = min 1 (a :: xs).length from HT.sIx_nat _ _ 1, HT.sIx_none]
  rw [show min 1 (a :: xs).length = 1 by simp]
  simp
end
end Toy
namespace Toy
open PySem PySem.Spec L2 PyProof.Rows PySem.W
section

theorem nx_run {D : Ends} {σ : L2.St} {H : Hp} (h : D.nx σ H) : tNext D σ H := h
end
end Toy
namespace Toy
open PySem PySem.Spec L2 PyProof.Rows PySem.W
section

theorem at_0 (a : V) (xs : List V) : atI (a :: xs) 0 = some a := at_nat (n := 0) rfl
end
end Toy
namespace Toy
open PySem PySem.Spec L2 PyProof.Rows PySem.W
section
variable {P : Program} {w : World} {K : PySem.W.Frag} {mg : Str → Option Value} {base : Heap}
theorem okd_get {c : Nat} {l : List Dt} {i : Nat} {t : Dt} (h : okdL c l = true) (e : l[i]? = some t) : okd c t = true := by
  rw [okdL_all] at h
  exact List.all_eq_true.mp h t (List.mem_of_getElem? e)
end
end Toy
namespace Toy
open PySem PySem.Spec L2 PyProof.Rows PySem.W
section

theorem paired_get {α β : Type} {F : α → β → Prop} : ∀ {xs : List α} {ys : List β}, Paired F xs ys → ∀ {i : Nat} {y : β}, ys[i]? = some y → ∃ x, xs[i]? = some x ∧ F x y
  | _, _, .nil, i, y, h => by cases h
  | _, _, .cons r t, 0, y, h => by
    have e := Option.some.inj h
    subst e
    exact ⟨_, rfl, r⟩
  | _, _, .cons r t, i + 1, y, h => paired_get t h
end
end Toy


namespace Toy
open PySem PySem.Spec L2 PyProof.Rows PySem.W
/-! ### the program's words, leaves, keys -/
abbrev sIsInt : Stmt := top 5
def intD : Dt → Bool
  | .int _ => true
  | _ => false
def txtS (x : Str) : Bool := decide (x.length ≤ 200) && x.cps.toList.all shown
def spTxt : Sp := fun vs H Q _ => ∃ x : Str, vs = [.str x] ∧ okK x = true ∧ ∀ H', Same H H' → Q (.bl (txtS x)) H'
abbrev NTx : List Str := ["text", "codes", "letter", "code"]
/-- the texts that a written tuple holds -/
def TupK (K : PySem.W.Frag) (a : Addr) (xs : List Str) : Prop := ∀ H : Hp, SqT K H a (xs.map V.str)
theorem low_le (c : Nat) : (!decide ((⟨#[c]⟩ : Str).cps.toList < ("a" : Str).cps.toList)) = decide (97 ≤ c) := by
  show (!decide ([c] < [97])) = _
  rw [lt1, Bool.eq_iff_iff]
  simp
theorem low_ge (c : Nat) : (!decide (("z" : Str).cps.toList < (⟨#[c]⟩ : Str).cps.toList)) = decide (c ≤ 122) := by
  show (!decide ([122] < [c])) = _
  rw [lt1, Bool.eq_iff_iff]
  simp
theorem all_map_id {l : List Nat} {f : Nat → Bool} : (l.map f).all id = l.all f := by
  rw [List.all_map]
  rfl
section
variable {P : Program} {w : World} {K : PySem.W.Frag} {mg : Str → Option Value} {base : Heap}
theorem scV1 : FnScope ["value"] ["value"] (defScope sIsInt) := ⟨rfl, rfl, rfl, by decide +kernel, rfl, by decide +kernel, by decide +kernel⟩
theorem ok_isInt {f : Addr} {fd : FuncData} (F : Fun K "is_integer" "is_integer" sIsInt f fd) (mI : mg "isinstance" = none) (mB : mg "bool" = none) (mN : mg "int" = none) : FnOk P w K mg base CX0 1 f fd ["value"] (spM K intD) := by
  refine F.ok scV1 (fun vs H Q E h => ?_) (fun cdv A outer s H vs Q E hr h => ?_)
  · obtain ⟨v, t, rfl, _⟩ := h
    rfl
  · obtain ⟨v, t, rfl, hv, hok, q⟩ := h
    refine ⟨_, pss_one (ps_ret (pe_and (pe_callB call_isi (by rfl) mI PyProof.Rows.boot_isinstance (pa_cons (pv 0) (pa_cons (pe_bltn (v := .ty "int") (by rfl) mN (by decide +kernel) rfl) pa_nil))) (pe_one (pe_not (pe_callB call_isi (by rfl) mI PyProof.Rows.boot_isinstance (pa_cons (pv 0) (pa_cons (pe_bltn (v := .ty "bool") (by rfl) mB (by decide +kernel) rfl) pa_nil))))))), ?_⟩
    refine ⟨_, rfl, isI hv ⟨_, rfl, ?_⟩⟩
    cases hv with
    | int i => exact iteT ⟨_, rfl, isB (.int i) ⟨_, rfl, q H same_id⟩⟩
    | bl b => exact iteT ⟨_, rfl, isB (.bl b) ⟨_, rfl, q H same_id⟩⟩
    | str x => exact iteF (q H same_id)
    | non => exact iteF (q H same_id)
    | tup _ _ => exact iteF (q H same_id)
    | lst _ => exact iteF (q H same_id)
    | dct _ => exact iteF (q H same_id)
end
end Toy


namespace Toy
open PySem PySem.Spec L2 PyProof.Rows PySem.W
/-! ### the table of forms, as the program tells it -/
def formsL0 : List (Str × List Str) := [("same", []), ("field", ["key"]), ("item", ["index"]), ("every", []), ("none", []), ("fail", []), ("pipe", ["filter", "filter"]), ("both", ["filter", "filter"])]
def formsL1 : List (Str × List Str) := [("if", ["test", "filter", "filter"]), ("try", ["walk"]), ("other", ["walk", "filter"]), ("leaf", ["leaf"]), ("list", ["filter"]), ("dict", ["entries"]), ("sum", ["filter", "filter"]), ("less", ["filter", "filter"])]
def formsL2 : List (Str × List Str) := [("product", ["filter", "filter"]), ("alike", ["filter", "filter"]), ("before", ["filter", "filter"]), ("as", ["filter", "free", "filter"]), ("name", ["free"]), ("when", ["filter", "filter", "filter"]), ("catch", ["filter", "filter"]), ("reduce", ["filter", "free", "filter", "filter"])]
def formsL3 : List (Str × List Str) := [("first", ["filter"]), ("take", ["index", "filter"]), ("fails", ["filter"]), ("def", ["free", "parameters", "filter", "filter"]), ("call", ["free", "filters"]), ("places", ["chooser"]), ("change", ["chooser", "filter"]), ("drop", ["chooser"])]
def formsL4 : List (Str × List Str) := [("add", ["chooser", "key", "filter"]), ("append", ["chooser", "filter"]), ("is", ["sort"]), ("equal", ["leaf"]), ("at", ["walk", "test"]), ("and", ["test", "test"]), ("or", ["test", "test"]), ("not", ["test"])]
def formsL : List (Str × List Str) := formsL0 ++ (formsL1 ++ (formsL2 ++ (formsL3 ++ formsL4)))
def formOf (w : Str) : Option (List Str) := formsL.lookup w
def kinds4 : List Str := ["filter", "test", "walk", "chooser"]
def PK (k : Str) : Bool := decide (k ∈ kinds4)
def choosersL : List Str := ["same", "field", "item", "every", "none", "fail", "pipe", "both", "if", "try", "other"]
abbrev sBeg : Stmt := top 19
def nar (o k : Str) : Str := if k = "filter" then o else k
def begK (x k : Str) : Bool := if k = "walk" then decide (x ∈ walksL) else if k = "chooser" then decide (x ∈ choosersL) else (formOf x).isSome && decide (decide (x ∈ testsL) = decide (k = "test"))
def fldD (k : Str) (f : Dt) : Bool :=
  if PK k = true then true else if k = "key" then wordD f else if k = "free" then freeD f else if k = "index" then wholeD f else if k = "leaf" then leafD f else if k = "sort" then sortD f
  else match f with
    | .tup l => if k = "filters" then decide (l.length ≤ 3) else if k = "parameters" then decide (l.length ≤ 3) && (l.all freeD && uniq (l.map strOfD)) else entsD l
    | _ => false
def FormsK (K : PySem.W.Frag) (w : World) (d : Addr) : Prop := ∀ p ∈ formsL, ∃ a, KDct K w d p.1 (.ref a) ∧ ∀ H, SqT K H a (p.2.map V.str)
def spUnl (K : PySem.W.Frag) : Sp := fun vs H Q _ => ∃ (a : Addr) (ks : List Str), vs = [.ref a] ∧ (SqL K H a (ks.map V.str) ∨ SqT K H a (ks.map V.str)) ∧ ks.length ≤ 300 ∧ ∀ H', Same H H' → Q (.bl (uniq ks)) H'
def spEnts (K : PySem.W.Frag) : Sp := fun vs H Q _ => ∃ (a : Addr) (us : List V) (l : List Dt), vs = [.ref a] ∧ SqT K H a us ∧ DvL K H us l ∧ l.length ≤ 300 ∧ okdL 300 l = true ∧ ∀ H', Same H H' → Q (.bl (entsD l)) H'
def spBeg : Sp := fun vs H Q _ => ∃ (x k : Str), vs = [.str x, .str k] ∧ ∀ H', Same H H' → Q (.bl (begK x k)) H'
def spNar : Sp := fun vs H Q _ => ∃ (o k : Str), vs = [.str o, .str k] ∧ ∀ H', Same H H' → Q (.str (nar o k)) H'
def spFld (K : PySem.W.Frag) : Sp := fun vs H Q _ => ∃ (v : V) (k : Str) (t : Dt), vs = [v, .str k] ∧ Dv K H v t ∧ okd 300 t = true ∧ ∀ H', Same H H' → Q (.bl (fldD k t)) H'
abbrev NEn : List Str := ["values", "entry", "_", "key"]
abbrev NFi : List Str := ["value", "told", "name"]
theorem dec_s (a b : Str) : decide (V.str a = V.str b) = decide (a = b) := decide_eq_decide.mpr ⟨fun h => V.str.inj h, fun h => by rw [h]⟩
theorem lookup_mem {w : Str} {ks : List Str} : ∀ {L : List (Str × List Str)}, L.lookup w = some ks → (w, ks) ∈ L
  | [], h => by cases h
  | (k, v) :: L, h => by
    by_cases e : w = k
    · subst e
      simp [List.lookup] at h
      subst h
      exact List.mem_cons_self
    · have : (w == k) = false := by simp [e]
      simp only [List.lookup, this] at h
      exact List.mem_cons_of_mem _ (lookup_mem h)
theorem dv_flat {K : PySem.W.Frag} {H : Hp} {v : V} {t : Dt} (h : Dv K H v t) : (flatV v = true ∧ sortD t = inV v (sortsL.map V.str)) ∨ ∃ a, v = .ref a ∧ sortD t = false ∧ ((∃ us, SqL K H a us) ∨ (∃ us, SqT K H a us) ∨ ∃ m, H a = some (.dK m)) := by
  have z : ∀ v : V, (∀ k : Str, eqV (.str k) v = false) → inV v (sortsL.map V.str) = false := fun v hv => by
    unfold inV
    rw [List.any_eq_false]
    intro y hy
    obtain ⟨k, _, rfl⟩ := List.mem_map.mp hy
    rw [hv k]
    exact Bool.false_ne_true
  cases h with
  | non => exact .inl ⟨rfl, (z _ fun _ => rfl).symm⟩
  | bl b => exact .inl ⟨rfl, (z _ fun _ => rfl).symm⟩
  | int i => exact .inl ⟨rfl, (z _ fun _ => rfl).symm⟩
  | str x => exact .inl ⟨rfl, (inV_strs x sortsL).symm⟩
  | tup hs _ => exact .inr ⟨_, rfl, rfl, .inr (.inl ⟨_, hs⟩)⟩
  | lst hs => exact .inr ⟨_, rfl, rfl, .inl ⟨_, SqL.of hs⟩⟩
  | dct hs => exact .inr ⟨_, rfl, rfl, .inr (.inr ⟨_, hs⟩)⟩
section
variable {P : Program} {w : World} {K : PySem.W.Frag} {mg : Str → Option Value} {base : Heap}
theorem scBe' : FnScope ["word", "kind"] ["word", "kind"] (defScope sBeg) := ⟨rfl, rfl, rfl, by decide +kernel, rfl, by decide +kernel, by decide +kernel⟩
theorem ok_beg {f aF aT aW aC : Addr} {fd : FuncData} (F : Fun K "begins_kind" "begins_kind" sBeg f fd) (mFo : mg "FORMS" = some (.ref aF)) (FD : ∃ es n, KDict K w aF es n) (FK : FormsK K w aF) (FN : ∀ x, formOf x = none → PySem.W.nsIn K aF x = some none)
    (mT : mg "TESTS" = some (.ref aT)) (TK : TupK K aT testsL) (mW : mg "WALKS" = some (.ref aW)) (WK : TupK K aW walksL) (mC : mg "CHOOSERS" = some (.ref aC)) (CK : TupK K aC choosersL) : FnOk P w K mg base CX0 1 f fd ["word", "kind"] spBeg := by
  obtain ⟨es, nn, FD⟩ := FD
  refine F.ok scBe' (fun vs H Q E h => ?_) (fun cdv A outer s H vs Q E hr h => ?_)
  · obtain ⟨x, k, rfl, _⟩ := h
    rfl
  · obtain ⟨x, k, rfl, q⟩ := h
    refine ⟨_, pss_cons (ps_if (pt_cmpR op_eq (pv 1) pe_str (nomark _)) (pss_one (ps_ret (pe_cmpR op_in_seq (pv 0) (pe_glob (v := .ref aW) (by rfl) mW rfl) (by rfl)))) pss_nil)
      (pss_cons (ps_if (pt_cmpR op_eq (pv 1) pe_str (nomark _)) (pss_one (ps_ret (pe_cmpR op_in_seq (pv 0) (pe_glob (v := .ref aC) (by rfl) mC rfl) (by rfl)))) pss_nil)
      (pss_one (ps_ret (pe_and (pe_cmpR (op_in_kd FD) (pv 0) (pe_glob (v := .ref aF) (by rfl) mFo rfl) (by rfl)) (pe_one (pe_cmpR op_eq (pe_cmpR op_in_seq (pv 0) (pe_glob (v := .ref aT) (by rfl) mT rfl) (by rfl)) (pe_cmpR op_eq (pv 1) pe_str (nomark _)) (nomark _))))))), ?_⟩
    unfold begK at q
    refine ⟨_, rfl, rfl, _, rfl, ?_⟩
    rw [dec_s]
    refine ite2 (fun c1 => ?_) (fun c1 => ?_)
    · rw [if_pos (of_decide_eq_true c1)] at q
      refine ⟨_, rfl, aW, walksL.map V.str, rfl, .inr (WK H), rfl, flat_strs _, ?_⟩
      show Q (.bl (inV (.str x) (walksL.map V.str))) _
      rw [inV_strs]
      exact q H same_id
    rw [if_neg (fun e => c1 (decide_eq_true e))] at q
    refine ⟨_, rfl, rfl, _, rfl, ?_⟩
    rw [dec_s]
    refine ite2 (fun c2 => ?_) (fun c2 => ?_)
    · rw [if_pos (of_decide_eq_true c2)] at q
      refine ⟨_, rfl, aC, choosersL.map V.str, rfl, .inr (CK H), rfl, flat_strs _, ?_⟩
      show Q (.bl (inV (.str x) (choosersL.map V.str))) _
      rw [inV_strs]
      exact q H same_id
    rw [if_neg (fun e => c2 (decide_eq_true e))] at q
    cases hf : formOf x with
    | none =>
      rw [hf] at q
      exact ⟨_, rfl, x, _, rfl, rfl, FN x hf, _, rfl, iteF (q H same_id)⟩
    | some ks =>
      rw [hf] at q
      obtain ⟨a, ⟨es2, n2, u, e1, e2, e3, e4⟩, _⟩ := FK _ (lookup_mem hf)
      refine ⟨_, rfl, x, _, rfl, rfl, e3, _, rfl, iteT ⟨_, rfl, aT, testsL.map V.str, rfl, .inr (TK H), rfl, flat_strs _, _, rfl, rfl, rfl, ?_⟩⟩
      show Q (.bl (decide (V.bl (inV (.str x) (testsL.map V.str)) = V.bl (decide (V.str k = V.str "test"))))) _
      rw [inV_strs, dec_s]
      have e : decide (V.bl (decide (x ∈ testsL)) = V.bl (decide (k = "test"))) = decide (decide (x ∈ testsL) = decide (k = "test")) := decide_eq_decide.mpr ⟨fun h => V.bl.inj h, fun h => by rw [h]⟩
      rw [e]
      exact q H same_id
end
end Toy


namespace Toy
open PySem PySem.Spec L2 PyProof.Rows PySem.W
abbrev NHF : List Str := ["value", "kind", "fields", "told", "field"]
def hasF (k : Str) (t : Dt) : Bool := match t with
  | .tup (.str x :: fs) => begK x k && (match formOf x with
    | some ks => decide (fs.length = ks.length) && (List.range fs.length).all fun i => fldD (ks.getD i Str.empty) (fs.getD i .non)
    | none => false)
  | _ => false
theorem walks_form : ∀ x ∈ walksL, (formOf x).isSome = true := by decide +kernel
theorem choosers_form : ∀ x ∈ choosersL, (formOf x).isSome = true := by decide +kernel
theorem forms_len : ∀ p ∈ formsL, p.2.length ≤ 4 := by decide +kernel
theorem begK_form {x k : Str} (h : begK x k = true) : ∃ ks, formOf x = some ks := by
  have : (formOf x).isSome = true := by
    unfold begK at h
    split at h
    · exact walks_form x (of_decide_eq_true h)
    · split at h
      · exact choosers_form x (of_decide_eq_true h)
      · rw [Bool.and_eq_true] at h
        exact h.1
  cases e : formOf x with
  | none => rw [e] at this; cases this
  | some ks => exact ⟨ks, rfl⟩
theorem hasF_cases {k : Str} {t : Dt} (h : hasF k t = true) : ∃ x fs ks, t = .tup (.str x :: fs) ∧ formOf x = some ks ∧ fs.length = ks.length ∧ ∀ i, i < fs.length → fldD (ks.getD i Str.empty) (fs.getD i .non) = true := by
  unfold hasF at h
  split at h
  · rename_i x fs
    rw [Bool.and_eq_true] at h
    cases e : formOf x with
    | none =>
      rw [e] at h
      exact absurd h.2 Bool.false_ne_true
    | some ks =>
      have h2 := h.2
      rw [e] at h2
      simp only [Bool.and_eq_true, decide_eq_true_eq, List.all_eq_true, List.mem_range] at h2
      exact ⟨x, fs, ks, rfl, e, h2.1, h2.2⟩
  · cases h
def spHF (K : PySem.W.Frag) : Sp := fun vs H Q _ => ∃ (v : V) (t : Dt) (k : Str), vs = [v, .str k] ∧ Dv K H v t ∧ okd 300 t = true ∧ ∀ H', Same H H' → Q (.bl (hasF k t)) H'
theorem cut_1w (a : V) (xs : List V) : ¬ (HT.sIx (a :: xs).length 0 (some 1) = 0 ∧ HT.sIx (a :: xs).length (a :: xs).length none = (a :: xs).length) := by
  rw [show HT.sIx (a :: xs).length 0 (some 1) = min 1 (a :: xs).length from HT.sIx_nat _ _ 1]
  intro h
  have := h.1
  rw [List.length_cons] at this
  omega
section
variable {P : Program} {w : World} {K : PySem.W.Frag} {mg : Str → Option Value} {base : Heap}
end
end Toy


namespace Toy
open PySem PySem.Spec L2 PyProof.Rows PySem.W
abbrev sKP : Stmt := top 20
abbrev NKP : List Str := ["term", "found", "kind", "field", "part", "_"]
/-! ### the parts of a form, with what they must be -/
def itemsD : Dt → List Dt
  | .tup l => l
  | _ => []
def kpK (k : Str) (f : Dt) : List (Str × Dt) := if PK k = true then [(k, f)] else if k = "filters" then (itemsD f).map fun g => (("filter" : Str), g) else if k = "entries" then (itemsD f).map fun e => (("filter" : Str), valD e) else []
def kpF : List Str → List Dt → List (Str × Dt)
  | k :: ks, f :: fs => kpK k f ++ kpF ks fs
  | _, _ => []
theorem kpF_take : ∀ (ks : List Str) (fs : List Dt) (i : Nat) {k : Str} {f : Dt}, ks[i]? = some k → fs[i]? = some f → kpF (ks.take (i + 1)) (fs.take (i + 1)) = kpF (ks.take i) (fs.take i) ++ kpK k f
  | k :: ks, f :: fs, 0, _, _, h1, h2 => by
    cases h1
    cases h2
    simp [kpF]
  | k :: ks, f :: fs, i + 1, _, _, h1, h2 => by
    have := kpF_take ks fs i (by simpa using h1) (by simpa using h2)
    simp only [List.take_succ_cons, kpF]
    rw [this, List.append_assoc]
  | [], _, _, _, _, h1, _ => by simp at h1
  | _ :: _, [], _, _, _, _, h2 => by simp at h2
def kpOf : Dt → List (Str × Dt)
  | .tup (.str x :: fs) => match formOf x with
    | some ks => kpF ks fs
    | none => []
  | _ => []
/-- at q a pair of what a part must be and the part, as H told it -/
def OKp (K : PySem.W.Frag) (H H' : Hp) (q : Addr) (p : Str × Dt) : Prop := ∃ v, H' q = some (.tup [.str p.1, v]) ∧ Dv K H v p.2
theorem okp_same {K : PySem.W.Frag} {H H1 H2 : Hp} {qs : List Addr} {ps : List (Str × Dt)} (s : Same H1 H2) (h : Paired (OKp K H H1) qs ps) : Paired (OKp K H H2) qs ps := L2.Paired.mapP h fun _ _ ⟨v, z, d⟩ => ⟨v, s _ _ z, d⟩
theorem okp_put {K : PySem.W.Frag} {H H1 : Hp} {L : Addr} {xs ys : List V} {qs : List Addr} {ps : List (Str × Dt)} (hL : H1 L = some (.lst xs)) (h : Paired (OKp K H H1) qs ps) : Paired (OKp K H (upd H1 L (.lst ys))) qs ps := L2.Paired.mapP h fun q p ⟨v, z, d⟩ => ⟨v, by
  rw [upd_ne (ne_of z hL (by intro e; cases e))]
  exact z, d⟩
theorem ent_casesE {t : Dt} (h : entD t = true) : ∃ k g, t = .tup [.str k, g] ∧ wordS k = true := by
  unfold entD at h
  split at h
  · exact ⟨_, _, rfl, h⟩
  · cases h
theorem paired_app {α β : Type} {F : α → β → Prop} : ∀ {xs : List α} {ys : List β} {us : List α} {vs : List β}, Paired F xs ys → Paired F us vs → Paired F (xs ++ us) (ys ++ vs)
  | _, _, _, _, .nil, r => r
  | _, _, _, _, .cons a b, r => .cons a (paired_app b r)
def spKP (K : PySem.W.Frag) : Sp := fun vs H Q _ => ∃ (v : V) (t : Dt) (k : Str) (H0 : Hp), vs = [v] ∧ Same H0 H ∧ Dv K H0 v t ∧ okd 300 t = true ∧ hasF k t = true ∧ ∀ H' L (qs : List Addr), Same H H' → H L = none → H' L = some (.lst (qs.map V.ref)) → Paired (OKp K H0 H') qs (kpOf t) → qs.length ≤ 1200 → Q (.ref L) H'
section
variable {P : Program} {w : World} {K : PySem.W.Frag} {mg : Str → Option Value} {base : Heap}
theorem scKP : FnScope NKP ["term"] (defScope sKP) := ⟨rfl, rfl, rfl, by decide +kernel, rfl, by decide +kernel, by decide +kernel⟩
theorem ok_kp {f aF aP : Addr} {fd : FuncData} (F : Fun K "kinds_and_parts" "kinds_and_parts" sKP f fd) (mFo : mg "FORMS" = some (.ref aF)) (FK : FormsK K w aF) (mPK : mg "PART_KINDS" = some (.ref aP)) (PKK : TupK K aP kinds4)
    (mZip : mg "zip" = none) : FnOk P w K mg base CX0 1 f fd ["term"] (spKP K) := by
  refine F.ok scKP (fun vs H Q E h => ?_) (fun cdv A outer s H vs Q E hr h => ?_)
  · obtain ⟨v, t, k, H0, rfl, _⟩ := h
    rfl
  · obtain ⟨v, t, k, H0, rfl, s0, hv, hok, hf, q⟩ := h
    obtain ⟨wd, fs, ks, rfl, hk, hkl, hfl⟩ := hasF_cases hf
    refine ⟨_, pss_cons (ps_set (i := 1) scKP.nd rfl (Or.inl rfl) (pe_lst pa_nil))
      (pss_cons (ps_for PassesOwn.never rfl (RZ.pi_zipA (by rfl) mZip (pa_cons (pe_ix ix_kdict (pe_glob (v := .ref aF) (by rfl) mFo rfl) (pe_ix ix_tup (pv 0) pe_int (fun _ _ => rfl)) (fun _ _ => rfl)) (pa_cons (pe_slice sl_tup (pv 0) (po_some pe_int) po_none) pa_nil)))
        (pg_tup (by rfl) (pgs_cons (pg_name (i := 2) scKP.nd rfl (.inl rfl)) (pgs_cons (pg_name (i := 3) scKP.nd rfl (.inl rfl)) pgs_nil)))
        (pss_one (ps_if (pt_cmpR op_in_seq (pv 2) (pe_glob (v := .ref aP) (by rfl) mPK rfl) (by rfl))
          (pss_one (ps_expr (pe_bm PySem.F.plainAttrs_list PySem.F.slot_list_append PySem.F.type_list_append mt_append (pv 1) (pa_cons (pe_tup (pa_cons (pv 2) (pa_cons (pv 3) pa_nil))) pa_nil))))
          (pss_one (ps_if (pt_cmpR op_eq (pv 2) pe_str (nomark _))
            (pss_one (ps_expr (pe_bm PySem.F.plainAttrs_list PySem.F.slot_list_extend PySem.F.type_list_extend mt_extend (pv 1) (pa_cons (pe_lc (own := [("part", 4)]) (g := gName 4) (te := tTup (tCons (tC (.str "filter")) (tCons (tVar 4) tNil))) (by rfl) scKP.nd (pi_tup (pv 3))
              (blkOk_by (own := [("part", 4)]) (N := NKP) (sc := defScope sKP) (by decide +kernel)) (fun _ _ _ _ _ => pg_name (i := 4) scKP.nd rfl (Or.inl rfl)) (fun _ _ _ _ _ => pts_nil)
              (fun _ _ _ _ _ => pe_tup (pa_cons pe_str (pa_cons (pv 4) pa_nil)))) pa_nil))))
            (pss_one (ps_if (pt_cmpR op_eq (pv 2) pe_str (nomark _))
              (pss_one (ps_expr (pe_bm PySem.F.plainAttrs_list PySem.F.slot_list_extend PySem.F.type_list_extend mt_extend (pv 1) (pa_cons (pe_lc (own := [("_", 5), ("part", 4)]) (g := gTup K 2 (gCons (gName 5) (gCons (gName 4) gNil))) (te := tTup (tCons (tC (.str "filter")) (tCons (tVar 4) tNil))) (by rfl) scKP.nd (pi_tup (pv 3))
                (blkOk_by (own := [("_", 5), ("part", 4)]) (N := NKP) (sc := defScope sKP) (by decide +kernel)) (fun _ _ _ _ _ => by exact (pg_tup rfl (pgs_cons (by exact (pg_name (i := 5) scKP.nd rfl (Or.inl rfl))) (pgs_cons (by exact (pg_name (i := 4) scKP.nd rfl (Or.inl rfl))) pgs_nil)))) (fun _ _ _ _ _ => pts_nil)
                (fun _ _ _ _ _ => pe_tup (pa_cons pe_str (pa_cons (pv 4) pa_nil)))) pa_nil))))
              pss_nil)))))))
      (pss_one (ps_ret (pv 1)))), ?_⟩
    cases hv with
    | @tup av xs _ hseq hall =>
    cases hall with
    | @cons v0 d0 vs ds h0 hvs =>
    cases h0
    have hseq := same_seqT s0 hseq
    have hvl := dvl_len hvs
    simp only [okd, okdL, List.length_cons, Bool.and_eq_true, decide_eq_true_eq] at hok
    have hmem := lookup_mem hk
    obtain ⟨aK, hK1, hK2⟩ := FK _ hmem
    have k4 : ks.length ≤ 4 := forms_len _ hmem
    have eK : kpOf (.tup (.str wd :: fs)) = kpF ks fs := by
      unfold kpOf
      simp only [hk]
    rw [eK] at q
    refine ⟨few (by show 0 ≤ 1000; decide), fun L nL => ?_⟩
    have sL : Same H (upd H L (.lst [])) := same_new same_id nL
    have q1 : SqT K (upd H L (.lst [])) av (.str wd :: vs) := same_seqT sL hseq
    have hL0 : (upd H L (.lst [])) L = some (.lst []) := upd_same
    generalize upd H L (.lst []) = H1 at sL q1 hL0 ⊢
    refine ⟨_, rfl, av, _, 0, _, rfl, rfl, q1, at_0 _ _, aF, wd, _, rfl, rfl, hK1, _, rfl, 1, rfl, av, _, rfl, q1, cut_1w _ _, fun B nB => ?_⟩
    rw [cut_1]
    have nLB : L ≠ B := ne_of_none hL0 nB
    have hB : (upd H1 B (.tup vs)) B = some (.tup vs) := upd_same
    have hLB : (upd H1 B (.tup vs)) L = some (.lst []) := (upd_ne nLB).trans hL0
    have sHB : Same H (upd H1 B (.tup vs)) := same_new sL nB
    generalize upd H1 B (.tup vs) = H4 at hB hLB sHB ⊢
    refine ⟨aK, B, ks.map V.str, vs, rfl, .inr ⟨hK2 H4, SqT.of hB, ?_⟩⟩
    refine RZ.for_zipT (K := K) (a := aK) (b := B) (xs := ks.map V.str) (ys := vs) (by rw [List.length_map]; omega) (fun i σ H' => ∃ (qs : List Addr) (a b : Option V), σ = [some (.ref av), some (.ref L), a, b, none, none] ∧ Same H H' ∧ H' L = some (.lst (qs.map V.ref)) ∧ H' B = some (.tup vs) ∧ Paired (OKp K H0 H') qs (kpF (ks.take i) (fs.take i)) ∧ qs.length ≤ 300 * i)
      ⟨[], none, none, rfl, sHB, hLB, hB, .nil, Nat.zero_le _⟩ ?_ ?_ ?_
    · rintro i σ H' ⟨qs, a, b, _, _, _, e, _⟩
      exact ⟨hK2 H', SqT.of e⟩
    · rintro i k y T σ H5 hk5 hy ⟨qs, a, b, rfl, s5, hM, hB5, hqs, hlen⟩ nT
      have hi : i < vs.length := by
        rcases Nat.lt_or_ge i vs.length with z | z
        · exact z
        · rw [List.getElem?_eq_none z] at hy
          cases hy
      have z4 := sizeLine_eq
      obtain ⟨f0, hf0, hyf⟩ := dvl_get hvs hy
      have hki : ks[i]? = some ks[i] := List.getElem?_eq_getElem (by omega)
      have hfo := hfl i (by omega)
      have e1 : ks.getD i Str.empty = ks[i] := by rw [List.getD_eq_getElem?_getD, hki]; rfl
      have e2 : fs.getD i .non = f0 := by rw [List.getD_eq_getElem?_getD, hf0]; rfl
      rw [e1, e2] at hfo
      generalize ks[i] = k0 at hki hfo
      have ek : k = .str k0 := by
        rw [List.getElem?_map, hki] at hk5
        exact (Option.some.inj hk5).symm
      subst ek
      have hpt := kpF_take ks fs i hki hf0
      have hokf := okd_get hok.2.2 hf0
      have nMT : L ≠ T := ne_of_none hM nT
      have nBT : B ≠ T := ne_of_none hB5 nT
      have sT1 : Same H5 (upd H5 T (.tup [.str k0, y])) := same_new same_id nT
      have sT : Same H (upd H5 T (.tup [.str k0, y])) := same_new s5 nT
      have hMT : (upd H5 T (.tup [.str k0, y])) L = some (.lst (qs.map V.ref)) := (upd_ne nMT).trans hM
      have hBT : (upd H5 T (.tup [.str k0, y])) B = some (.tup vs) := (upd_ne nBT).trans hB5
      have hqT := okp_same sT1 hqs
      refine ⟨T, _, rfl, SqT.of upd_same, rfl, _, _, rfl, _, _, rfl, rfl, ?_⟩
      generalize upd H5 T (.tup [.str k0, y]) = H6 at sT hMT hBT hqT ⊢
      refine ⟨_, rfl, aP, _, rfl, .inr (PKK H6), rfl, flat_strs kinds4, _, rfl, ?_⟩
      have ein : inV (V.str k0) (kinds4.map V.str) = PK k0 := inV_strs k0 kinds4
      show (if inV (V.str k0) (kinds4.map V.str) = true then _ else _)
      rw [ein]
      refine ite2 (fun c1 => ?_) (fun c1 => ?_)
      · have ep : kpK k0 f0 = [(k0, f0)] := by unfold kpK; rw [if_pos c1]
        refine ⟨_, rfl, .inl ⟨rfl, _, SqL.of hMT⟩, _, rfl, _, rfl, few (by show 2 ≤ 1000; decide), fun T2 nT2 => ?_⟩
        have nLT2 : L ≠ T2 := ne_of_none hMT nT2
        refine ⟨L, qs.map V.ref, .ref T2, rfl, rfl, (upd_ne nLT2).trans hMT, by rw [List.length_map]; omega, ?_⟩
        refine ⟨qs ++ [T2], _, _, rfl, same_put (same_new sT nT2) nL, by rw [upd_same, List.map_append]; rfl, ?_, ?_, ?_⟩
        · rw [upd_ne (ne_of hBT hMT (by intro e; cases e)), upd_ne (ne_of_none hBT nT2)]
          exact hBT
        · rw [hpt, ep]
          exact Paired.snoc (okp_put ((upd_ne nLT2).trans hMT) (okp_same (same_new same_id nT2) hqT)) ⟨y, by show upd _ _ _ _ = _; rw [upd_ne nLT2.symm, upd_same], hyf⟩
        · rw [List.length_append, List.length_singleton]
          omega
      have hPn := c1
      refine ⟨_, rfl, rfl, _, rfl, ite2 (fun c2 => ?_) (fun c2 => ?_)⟩
      · have hE : k0 = "filters" := V.str.inj (of_decide_eq_true c2)
        subst hE
        cases hyf with
        | @tup ay zs gs hzq hza =>
          simp only [okd, Bool.and_eq_true, decide_eq_true_eq] at hokf
          have hzq := same_seqT s0 hzq
          have zl := dvl_len hza
          have ep : kpK "filters" (.tup gs) = gs.map fun g => (("filter" : Str), g) := by
            unfold kpK
            rw [if_neg hPn, if_pos rfl]
            rfl
          refine ⟨_, rfl, .inl ⟨rfl, _, SqL.of hMT⟩, _, rfl, ay, rfl, ⟨zs, same_seqT sT hzq⟩, fun D nD => ?_⟩
          have nLD : L ≠ D := ne_of_none hMT nD
          refine lc_tup (K := K) (a := ay) (xs := zs) (fun j H' => ∃ (rs : List Addr), Same H6 H' ∧ H' D = some (.lst (rs.map V.ref)) ∧ Paired (OKp K H0 H') rs ((gs.take j).map fun g => (("filter" : Str), g))) ⟨[], same_new same_id nD, upd_same, .nil⟩ ?_ ?_ ?_
          · rintro j H' _ ⟨rs, s7, _⟩
            exact same_seqT (sT.trans s7) hzq
          · rintro j z H' hz ⟨rs, s7, hD, hrs⟩
            obtain ⟨g0, hg0, hzg⟩ := dvl_get hza hz
            have lrs := Paired.length hrs
            rw [List.length_map, List.length_take] at lrs
            refine ⟨rfl, _, rfl, few (by show 2 ≤ 1000; decide), fun T2 nT2 => ?_⟩
            have nDT2 : D ≠ T2 := ne_of_none hD nT2
            refine ⟨rs.map V.ref, (upd_ne nDT2).trans hD, by rw [List.length_map]; omega, rs ++ [T2], ?_, by rw [upd_same, List.map_append]; rfl, ?_⟩
            · intro b' o ho
              rw [upd_ne (ne_of_none ho nD), upd_ne (ne_of_none (s7 _ _ ho) nT2)]
              exact s7 _ _ ho
            · rw [List.take_add_one, hg0, List.map_append]
              exact Paired.snoc (okp_put ((upd_ne nDT2).trans hD) (okp_same (same_new same_id nT2) hrs)) ⟨z, by show upd _ _ _ _ = _; rw [upd_ne nDT2.symm, upd_same], hzg⟩
          · rintro H7 ⟨rs, s7, hD, hrs⟩
            rw [zl, List.take_length] at hrs
            have lrs := Paired.length hrs
            rw [List.length_map] at lrs
            have hM7 := s7 _ _ hMT
            refine ⟨L, D, qs.map V.ref, rs.map V.ref, rfl, rfl, hM7, hD, by rw [List.length_map, List.length_map]; omega, ?_⟩
            refine ⟨qs ++ rs, _, _, rfl, same_put (sT.trans s7) nL, by rw [upd_same, List.map_append], ?_, ?_, ?_⟩
            · rw [upd_ne (ne_of (s7 _ _ hBT) hM7 (by intro e; cases e))]
              exact s7 _ _ hBT
            · rw [hpt, ep]
              exact paired_app (okp_put hM7 (okp_same s7 hqT)) (okp_put hM7 hrs)
            · rw [List.length_append]
              omega
        | _ => exact absurd hfo (by simp [fldD, show PK "filters" = false from by decide +kernel, show ¬ (("filters" : Str) = "key") from by decide +kernel, show ¬ (("filters" : Str) = "free") from by decide +kernel, show ¬ (("filters" : Str) = "index") from by decide +kernel, show ¬ (("filters" : Str) = "leaf") from by decide +kernel, show ¬ (("filters" : Str) = "sort") from by decide +kernel])
      refine ⟨_, rfl, rfl, _, rfl, ite2 (fun c3 => ?_) (fun c3 => ?_)⟩
      · have hE : k0 = "entries" := V.str.inj (of_decide_eq_true c3)
        subst hE
        have hen : ∃ gs, f0 = .tup gs ∧ entsD gs = true := by
          cases f0 with
          | tup gs =>
            refine ⟨gs, rfl, ?_⟩
            simpa [fldD, show PK "entries" = false from by decide +kernel, show ¬ (("entries" : Str) = "key") from by decide +kernel, show ¬ (("entries" : Str) = "free") from by decide +kernel, show ¬ (("entries" : Str) = "index") from by decide +kernel, show ¬ (("entries" : Str) = "leaf") from by decide +kernel, show ¬ (("entries" : Str) = "sort") from by decide +kernel, show ¬ (("entries" : Str) = "filters") from by decide +kernel, show ¬ (("entries" : Str) = "parameters") from by decide +kernel] using hfo
          | _ => exact absurd hfo (by simp [fldD, show PK "entries" = false from by decide +kernel, show ¬ (("entries" : Str) = "key") from by decide +kernel, show ¬ (("entries" : Str) = "free") from by decide +kernel, show ¬ (("entries" : Str) = "index") from by decide +kernel, show ¬ (("entries" : Str) = "leaf") from by decide +kernel, show ¬ (("entries" : Str) = "sort") from by decide +kernel])
        obtain ⟨gs, rfl, hen⟩ := hen
        have hae : gs.all entD = true := by
          unfold entsD at hen
          rw [Bool.and_eq_true] at hen
          exact hen.1
        simp only [okd, Bool.and_eq_true, decide_eq_true_eq] at hokf
        cases hyf with
        | @tup ay zs _ hzq hza =>
          have hzq := same_seqT s0 hzq
          have zl := dvl_len hza
          have ep : kpK "entries" (.tup gs) = gs.map fun e => (("filter" : Str), valD e) := by
            unfold kpK
            rw [if_neg hPn, if_neg (by decide +kernel), if_pos rfl]
            rfl
          refine ⟨_, rfl, .inl ⟨rfl, _, SqL.of hMT⟩, _, rfl, ay, rfl, ⟨zs, same_seqT sT hzq⟩, fun D nD => ?_⟩
          have nLD : L ≠ D := ne_of_none hMT nD
          refine lc_tup (K := K) (a := ay) (xs := zs) (fun j H' => ∃ (rs : List Addr), Same H6 H' ∧ H' D = some (.lst (rs.map V.ref)) ∧ Paired (OKp K H0 H') rs ((gs.take j).map fun e => (("filter" : Str), valD e))) ⟨[], same_new same_id nD, upd_same, .nil⟩ ?_ ?_ ?_
          · rintro j H' _ ⟨rs, s7, _⟩
            exact same_seqT (sT.trans s7) hzq
          · rintro j z H' hz ⟨rs, s7, hD, hrs⟩
            obtain ⟨g0, hg0, hzg⟩ := dvl_get hza hz
            obtain ⟨kx, g', rfl, _⟩ := ent_casesE (List.all_eq_true.mp hae g0 (List.mem_of_getElem? hg0))
            cases hzg with
            | @tup az es _ heq hea =>
            cases hea with
            | @cons e0 _ es1 _ k0' hea1 =>
            cases hea1 with
            | @cons e1v _ es2 _ k1' hea2 =>
            cases hea2
            have heq := same_seqT s0 heq
            have lrs := Paired.length hrs
            rw [List.length_map, List.length_take] at lrs
            refine ⟨az, _, rfl, same_seqT (sT.trans s7) heq, rfl, _, _, rfl, _, _, rfl, rfl, rfl, _, rfl, few (by show 2 ≤ 1000; decide), fun T2 nT2 => ?_⟩
            have nDT2 : D ≠ T2 := ne_of_none hD nT2
            refine ⟨rs.map V.ref, (upd_ne nDT2).trans hD, by rw [List.length_map]; omega, rs ++ [T2], ?_, by rw [upd_same, List.map_append]; rfl, ?_⟩
            · intro b' o ho
              rw [upd_ne (ne_of_none ho nD), upd_ne (ne_of_none (s7 _ _ ho) nT2)]
              exact s7 _ _ ho
            · rw [List.take_add_one, hg0, List.map_append]
              exact Paired.snoc (okp_put ((upd_ne nDT2).trans hD) (okp_same (same_new same_id nT2) hrs)) ⟨e1v, by show upd _ _ _ _ = _; rw [upd_ne nDT2.symm, upd_same], k1'⟩
          · rintro H7 ⟨rs, s7, hD, hrs⟩
            rw [zl, List.take_length] at hrs
            have lrs := Paired.length hrs
            rw [List.length_map] at lrs
            have hM7 := s7 _ _ hMT
            refine ⟨L, D, qs.map V.ref, rs.map V.ref, rfl, rfl, hM7, hD, by rw [List.length_map, List.length_map]; omega, ?_⟩
            refine ⟨qs ++ rs, _, _, rfl, same_put (sT.trans s7) nL, by rw [upd_same, List.map_append], ?_, ?_, ?_⟩
            · rw [upd_ne (ne_of (s7 _ _ hBT) hM7 (by intro e; cases e))]
              exact s7 _ _ hBT
            · rw [hpt, ep]
              exact paired_app (okp_put hM7 (okp_same s7 hqT)) (okp_put hM7 hrs)
            · rw [List.length_append]
              omega
      · have n1 : ¬ k0 = "filters" := fun e => c2 (by rw [e]; exact decide_eq_true rfl)
        have n2 : ¬ k0 = "entries" := fun e => c3 (by rw [e]; exact decide_eq_true rfl)
        have ep : kpK k0 f0 = [] := by
          unfold kpK
          rw [if_neg hPn, if_neg n1, if_neg n2]
        refine ⟨qs, _, _, rfl, sT, hMT, hBT, ?_, by omega⟩
        rw [hpt, ep, List.append_nil]
        exact hqT
    · rintro σ H5 ⟨qs, a, b, rfl, s5, hM, hB5, hqs, hlen⟩
      rw [List.length_map] at hlen
      rw [List.length_map, List.take_length, show fs.take ks.length = fs by rw [← hkl, List.take_length]] at hqs
      exact ⟨_, rfl, q H5 L qs s5 nL hM hqs (by omega)⟩
end
end Toy


/-! An own exception class over any base, called with positional or keyword arguments: the library tells it without keywords. -/
namespace PySem
namespace KX
open PySem.W PySem.Calls PyProof.Rows PySem.HandSPX
open Builtin Builtin.ObjectAttr
section
variable {P : Program} {wo : World} {Ar : Around} {Er : Value → Shared → Prop} {Rs : Result → Shared → Prop} {hp : Heap} {gs : Array GenState} {dr : Drawn} {tk : Nat} {os : OsState}
variable {cn qn : Str} {c nsA : Addr} {bases tl bt : List Value} {hasD : Bool} {sls : List Str} {subs : List Value} {abst : Bool} {coll : Option Bool} {cd : Option Addr} {y0 y1 y2 y3 y5 : Option Value} {base nid iid : String}
/-- the class's object -/
abbrev clsO (cn qn : Str) (c nsA : Addr) (bases tl : List Value) (hasD : Bool) (sls : List Str) (subs : List Value) (abst : Bool) (coll : Option Bool) (cd : Option Addr) (y0 y1 y2 y3 y5 : Option Value) (nid : String) : Obj :=
  excClassObj cn qn c nsA bases tl hasD sls subs abst coll cd y0 y1 y2 y3 y5 nid
variable (FB : ExcBaseFacts base nid iid bt) (same : ∀ Z : String, tl.contains (.type Z) = bt.contains (.type Z)) (at_ : hp.get? c = some (clsO cn qn c nsA bases tl hasD sls subs abst coll cd y0 y1 y2 y3 y5 nid))
include same in
theorem has_in {Z : String} {b : Bool} (z : bt.contains (.type Z) = b) : (Value.ref c :: tl).contains (.type Z) = b := by
  rw [List.contains_cons, same Z, z]; exact Bool.false_or b
include FB same at_ in
theorem new_checked {M : Model} {ps : List Value} {ks : List (Str × Value)} {Go : Unit → Shared → Prop} (go : Go () ⟨hp, gs, dr, tk, os⟩) : wpAny M Ar (checkBuiltinCall nid ⟨.ref c :: ps, ks⟩) Go Er ⟨hp, gs, dr, tk, os⟩ := by
  have star := FB.noStar
  have sub := has_in (c := c) same FB.hasB
  simp only [checkBuiltinCall, FB.newKind, FB.newSplit, FB.newRow]
  repeat (first | (refine wpAny_isSubtype_exc at_ ?_; rw [sub]) | refine wpAny_loadPart_at at_ ?_ | refine wpAny_madeBy_exc at_ ?_ | refine wpAny_staticBase_exc at_ ?_ | wp_step | simp only [Bool.false_eq_true, bne_self_eq_false, if_false])
  exact go
include FB same at_ in
theorem born {ps : List Value} {ks : List (Str × Value)} (few : ps.length ≤ sizeLine)
    (go : Rs (.ok (.ret (.ref (hp.objs.size + 1)))) ⟨(hp.push (W.kdv_tup ps)).push (excO c hp.objs.size), gs, dr, tk, os⟩) : codeAny (model P wo) Ar (.builtin nid ⟨.ref c :: ps, ks⟩) Rs ⟨hp, gs, dr, tk, os⟩ := by
  have fin := FB.ends
  have i1 := has_in (c := c) same FB.hasB
  have i2 := has_in (c := c) same FB.noAttr
  have i3 := has_in (c := c) same FB.noName
  refine codeAny_builtinAt FB.entry ?_
  unfold Builtin.«BaseException.__new__»
  refine wpAt_bind (?_ : wpAt _ _ _ (stack >>= _) _ _ _)
  refine wpAt_bind (wpAt_stack fun _ _ => wpAt_of_wpAny ?_)
  wp_walk
  refine wpAt_of_wpAny ?_
  rw [FB.owner]
  repeat (first | with_reducible refine wpAny_loadPart_at at_ ?_ | with_reducible refine wpAny_madeHere_exc FB.canon at_ ?_ | (with_reducible refine wpAny_isSubtype_exc at_ ?_; first | rw [i1] | rw [i2] | rw [i3]) | wp_step)
  show Rs _ _
  rw [Heap.size_push]
  exact go
include FB same at_ in
/-- C(.., k = ..): a new object, then the class's own __init__ -/
theorem class_called {ps : List Value} {ks : List (Str × Value)} {fi : Addr} (few : ps.length ≤ sizeLine)
    (ini : W.Looks (model P wo) hp (typeLookup (.ref c) "__init__") (some (.ref fi))) (bnd : ∀ self, W.Looks (model P wo) hp (bindSpecial (.ref fi) self) (.ref fi, [self]))
    (go : codeAny (model P wo) (Ar.under (.builtin "type.__call__" ⟨.ref c :: ps, ks⟩)) (.call (.ref fi) ⟨.ref (hp.objs.size + 1) :: ps, ks⟩) (W.InitBack (hp.objs.size + 1) Rs)
      ⟨(hp.push (W.kdv_tup ps)).push (excO c hp.objs.size), gs, dr, tk, os⟩) : codeAny (model P wo) Ar (.call (.ref c) ⟨ps, ks⟩) Rs ⟨hp, gs, dr, tk, os⟩ := by
  have t1 := tc_lookup
  have t2 := tc_bind (.ref c)
  have isT : (⟨hp, gs, dr, tk, os⟩ : Shared).TypeIs (.ref c) "type" := ⟨_, at_, rfl⟩
  refine codeAny_of_tree (?_ : wpAny _ _ (callAny (.ref c) _) _ _ _)
  repeat (any_goals (first | assumption | wp_step | with_reducible refine wpAny_loadPart_at at_ ?_))
  refine ⟨rfl, codeAny_call_builtin_at (Code.quiet_builtin _ (by decide +kernel)) entry_typeCall (wpAny_check_type_call_sub at_ (?_ : wpAny _ _ (Builtin.«type.__call__» ⟨.ref c :: ps, ks⟩) _ _ _))⟩
  repeat (first | with_reducible refine wpAny_madeBy_exc at_ ?_ | with_reducible refine wpAny_loadPart_at at_ ?_ | wp_step)
  refine codeAny_call_builtin_code (Code.quiet_builtin _ FB.quiet) (new_checked FB same at_ (born FB same at_ few ?_))
  show wpAny _ _ _ _ _ _
  have up : ∀ b o, hp.get? b = some o → ((hp.push (W.kdv_tup ps)).push (excO c hp.objs.size)).get? b = some o := fun _ _ q => Heap.get?_push_of_some _ (Heap.get?_push_of_some _ q)
  have at2 := up _ _ at_
  have obj : ((hp.push (W.kdv_tup ps)).push (excO c hp.objs.size)).get? (hp.objs.size + 1) = some (excO c hp.objs.size) := by heap_get
  have self : (Value.ref c :: tl).contains (.ref c) = true := by simp
  have l1 := ini.keeps up
  have l2 := (bnd (.ref (hp.objs.size + 1))).keeps up
  unfold isInstance
  repeat (first | (with_reducible refine wpAny_isSubtype_exc at2 ?_; rw [self]) | with_reducible refine wpAny_loadPart_at obj ?_ | wp_step)
  refine (l1.at ?_ : wpAny _ _ (typeLookup (.ref c) _) _ _ _)
  refine wpAny_holding (wpAny_bind (l2.at (wpAny_bind (wpAny_call (codeAny_mono go fun r s' q => ?_)))))
  cases r with
  | error e => exact q
  | ok fl =>
    cases fl with
    | ret v =>
      obtain ⟨rfl, q⟩ := q
      first
        | exact wpAny_pure (wpAny_pure q)
        | (wp_walk; exact q)
    | next => exact q.elim
    | brk => exact q.elim
    | cont => exact q.elim
end
end KX
end PySem


namespace PySem
namespace KX
open PySem.W PySem.Calls PyProof.Rows PySem.HandSPX
open Builtin Builtin.ObjectAttr
/-- what the written part says of an own exception class with an own __init__, over the built-in class of that name -/
structure Own (K : Frag) (c fi : Addr) (base nid iid : String) (bt : List Value) : Prop where
  FB : ExcBaseFacts base nid iid bt
  SF : StoreFacts base bt "object.__setattr__" "object"
  ini : excInitIn K c bt nid = true
  over : excOver K c bt = true
  dct : hasDictIn K c = true
  sa : findIn K (.ref c) "__setattr__" = some (some (.builtin "object.__setattr__"))
  ga : findIn K (.ref c) "__getattribute__" = some (some (.builtin "BaseException.__getattribute__"))
  gg : findIn K (.ref c) "__getattr__" = some none
  exc : subIn K (.ref c) (.type "BaseException") = some true
  kp : keepIn K (.ref c) = true
  fI : findIn K (.ref c) "__init__" = some (some (.ref fi))
  fT : typeIn K (.ref fi) = some (.type "function")
  cA : findIn K (.ref c) "__class__" = some (some (.builtin "object.__class__"))
  cN : specialIn K (.builtin "object.__class__") "__get__" = some (some (.builtin "getset_descriptor.__get__"))
  cT : takesIn K (.builtin "object.__class__") = some true
  cM : mroIn K c (.type "object") = some true
/-- no class says anything of the name f -/
structure Free (K : Frag) (c : Addr) (f : Str) : Prop where
  t : takerIn K c f = some none
  n : findIn K (.ref c) f = some none
/-- an exception's object, its dict at d -/
abbrev withD (c t : Addr) (d : Option Addr) : Obj := { cls := .ref c, dict := d, data := .fields #[.ref t, .none, .none, .none, .bool false, .none] }
section
variable {P : Program} {wo : World} {Ar : Around} {Rs : Result → Shared → Prop} {hp : Heap} {gs : Array GenState} {dr : Drawn} {tk : Nat} {os : OsState}
variable {K : Frag} {c fi : Addr} {base nid iid : String} {bt : List Value} {f : Str} {v : Value} {x t : Addr} {tn : Tok}
/-- the first store -/
theorem put_first (O : Own K c fi base nid iid bt) (N : Free K c f) (X : K.In hp) (hx : hp.get? x = some (withD c t none))
    (go : ∀ h' tk' dx, (∀ b o, b ≠ x → hp.get? b = some o → h'.get? b = some o) → hp.objs.size ≤ dx → dx ≠ x → h'.get? x = some (withD c t (some dx)) →
      h'.Ns1 dx (fun y => if y = f then some v else none) → Rs (.ok (.ret .none)) ⟨h', gs, dr, tk', os⟩) :
    codeAny (model P wo) Ar (.call (.builtin "object.__setattr__") ⟨[.ref x, .str f tn, v], []⟩) Rs ⟨hp, gs, dr, tk, os⟩ := by
  have at_ : InstAt hp x (withD c t none) c none := ⟨hx, rfl, rfl, trivial⟩
  have apart : x ≠ hp.objs.size := Nat.ne_of_lt (Heap.lt_size hx)
  obtain ⟨cd, hcd, hdd⟩ := any_some O.dct
  have look : Looks (model P wo) hp (classData c) cd := looks_clsIn X hcd
  refine osa_openX O.SF X at_ O.over N.t fun b => ?_
  show wpAny _ _ (storeInOwnDict (.ref x) (.ref c) (.str f tn) f v b) _ _ _
  obtain ⟨a1, a2, a3, a4, a5, a6, a7, a8, a9, a10, a11⟩ := cd
  have e6 : a6 = true := hdd
  subst e6
  unfold storeInOwnDict ownDictForStores
  repeat (first | with_reducible refine store_in_new ?_ ?_ | with_reducible refine look.at ?_ | with_reducible refine wpAny_loadPart_at hx ?_ | wp_step)
  · exact ⟨_, #[], _, (Heap.get?_update_ne _ _ _ _ apart.symm).trans (Heap.get?_push_at rfl rfl), rfl, fun e he => absurd he (by simp), fun _ => rfl⟩
  · intro h' tk' hn but
    have old : (hp.push { cls := .type "dict", data := .dict #[] }).get? x = some (withD c t none) := Heap.get?_push_of_some _ hx
    exact go h' tk' hp.objs.size (fun b o hb q => (but.2 b (Nat.ne_of_lt (Heap.lt_size q))).trans ((Heap.get?_update_ne _ _ _ _ hb).trans (Heap.get?_push_of_some _ q))) (Nat.le_refl _) apart.symm
      ((but.2 x apart).trans (Heap.get?_update_self _ old rfl)) hn
/-- a further store -/
theorem put_next {dx : Addr} {m0 : Str → Option Value} {ns : List Str} (O : Own K c fi base nid iid bt) (N : Free K c f) (X : K.In hp) (hx : hp.get? x = some (withD c t (some dx))) (hm : hp.Ns1 dx m0) (hw : Within m0 ns) (hz : ns.length ≤ 1000)
    (go : ∀ h' tk', (∀ b o, b ≠ dx → hp.get? b = some o → h'.get? b = some o) → h'.Ns1 dx (fun y => if y = f then some v else m0 y) → Rs (.ok (.ret .none)) ⟨h', gs, dr, tk', os⟩) :
    codeAny (model P wo) Ar (.call (.builtin "object.__setattr__") ⟨[.ref x, .str f tn, v], []⟩) Rs ⟨hp, gs, dr, tk, os⟩ := by
  obtain ⟨od, _, _, hod, _, _⟩ := hm.count hw
  have at_ : InstAt hp x (withD c t (some dx)) c (some od) := ⟨hx, rfl, rfl, hod⟩
  obtain ⟨cd, hcd, hdd⟩ := any_some O.dct
  have look : Looks (model P wo) hp (classData c) cd := looks_clsIn X hcd
  refine osa_openX O.SF X at_ O.over N.t fun b => ?_
  show wpAny _ _ (storeInOwnDict (.ref x) (.ref c) (.str f tn) f v b) _ _ _
  obtain ⟨a1, a2, a3, a4, a5, a6, a7, a8, a9, a10, a11⟩ := cd
  have e6 : a6 = true := hdd
  subst e6
  unfold storeInOwnDict ownDictForStores
  repeat (first | with_reducible refine PySem.OEX.store_in_old hm hw hz ?_ | with_reducible refine look.at ?_ | with_reducible refine wpAny_loadPart_at hx ?_ | wp_step)
  intro h' tk' hn but
  exact go h' tk' (fun b o hb q => (but.2 b hb).trans q) hn
end
end KX
end PySem


namespace PySem
namespace KX
open PySem.W PySem.Calls PyProof.Rows PySem.HandSPX
def arg1 (n : Str) (p : Pos) : Arg := { arg := n, annotation := none, pos := p }
def argsOf (l : List Arg) : Arguments := { posonlyargs := [], args := l, vararg := none, kwonlyargs := [], kw_defaults := [], kwarg := none, defaults := [] }
def setS (f : Str) (q1 q2 q3 q4 : Pos) : Stmt := .Assign [.Attribute (.Name "self" q1) f q2] (.Name f q3) q4
def scOf (l : List Str) : Scope := { kind := .function, names := l.map fun n => (n, .local), isGenerator := false, isCoroutine := false, more := [] }
/-- a local name is read -/
theorem readL {M : Model} {s : Shared} {name : Str} {sc : Scope} {L a : Addr} {cd : Value} {m : Str → Option Value} {x : Str} {pos : Pos} {v : Value} {Q : Value → Shared → Prop} {A : Around} {E : Value → Shared → Prop} (hn : s.heap.Ns L m) (hv : m x = some v)
    (hk : sc.kind = .function) (hl : sc.names.lookup x = some .local) (hd : (x == ("__debug__" : Str)) = false) (h : Q v s) : wpAny M A (eval (.Name x pos) (envOfC name sc L a cd)) Q E s := wpAny_Name (wpAny_loadName_local hk hl hn hv h) hd
/-- what __init__ leaves of the object at x: its dict at dx holds m -/
structure Filled (h h' : Heap) (x c dx t : Addr) (m : Str → Option Value) : Prop where
  old : ∀ b o, b ≠ x → h.get? b = some o → h'.get? b = some o
  obj : h'.get? x = some (withD c t (some dx))
  big : h.objs.size ≤ dx
  ne : dx ≠ x
  ns : h'.Ns1 dx m
section
variable {P : Program} {wo : World} {Ar : Around} {Rs : Result → Shared → Prop} {s : Shared} {K : Frag} {c fi : Addr} {base nid iid : String} {bt : List Value} {f g : Str} {v u : Value} {x t : Addr} {qual : Str} {fd : FuncData} {a1 a2 a3 q1 q2 q3 q4 r1 r2 r3 r4 : Pos} {args : Args}
theorem in_step {A : Around} {E : Value → Shared → Prop} {Q : Flow → Shared → Prop} {L a : Addr} {cd : Value} {sc : Scope} {m : Str → Option Value} {rest : List Stmt} (hn : s.heap.Ns L m) (hk : sc.kind = .function) (sS : sc.names.lookup ("self" : Str) = some NameKind.local) (sF : sc.names.lookup f = some .local)
    (dF : (f == ("__debug__" : Str)) = false) (mS : m "self" = some (.ref x)) (mF : m f = some v)
    (h : wpAny (model P wo) A (setAttr (.ref x) f v) (fun _ s' => wpAny (model P wo) A (execs rest (envOfC qual sc L a cd)) Q E s') E s) :
    wpAny (model P wo) A (execs (setS f q1 q2 q3 q4 :: rest) (envOfC qual sc L a cd)) Q E s := by
  refine wpAny_execs_cons (plainObj_wpAny_Assign_Attribute ?_)
  exact readL hn mF hk sF dF (readL hn mS hk sS (by decide) h)
theorem init_one (O : Own K c fi base nid iid bt) (N : Free K c f) (F : L2.FunD K "__init__" qual (argsOf [arg1 "self" a1, arg1 f a2]) [setS f q1 q2 q3 q4] (scOf ["self", f]) [] [] fi fd) (fs : (f == ("self" : Str)) = false) (fdb : (f == ("__debug__" : Str)) = false)
    (hb : BindsTo s fd args [("self", .ref x), (f, v)]) (X : K.In s.heap) (lim : s.heap.NoLimit) (hx : s.heap.get? x = some (withD c t none)) (room : Ar.depth < recursionLimit)
    (go : ∀ h' tk dx, Filled s.heap h' x c dx t (fun y => if y = f then some v else none) → Rs (.ok (.ret .none)) { s with heap := h', toks := tk }) :
    codeAny (model P wo) Ar (.call (.ref fi) args) Rs s := by
  obtain ⟨oc, od, dV, kV, doc, pm, an, cdv, ct, osl, rfl, lk, hcd, hD, hK⟩ := F.ex
  have l1 : (scOf ["self", f]).names.lookup ("self" : Str) = some .local := by simp [scOf, List.lookup]
  have l2 : (scOf ["self", f]).names.lookup f = some .local := by simp [scOf, List.lookup, fs]
  refine Att.call_fn (binds := [("self", .ref x), (f, v)]) X lim lk hcd room hb (by simp [l1, l2]) (fun s₁ IC => ?_) rfl rfl rfl
  obtain ⟨h₁, tk₁, rfl⟩ := IC.toInCall.same
  have up : ∀ b o, s.heap.get? b = some o → h₁.get? b = some o := IC.toInCall.keep
  have hn := IC.toInCall.ns
  have k1 : (envOfC qual (scOf ["self", f]) s.heap.objs.size fi cdv).kindOf ("self" : Str) = some .local := l1
  have k2 : (envOfC qual (scOf ["self", f]) s.heap.objs.size fi cdv).kindOf f = some .local := l2
  have nsf : ¬ (("self" : Str) = f) := fun z => by rw [← z] at fs; simp at fs
  refine in_step (x := x) (v := v) hn rfl l1 l2 fdb (by simp [bindL, k1, k2, nsf]) (by simp [bindL, k1, k2]) ?_
  refine set_plain (X.keeps up) (ox := withD c t none) (od := none) ⟨up _ _ hx, rfl, rfl, trivial⟩ O.sa ?_
  refine put_first O N (X.keeps up) (up _ _ hx) (fun h₃ tk₃ dx k₃ dn dne hx₃ hn₃ => ?_)
  have z : s.heap.objs.size < h₁.objs.size := hn.lt
  exact wpAny_execs_nil (go h₃ tk₃ dx ⟨fun b o hb e => k₃ b o hb (up b o e), hx₃, Nat.le_of_lt (Nat.lt_of_lt_of_le z dn), dne, hn₃⟩)
theorem init_two (O : Own K c fi base nid iid bt) (N : Free K c f) (N2 : Free K c g) (F : L2.FunD K "__init__" qual (argsOf [arg1 "self" a1, arg1 f a2, arg1 g a3]) [setS f q1 q2 q3 q4, setS g r1 r2 r3 r4] (scOf ["self", f, g]) [] [] fi fd)
    (fs : (f == ("self" : Str)) = false) (gs : (g == ("self" : Str)) = false) (gf : (g == f) = false) (fdb : (f == ("__debug__" : Str)) = false) (gdb : (g == ("__debug__" : Str)) = false)
    (hb : BindsTo s fd args [("self", .ref x), (f, v), (g, u)]) (X : K.In s.heap) (lim : s.heap.NoLimit) (hx : s.heap.get? x = some (withD c t none)) (hnx : K.lookup x = none) (room : Ar.depth < recursionLimit)
    (go : ∀ h' tk dx, Filled s.heap h' x c dx t (fun y => if y = g then some u else if y = f then some v else none) → Rs (.ok (.ret .none)) { s with heap := h', toks := tk }) :
    codeAny (model P wo) Ar (.call (.ref fi) args) Rs s := by
  obtain ⟨oc, od, dV, kV, doc, pm, an, cdv, ct, osl, rfl, lk, hcd, hD, hK⟩ := F.ex
  have l1 : (scOf ["self", f, g]).names.lookup ("self" : Str) = some .local := by simp [scOf, List.lookup]
  have l2 : (scOf ["self", f, g]).names.lookup f = some .local := by simp [scOf, List.lookup, fs]
  have l3 : (scOf ["self", f, g]).names.lookup g = some .local := by simp [scOf, List.lookup, gs, gf]
  refine Att.call_fn (binds := [("self", .ref x), (f, v), (g, u)]) X lim lk hcd room hb (by simp [l1, l2, l3]) (fun s₁ IC => ?_) rfl rfl rfl
  obtain ⟨h₁, tk₁, rfl⟩ := IC.toInCall.same
  have up : ∀ b o, s.heap.get? b = some o → h₁.get? b = some o := IC.toInCall.keep
  have hn := IC.toInCall.ns
  have k1 : (envOfC qual (scOf ["self", f, g]) s.heap.objs.size fi cdv).kindOf ("self" : Str) = some .local := l1
  have k2 : (envOfC qual (scOf ["self", f, g]) s.heap.objs.size fi cdv).kindOf f = some .local := l2
  have k3 : (envOfC qual (scOf ["self", f, g]) s.heap.objs.size fi cdv).kindOf g = some .local := l3
  have n1 : ¬ (("self" : Str) = f) := fun z => by rw [← z] at fs; simp at fs
  have n2 : ¬ (("self" : Str) = g) := fun z => by rw [← z] at gs; simp at gs
  have n3 : ¬ (f = g) := fun z => by rw [← z] at gf; simp at gf
  refine in_step (x := x) (v := v) hn rfl l1 l2 fdb (by simp [bindL, k1, k2, k3, n1, n2]) (by simp [bindL, k1, k2, k3, n3]) ?_
  refine set_plain (X.keeps up) (ox := withD c t none) (od := none) ⟨up _ _ hx, rfl, rfl, trivial⟩ O.sa ?_
  refine put_first O N (X.keeps up) (up _ _ hx) (fun h₃ tk₃ dx k₃ dn dne hx₃ hn₃ => ?_)
  have z : s.heap.objs.size < h₁.objs.size := hn.lt
  have lx : s.heap.objs.size ≠ x := Nat.ne_of_gt (Heap.lt_size hx)
  have hn3 : h₃.Ns s.heap.objs.size _ := hn.at fun o q => k₃ _ _ lx q
  obtain ⟨od3, _, _, hod3, _, _⟩ := hn₃.count (Within.cons f v Within.nil)
  have X3 : K.In h₃ := fun b o e => by
    by_cases hbx : b = x
    · rw [hbx, hnx] at e
      cases e
    · exact k₃ b o hbx (up _ _ (X b o e))
  refine in_step (x := x) (v := u) hn3 rfl l1 l3 gdb (by simp [bindL, k1, k2, k3, n1, n2]) (by simp [bindL, k1, k2, k3]) ?_
  refine set_plain X3 (ox := withD c t (some dx)) (od := some od3) ⟨hx₃, rfl, rfl, hod3⟩ O.sa ?_
  refine put_next O N2 X3 hx₃ hn₃ (Within.cons f v Within.nil) (by show 1 ≤ 1000; decide) (fun h₄ tk₄ k₄ hn₄ => ?_)
  exact wpAny_execs_nil (go h₄ tk₄ dx ⟨fun b o hb e => k₄ b o (Nat.ne_of_lt (Nat.lt_of_lt_of_le (Heap.lt_size (up b o e)) dn)) (k₃ b o hb (up b o e)), k₄ _ _ dne.symm hx₃, Nat.le_of_lt (Nat.lt_of_lt_of_le z dn), dne, hn₄⟩)
end
end KX
end PySem


namespace L2
open PySem PySem.Spec PyProof.Rows PySem.KX
/-- the end of C(..): the object at e and its dict at d stand -/
def Laid (H : Hp) (c : Addr) (fs : List (Str × V)) (Q : VK) : Prop := ∀ e d, H e = none → H d = none → d ≠ e → Q (.ref e) (upd (upd H d (exd d fs)) e (exo e c (some d)))
section
variable {X : Cx} {pins : List (Addr × Obj)} {σ : St} {H : Hp} {s : Shared} {c fi : Addr} {base nid iid : String} {bt : List Value} {f g : Str} {y z : V} {v u : Value} {qual : Str} {fd : FuncData} {a1 a2 a3 q1 q2 q3 q4 r1 r2 r3 r4 : Pos} {us : List Value} {ks : List (Str × Value)} {Q : VK} {k : Nat}
theorem laid_end {hp h' : Heap} {g0 : Array GenState} {dr : Drawn} {t0 t' : Nat} {os : OsState} {d0 t1 : Addr} {m : Str → Option Value} {fs : List (Str × V)} (I : Inv X pins σ H ⟨hp, g0, dr, t0, os⟩) (h : Laid H c fs Q) {w1 w2 : Obj}
    (M : Filled ((hp.push w1).push w2) h' (hp.objs.size + 1) c d0 t1 m) (rel : ∀ f, RelO (fs.lookup f) (m f)) :
    EP X pins σ Q (.ref (hp.objs.size + 1)) ⟨h', g0, dr, t', os⟩ := by
  have old : ∀ b o, hp.get? b = some o → h'.get? b = some o := fun b o e => M.old b o (Nat.ne_of_lt (Nat.lt_succ_of_lt (Heap.lt_size e))) (Heap.get?_push_of_some _ (Heap.get?_push_of_some _ e))
  have big : hp.objs.size ≤ d0 := by
    have z := M.big
    rw [Heap.size_push, Heap.size_push] at z
    omega
  have hn : H (hp.objs.size + 1) = none := I.hok.fresh (Nat.le_succ _)
  have hd : H d0 = none := I.hok.fresh big
  obtain ⟨G, g1, g2⟩ := restrict h' fun b => decide (b ≠ hp.objs.size + 1)
  have gk : ∀ b, b ≠ hp.objs.size + 1 → G.get? b = h'.get? b := fun b hb => g1 b (decide_eq_true hb)
  have ge : G.get? (hp.objs.size + 1) = none := g2 _ (by simp)
  have oldG : ∀ b o, hp.get? b = some o → G.get? b = some o := fun b o q => (gk b (Nat.ne_of_lt (Nat.lt_succ_of_lt (Heap.lt_size q)))).trans (old b o q)
  have J : Inv X pins σ (upd H d0 (exd d0 fs)) ⟨G, g0, dr, t', os⟩ := I.laid (t' := t') oldG big (exd_ok (M.ns.at fun o q => (gk d0 M.ne).trans q) rel)
  have he : (upd H d0 (exd d0 fs)) (hp.objs.size + 1) = none := by rw [upd_ne M.ne.symm]; exact hn
  refine ⟨.ref (hp.objs.size + 1), _, J.laidN (t' := t') (h' := h') (fun b o q => ?_) ge he (exo_ok M.obj), rfl, h _ _ hn hd M.ne⟩
  by_cases hb : b = hp.objs.size + 1
  · have q' : G.get? b = some o := q
    rw [hb, ge] at q'
    cases q'
  · exact (gk b hb).symm.trans q
theorem not_written {K : PySem.W.Frag} {hp : Heap} (KX : K.In hp) : K.lookup (hp.objs.size + 1) = none := by
  cases e : K.lookup (hp.objs.size + 1) with
  | none => rfl
  | some o =>
    have z : hp.get? (hp.objs.size + 1) = some o := KX _ _ e
    exact absurd (Nat.lt_of_succ_lt (Heap.lt_size z)) (Nat.lt_irrefl _)
theorem run_mk1 (O : Own X.K c fi base nid iid bt) (N : Free X.K c f) (F : FunD X.K "__init__" qual (argsOf [arg1 "self" a1, arg1 f a2]) [setS f q1 q2 q3 q4] (scOf ["self", f]) [] [] fi fd) (fs : (f == ("self" : Str)) = false) (fdb : (f == ("__debug__" : Str)) = false)
    (hr : Room 1 X.A) (I : Inv X pins σ H s) (rv : RelV y v) (few : us.length ≤ sizeLine) (hb : ∀ s self, BindsTo s fd ⟨.ref self :: us, ks⟩ [("self", .ref self), (f, v)])
    (h : Laid H c [(f, y)] Q) : wpAny (model X.prog X.w) X.A (call (.ref c) us ks) (EP X pins σ Q) X.xe s := by
  obtain ⟨nm, nsA, qn, bs, bm, hdct, sn, sub, ab, col, dd, k0, k1, k2, k3, k5, hC, same⟩ := PySem.W.excInit_of I.kIn O.ini
  obtain ⟨hp, g0, dr, tk, os⟩ := s
  have up : ∀ b o, hp.get? b = some o → ((hp.push (PySem.W.kdv_tup us)).push (PySem.HandSPX.excO c hp.objs.size)).get? b = some o := fun b o e => Heap.get?_push_of_some _ (Heap.get?_push_of_some _ e)
  have obj : ((hp.push (PySem.W.kdv_tup us)).push (PySem.HandSPX.excO c hp.objs.size)).get? (hp.objs.size + 1) = some (withD c hp.objs.size none) := by heap_get
  refine wpAny_call (class_called O.FB same hC few (PySem.W.looks_findIn I.kIn O.fI) (fun self => PySem.W.bind_fn I.kIn self O.fT) ?_)
  refine init_one (s := ⟨(hp.push (PySem.W.kdv_tup us)).push (PySem.HandSPX.excO c hp.objs.size), g0, dr, tk, os⟩) O N F fs fdb (hb _ _) (I.kIn.keeps up) (I.nolimit.keeps up) obj (by show X.A.depth + 1 < recursionLimit; have := hr.dp; omega) fun h' tk' d0 M => ?_
  refine ⟨rfl, laid_end I h M fun q => ?_⟩
  exact relO_put (fs := []) (mA := fun _ => none) rv (fun _ => True.intro) q
theorem run_mk2 (O : Own X.K c fi base nid iid bt) (N : Free X.K c f) (N2 : Free X.K c g) (F : FunD X.K "__init__" qual (argsOf [arg1 "self" a1, arg1 f a2, arg1 g a3]) [setS f q1 q2 q3 q4, setS g r1 r2 r3 r4] (scOf ["self", f, g]) [] [] fi fd)
    (fs : (f == ("self" : Str)) = false) (gs : (g == ("self" : Str)) = false) (gf : (g == f) = false) (fdb : (f == ("__debug__" : Str)) = false) (gdb : (g == ("__debug__" : Str)) = false)
    (hr : Room 1 X.A) (I : Inv X pins σ H s) (rv : RelV y v) (ru : RelV z u) (few : us.length ≤ sizeLine) (hb : ∀ s self, BindsTo s fd ⟨.ref self :: us, ks⟩ [("self", .ref self), (f, v), (g, u)])
    (h : Laid H c [(g, z), (f, y)] Q) : wpAny (model X.prog X.w) X.A (call (.ref c) us ks) (EP X pins σ Q) X.xe s := by
  obtain ⟨nm, nsA, qn, bs, bm, hdct, sn, sub, ab, col, dd, k0, k1, k2, k3, k5, hC, same⟩ := PySem.W.excInit_of I.kIn O.ini
  obtain ⟨hp, g0, dr, tk, os⟩ := s
  have up : ∀ b o, hp.get? b = some o → ((hp.push (PySem.W.kdv_tup us)).push (PySem.HandSPX.excO c hp.objs.size)).get? b = some o := fun b o e => Heap.get?_push_of_some _ (Heap.get?_push_of_some _ e)
  have obj : ((hp.push (PySem.W.kdv_tup us)).push (PySem.HandSPX.excO c hp.objs.size)).get? (hp.objs.size + 1) = some (withD c hp.objs.size none) := by heap_get
  refine wpAny_call (class_called O.FB same hC few (PySem.W.looks_findIn I.kIn O.fI) (fun self => PySem.W.bind_fn I.kIn self O.fT) ?_)
  refine init_two (s := ⟨(hp.push (PySem.W.kdv_tup us)).push (PySem.HandSPX.excO c hp.objs.size), g0, dr, tk, os⟩) O N N2 F fs gs gf fdb gdb (hb _ _) (I.kIn.keeps up) (I.nolimit.keeps up) obj (not_written I.kIn) (by show X.A.depth + 1 < recursionLimit; have := hr.dp; omega) fun h' tk' d0 M => ?_
  refine ⟨rfl, laid_end I h M fun q => ?_⟩
  exact relO_put (fs := [(f, y)]) ru (relO_put (fs := []) (mA := fun _ => none) rv (fun _ => True.intro)) q
end
end L2


namespace L2
open PySem PySem.Spec PyProof.Rows PySem.KX
/-- the class nm, at c, has an __init__ of one field f -/
structure Cl1 (K : PySem.W.Frag) (c : Addr) (f : Str) : Prop where
  ex : ∃ (fi : Addr) (base nid iid : String) (bt : List Value) (qual : Str) (fd : FuncData) (a1 a2 q1 q2 q3 q4 : Pos), Own K c fi base nid iid bt ∧
    FunD K "__init__" qual (argsOf [arg1 "self" a1, arg1 f a2]) [setS f q1 q2 q3 q4] (scOf ["self", f]) [] [] fi fd ∧
    (∀ s self v, BindsTo s fd ⟨[.ref self, v], []⟩ [("self", .ref self), (f, v)]) ∧ ∀ s self v, BindsTo s fd ⟨[.ref self], [(f, v)]⟩ [("self", .ref self), (f, v)]
  fr : Free K c f
  fs : (f == ("self" : Str)) = false
  fdb : (f == ("__debug__" : Str)) = false
  kp : PySem.W.keepIn K (.ref c) = true
/-- .. of two fields f, g; by name in the other order -/
structure Cl2 (K : PySem.W.Frag) (c : Addr) (f g : Str) : Prop where
  ex : ∃ (fi : Addr) (base nid iid : String) (bt : List Value) (qual : Str) (fd : FuncData) (a1 a2 a3 q1 q2 q3 q4 r1 r2 r3 r4 : Pos), Own K c fi base nid iid bt ∧
    FunD K "__init__" qual (argsOf [arg1 "self" a1, arg1 f a2, arg1 g a3]) [setS f q1 q2 q3 q4, setS g r1 r2 r3 r4] (scOf ["self", f, g]) [] [] fi fd ∧
    (∀ s self v u, BindsTo s fd ⟨[.ref self, v, u], []⟩ [("self", .ref self), (f, v), (g, u)]) ∧ ∀ s self v u, BindsTo s fd ⟨[.ref self], [(g, u), (f, v)]⟩ [("self", .ref self), (f, v), (g, u)]
  fr : Free K c f
  gr : Free K c g
  fs : (f == ("self" : Str)) = false
  gs : (g == ("self" : Str)) = false
  gf : (g == f) = false
  fdb : (f == ("__debug__" : Str)) = false
  gdb : (g == ("__debug__" : Str)) = false
  kp : PySem.W.keepIn K (.ref c) = true
/-- what reading an exception of the class at c wants -/
structure ClG (K : PySem.W.Frag) (c : Addr) : Prop where
  ga : PySem.W.findIn K (.ref c) "__getattribute__" = some (some (.builtin "BaseException.__getattribute__"))
  gg : PySem.W.findIn K (.ref c) "__getattr__" = some none
  exc : PySem.W.subIn K (.ref c) (.type "BaseException") = some true
  dct : PySem.W.hasDictIn K c = true
  cA : PySem.W.findIn K (.ref c) "__class__" = some (some (.builtin "object.__class__"))
  cN : PySem.W.specialIn K (.builtin "object.__class__") "__get__" = some (some (.builtin "getset_descriptor.__get__"))
  cT : PySem.W.takesIn K (.builtin "object.__class__") = some true
  cM : PySem.W.mroIn K c (.type "object") = some true
def tX1 (c : Addr) (f : Str) (ta : TA) : TE := fun σ H Q => ta σ H fun vs H1 => ∃ y, vs = [y] ∧ Laid H1 c [(f, y)] Q
def tX2 (c : Addr) (f g : Str) (ta : TA) : TE := fun σ H Q => ta σ H fun vs H1 => ∃ y z, vs = [y, z] ∧ Laid H1 c [(g, z), (f, y)] Q
def tX2k (c : Addr) (f g : Str) (ta : TA) : TE := fun σ H Q => ta σ H fun vs H1 => ∃ y z, vs = [z, y] ∧ Laid H1 c [(g, z), (f, y)] Q
/-- e.f of an exception object -/
def tXG (K : PySem.W.Frag) (f : Str) (te : TE) : TE := fun σ H Q => te σ H fun x H1 => ∃ (a c d : Addr) (fs : List (Str × V)) (v : V), x = .ref a ∧ ClG K c ∧ PySem.W.findIn K (.ref c) f = some none ∧ H1 a = some (exo a c (some d)) ∧ H1 d = some (exd d fs) ∧ fs.lookup f = some v ∧ Q v H1
def rIsX (K : PySem.W.Frag) : List V → Hp → VK → Prop := fun xs H Q => ∃ (a c d : Addr) (fs : List (Str × V)) (k : V) (u : Value) (b : Bool), xs = [.ref a, k] ∧ ClsV k u ∧ ClG K c ∧ H a = some (exo a c (some d)) ∧ H d = some (exd d fs) ∧ PySem.W.kitOne K (.ref c) u = some b ∧ Q (.bl b) H
section
variable {X : Cx} {c : Addr} {f g : Str} {x : Str} {p pos : Pos} {e : Expr} {es : List Expr} {kws : List Keyword} {ta : TA} {te : TE}
theorem one_few (v : Value) : [v].length ≤ sizeLine := by
  rw [sizeLine_eq]
  exact (by decide : 1 ≤ 16777216)
theorem two_few (v u : Value) : [v, u].length ≤ sizeLine := by
  rw [sizeLine_eq]
  exact (by decide : 2 ≤ 16777216)
theorem nil_few : ([] : List Value).length ≤ sizeLine := Nat.zero_le _
theorem pe_x1 (T : Cl1 X.K c f) (hr : Room 1 X.A) (hm : X.mg x = some (.ref c)) (hg : Gl X x) (ha : PA X [e] ta) (hdb : (x == ("__debug__" : Str)) = false := by decide)
    (he : starEach (e :: []) X.env = (false, eval e X.env) :: starEach [] X.env := by rfl) (hpl : (backTo pos (starEach [] X.env)).any (·.1) = false := by rfl) : PE X (.Call (.Name x p) [e] [] pos) (tX1 c f ta) := by
  refine ⟨fun pins s σ H Q I h => ?_⟩
  obtain ⟨fi, base, nid, iid, bt, qual, fd, a1, a2, q1, q2, q3, q4, O, F, b1, b2⟩ := T.ex
  refine wpAny_Call_Name_kw (ld_glob I hg hm ?_ hdb)
  refine PySem.W.callWith_K (h₀ := X.base) I.ok.mod.kin T.kp (thn (ha.run pos pins s σ H _ I h) fun us s1 hh => ?_) he hpl
  obtain ⟨vs, H1, I1, r1, y, rfl, q⟩ := hh
  obtain ⟨u, rfl, ru⟩ := vals1 r1
  exact ⟨I1.kIn, run_mk1 (us := [u]) (ks := []) O T.fr F T.fs T.fdb hr I1 ru (one_few u) (fun s self => b1 s self u) q⟩
theorem pe_x1k (T : Cl1 X.K c f) (hr : Room 1 X.A) (hm : X.mg x = some (.ref c)) (hg : Gl X x) (hkw : PK X kws ta) (hall : (backToKw pos (keywordEach kws X.env)).all (·.1.isSome) = true := by rfl) (hks : (backToKw pos (keywordEach kws X.env)).filterMap (·.1) = [f] := by rfl)
    (hdb : (x == ("__debug__" : Str)) = false := by decide) (hpl : ((backTo pos (starEach [] X.env)).any (·.1) || (backToKw pos (keywordEach kws X.env)).any (·.1.isNone)) = false := by rfl) : PE X (.Call (.Name x p) [] kws pos) (tX1 c f ta) := by
  refine ⟨fun pins s σ H Q I h => ?_⟩
  obtain ⟨fi, base, nid, iid, bt, qual, fd, a1, a2, q1, q2, q3, q4, O, F, b1, b2⟩ := T.ex
  refine wpAny_Call_Name_kw (ld_glob I hg hm ?_ hdb)
  refine PySem.W.callWith_KW0 (h₀ := X.base) I.ok.mod.kin T.kp hall ?_ hpl
  refine thn (hkw.run pos pins s σ H _ I h) fun ws s2 hh => ?_
  obtain ⟨zs, H2, I2, rz, y, rfl, q⟩ := hh
  obtain ⟨u, rfl, ru⟩ := vals1 rz
  refine ⟨I2.kIn, ?_⟩
  rw [hks]
  exact run_mk1 (us := []) (ks := [(f, u)]) O T.fr F T.fs T.fdb hr I2 ru nil_few (fun s self => b2 s self u) q
theorem pe_x2 (T : Cl2 X.K c f g) (hr : Room 1 X.A) (hm : X.mg x = some (.ref c)) (hg : Gl X x) (ha : PA X (e :: es) ta) (hdb : (x == ("__debug__" : Str)) = false := by decide)
    (he : starEach (e :: es) X.env = (false, eval e X.env) :: starEach es X.env := by rfl) (hpl : (backTo pos (starEach es X.env)).any (·.1) = false := by rfl) : PE X (.Call (.Name x p) (e :: es) [] pos) (tX2 c f g ta) := by
  refine ⟨fun pins s σ H Q I h => ?_⟩
  obtain ⟨fi, base, nid, iid, bt, qual, fd, a1, a2, a3, q1, q2, q3, q4, r1, r2, r3, r4, O, F, b1, b2⟩ := T.ex
  refine wpAny_Call_Name_kw (ld_glob I hg hm ?_ hdb)
  refine PySem.W.callWith_K (h₀ := X.base) I.ok.mod.kin T.kp (thn (ha.run pos pins s σ H _ I h) fun us s1 hh => ?_) he hpl
  obtain ⟨vs, H1, I1, r1, y, z, rfl, q⟩ := hh
  obtain ⟨u, u2, rfl, ru, ru2⟩ := vals2 r1
  exact ⟨I1.kIn, run_mk2 (us := [u, u2]) (ks := []) O T.fr T.gr F T.fs T.gs T.gf T.fdb T.gdb hr I1 ru ru2 (two_few u u2) (fun s self => b1 s self u u2) q⟩
theorem pe_x2k (T : Cl2 X.K c f g) (hr : Room 1 X.A) (hm : X.mg x = some (.ref c)) (hg : Gl X x) (hkw : PK X kws ta) (hall : (backToKw pos (keywordEach kws X.env)).all (·.1.isSome) = true := by rfl) (hks : (backToKw pos (keywordEach kws X.env)).filterMap (·.1) = [g, f] := by rfl)
    (hdb : (x == ("__debug__" : Str)) = false := by decide) (hpl : ((backTo pos (starEach [] X.env)).any (·.1) || (backToKw pos (keywordEach kws X.env)).any (·.1.isNone)) = false := by rfl) : PE X (.Call (.Name x p) [] kws pos) (tX2k c f g ta) := by
  refine ⟨fun pins s σ H Q I h => ?_⟩
  obtain ⟨fi, base, nid, iid, bt, qual, fd, a1, a2, a3, q1, q2, q3, q4, r1, r2, r3, r4, O, F, b1, b2⟩ := T.ex
  refine wpAny_Call_Name_kw (ld_glob I hg hm ?_ hdb)
  refine PySem.W.callWith_KW0 (h₀ := X.base) I.ok.mod.kin T.kp hall ?_ hpl
  refine thn (hkw.run pos pins s σ H _ I h) fun ws s2 hh => ?_
  obtain ⟨zs, H2, I2, rz, y, z, rfl, q⟩ := hh
  obtain ⟨u2, u, rfl, ru2, ru⟩ := vals2 rz
  refine ⟨I2.kIn, ?_⟩
  rw [hks]
  exact run_mk2 (us := []) (ks := [(g, u2), (f, u)]) O T.fr T.gr F T.fs T.gs T.gf T.fdb T.gdb hr I2 ru ru2 nil_few (fun s self => b2 s self u u2) q
theorem inst_at {pins : List (Addr × Obj)} {σ : St} {H : Hp} {s : Shared} {a d : Addr} {fs : List (Str × V)} (I : Inv X pins σ H s) (ea : H a = some (exo a c (some d))) (ed : H d = some (exd d fs)) :
    ∃ ox od, PySem.W.InstAt s.heap a ox c (some od) ∧ ∀ f v, fs.lookup f = some v → ∃ u, PySem.W.lookIn f od = some (some u) ∧ RelV v u := by
  obtain ⟨t1, ho⟩ := exo_at I.hok ea
  obtain ⟨mA, hns, rel⟩ := exd_at I.hok ed
  obtain ⟨od, hod, hl⟩ := lookIn_ns hns
  refine ⟨_, od, ⟨ho, rfl, rfl, hod⟩, fun f v l => ?_⟩
  obtain ⟨u, hu, ru⟩ := RelO.some_of (v := v) (o := mA f) (by rw [← l]; exact rel f)
  exact ⟨u, by rw [hl, hu], ru⟩
theorem pe_xg (he : PE X e te) (hb : attributeBase e f X.env (eval e X.env) = eval e X.env := by rfl) : PE X (.Attribute e f pos) (tXG X.K f te) := by
  refine ⟨fun pins s σ H Q I h => ?_⟩
  refine attr_of hb (thn (he.run pins s σ H _ I h) fun u s1 hh => ?_)
  obtain ⟨x, H1, I1, rx, a, c, d, fs, v, rfl, T, hno, ea, ed, l, q⟩ := hh
  obtain rfl : u = Value.ref a := rx
  obtain ⟨ox, od, J, look⟩ := inst_at I1 ea ed
  obtain ⟨w, lw, rw'⟩ := look f v l
  exact HandSPX.exc_get I1.kIn J T.ga T.gg T.exc (PySem.W.findObj_own T.dct hno rfl lw) (handed_of rw') ⟨v, H1, I1.tok _, rw', q⟩
theorem call_isX : CallR X (.builtin "isinstance") (rIsX X.K) := by
  intro pins s σ H xs us Q I r h
  obtain ⟨a, c, d, fs, k, u, b, rfl, ku, T, ea, ed, e, q⟩ := h
  obtain ⟨u1, u2, rfl, r1, r2⟩ := vals2 r
  have e2 := ku.eq r2
  subst e2
  obtain rfl : u1 = Value.ref a := r1
  obtain ⟨ox, od, J, look⟩ := inst_at I ea ed
  exact PySem.W.kia_one (PySem.W.kitx_exc (by obtain ⟨cd, hc, _⟩ := PySem.W.any_some T.dct; rw [hc]; rfl) T.ga T.gg T.exc T.cA T.cN T.cT T.cM) I.kIn J e (fun z => nomatch z) fun tk => ⟨.bl b, H, I.tok tk, rfl, q⟩
end
end L2


namespace L2
open PySem PySem.Spec PyProof.Rows PySem.KX
/-! repr of data: lists, tuples, dicts of flat values -/
def keyD : Key → PyData
  | .inl i => .int i
  | .inr x => .str x
def leafD : V → PyData
  | .int i => .int i
  | .str x => .str x
  | _ => .none
def leafV (v : V) : Prop := (∃ i, v = .int i) ∨ ∃ x, v = .str x
mutual
inductive Dq (H : Hp) : V → PyData → Prop
  | non : Dq H .non .none
  | bl (b : Bool) : Dq H (.bl b) (.bool b)
  | int (i : Int) : Dq H (.int i) (.int i)
  | str (x : Str) : Dq H (.str x) (.str x)
  | lst {a : Addr} {xs : List V} {ds : List PyData} : H a = some (.lst xs) → sysModules ≠ a → DqAll H xs ds → Dq H (.ref a) (.list ds)
  | tup {a : Addr} {xs : List V} {ds : List PyData} : H a = some (.tup xs) → DqAll H xs ds → Dq H (.ref a) (.tuple ds)
  | dct {a : Addr} {kvs : List (Key × V)} : H a = some (.dK kvs) → (∀ p ∈ kvs, leafV p.2) → Dq H (.ref a) (.dict (kvs.map fun p => (keyD p.1, leafD p.2)))
inductive DqAll (H : Hp) : List V → List PyData → Prop
  | nil : DqAll H [] []
  | cons {v : V} {vs : List V} {d : PyData} {ds : List PyData} : Dq H v d → DqAll H vs ds → DqAll H (v :: vs) (d :: ds)
end
mutual
theorem Dq.mono {H H' : Hp} (s : Same H H') : ∀ {v : V} {d : PyData}, Dq H v d → Dq H' v d
  | _, _, .non => .non
  | _, _, .bl b => .bl b
  | _, _, .int i => .int i
  | _, _, .str x => .str x
  | _, _, .lst h n a => .lst (s _ _ h) n (DqAll.mono s a)
  | _, _, .tup h a => .tup (s _ _ h) (DqAll.mono s a)
  | _, _, .dct h a => .dct (s _ _ h) a
theorem DqAll.mono {H H' : Hp} (s : Same H H') : ∀ {v : List V} {d : List PyData}, DqAll H v d → DqAll H' v d
  | _, _, .nil => .nil
  | _, _, .cons a b => .cons (Dq.mono s a) (DqAll.mono s b)
end
section
variable {X : Cx} {pins : List (Addr × Obj)} {σ : St} {H : Hp} {s : Shared}
theorem reads_keys (h : Heap) {P : Program} {w : World} : ∀ {es : List DictEntry} {vs : List (Key × Value)}, Pairs (mixKind P w) es vs → ReadsAll h (es.map (·.key)) (vs.map fun p => keyD p.1) [] ∧ es.map (·.val) = vs.map (·.2) := by
  intro es vs hp
  induction hp with
  | nil => exact ⟨.nil, rfl⟩
  | @cons e kv es kvs hk hv _ ih =>
    obtain ⟨i1, i2⟩ := ih
    have kd : ∀ k : Key, ∀ u : Value, keyIs k u = true → Reads h u (keyD k) [] := fun k u q => by
      rcases keyIs_shape q with ⟨i, t, rfl, rfl⟩ | ⟨x, t, rfl, rfl⟩
      · exact .int i t
      · exact .str x t
    exact ⟨ReadsAll.cons (as := []) (bs := []) (kd _ _ hk) i1, by rw [List.map_cons, List.map_cons, i2, hv]⟩
theorem reads_leaf {h : Heap} {v : V} {u : Value} (l : leafV v) (r : RelV v u) : Reads h u (leafD v) [] := by
  rcases l with ⟨i, rfl⟩ | ⟨x, rfl⟩
  · obtain ⟨t, rfl⟩ := r
    exact .int i t
  · obtain ⟨t, rfl⟩ := r
    exact .str x t
theorem reads_vals {h : Heap} : ∀ {kvs : List (Key × V)} {vs : List (Key × Value)}, KV kvs vs → (∀ p ∈ kvs, leafV p.2) → ReadsAll h (vs.map (·.2)) (kvs.map fun p => leafD p.2) [] ∧ (vs.map fun p => keyD p.1) = kvs.map fun p => keyD p.1 := by
  intro kvs vs r
  unfold KV at r
  induction r with
  | nil => intro _; exact ⟨.nil, rfl⟩
  | @cons p q ps qs hpq t ih =>
    intro l
    obtain ⟨i1, i2⟩ := ih fun z hz => l z (List.mem_cons_of_mem _ hz)
    refine ⟨ReadsAll.cons (as := []) (bs := []) (reads_leaf (l p List.mem_cons_self) hpq.2) i1, ?_⟩
    rw [List.map_cons, List.map_cons, i2, hpq.1]
mutual
theorem Dq.reads (I : Inv X pins σ H s) : ∀ {v : V} {d : PyData} {u : Value}, Dq H v d → RelV v u → ∃ as, Reads s.heap u d as ∧ sysModules ∉ as
  | _, _, _, .non, r => by cases r; exact ⟨_, .none, nofun⟩
  | _, _, _, .bl b, r => by cases r; exact ⟨_, .bool b, nofun⟩
  | _, _, _, .int i, r => by obtain ⟨t, rfl⟩ := r; exact ⟨_, .int i t, nofun⟩
  | _, _, _, .str x, r => by obtain ⟨t, rfl⟩ := r; exact ⟨_, .str x t, nofun⟩
  | _, _, _, .lst h n a, r => by
    cases r
    obtain ⟨its, rv, ⟨o, m, ho, hc, _, hd⟩, _⟩ := I.list (SqL.of h)
    obtain ⟨as, hr, hn⟩ := DqAll.reads I a rv
    exact ⟨_, Reads.list ho hc hd hr, fun z => by rcases List.mem_cons.mp z with e | e; exact n e; exact hn e⟩
  | _, _, _, .tup h a, r => by
    cases r
    obtain ⟨its, rv, ⟨o, ho, hc, m, hd⟩, _⟩ := I.tuple (SqT.of h)
    obtain ⟨as, hr, hn⟩ := DqAll.reads I a rv
    exact ⟨_, Reads.tuple ho hc hd hr, hn⟩
  | _, _, _, .dct (a := a) (kvs := kvs) h l, r => by
    cases r
    obtain ⟨_, hs, vs, rv, o, es, ep, h1, h2, h3, _, h5, _⟩ := (show ObjOk X.prog X.w H s.heap a (.dK kvs) from I.hok a _ h)
    obtain ⟨k1, k2⟩ := reads_keys s.heap h5
    obtain ⟨v1, v2⟩ := reads_vals (h := s.heap) rv l
    refine ⟨_, Reads.dict (as := []) (bs := []) h1 h2.1 h3 ?_ ?_, ?_⟩
    · rw [List.map_map]
      rw [v2] at k1
      exact k1
    · rw [k2, List.map_map]
      exact v1
    · intro z
      simp at z
      rw [← z] at hs
      simp at hs
theorem DqAll.reads (I : Inv X pins σ H s) : ∀ {v : List V} {d : List PyData} {u : List Value}, DqAll H v d → Vals v u → ∃ as, ReadsAll s.heap u d as ∧ sysModules ∉ as
  | _, _, _, .nil, r => by cases r; exact ⟨_, .nil, nofun⟩
  | _, _, _, .cons a b, r => by
    cases r with
    | cons r1 r2 =>
      obtain ⟨as, q1, n1⟩ := Dq.reads I a r1
      obtain ⟨bs, q2, n2⟩ := DqAll.reads I b r2
      exact ⟨_, .cons q1 q2, fun z => by rcases List.mem_append.mp z with e | e; exact n1 e; exact n2 e⟩
end
end
section
variable {X : Cx}
/-- a list display, new, not sys.modules -/
def tLstN (t : TA) : TE := fun σ H Q => t σ H fun xs H1 => xs.length ≤ sizeLine ∧ ∀ l, H1 l = none → sysModules ≠ l → Q (.ref l) (upd H1 l (.lst xs))
theorem pe_lstN {es : List Expr} {t : TA} {pos : Pos} (h : PA X es t) : PE X (.List es pos) (tLstN t) := by
  refine ⟨fun pins s σ H Q I hq => ?_⟩
  refine wpAny_List_spliced (thn (h.run pos pins s σ H _ I hq) fun us s1 hh => ?_)
  obtain ⟨xs, H1, I1, r, z, q⟩ := hh
  refine ⟨by rw [← r.length]; exact z, .ref s1.heap.objs.size, upd H1 s1.heap.objs.size (.lst xs), I1.laid (t' := s1.toks) (fun b u e => Heap.get?_push_of_some _ e) (Nat.le_refl _) ⟨z, us, 0, r, Heap.get?_push_size _ rfl⟩, rfl, ?_⟩
  exact q _ (I1.hok.fresh (Nat.le_refl _)) (Nat.ne_of_lt I1.big)
/-- repr(x), x a list or a tuple or a dict -/
def rShow (xs : List V) (H : Hp) (Q : VK) : Prop := ∃ (a : Addr) (d : PyData), xs = [.ref a] ∧ Dq H (.ref a) d ∧ d.showable = true ∧ d.depth ≤ 20 ∧ d.shown.length ≤ sizeLine ∧ Q (.str d.shown) H
theorem call_repD (hr : Room 1 X.A) (hg : X.A.guards = some []) : CallR X (.builtin "repr") rShow := by
  intro pins s σ H xs us Q I r h
  obtain ⟨a, d, rfl, hd, hs, hdp, hz, q⟩ := h
  obtain ⟨u, rfl, ru⟩ := vals1 r
  obtain ⟨as, hr1, hn⟩ := Dq.reads I hd ru
  cases ru
  refine repr_of_reads' hr1 hs (fun _ => hn) hg ?_ (fun _ _ e => e) (fun h' u tk k => ?_) hz
  · have := hr.un
    omega
  · exact ⟨.str d.shown, H, I.kept (t' := tk) k, ⟨_, rfl⟩, q⟩
end
end L2


namespace L2
open PySem PySem.Spec PyProof.Rows PySem.KX
/-! raise C(x), C an own class whose __init__ keeps what it is given -/
section
variable {X : Cx} {pins : List (Addr × Obj)} {σ : St} {H : Hp} {c : Addr} {f : Str}
theorem flown {hp h' : Heap} {g0 : Array GenState} {dr : Drawn} {t0 t' : Nat} {os : OsState} {d0 t1 : Addr} {m : Str → Option Value} {fs : List (Str × V)} {Q : XK} (I : Inv X pins σ H ⟨hp, g0, dr, t0, os⟩) {w1 w2 : Obj} (T : Raises X (.ref c))
    (M : Filled ((hp.push w1).push w2) h' (hp.objs.size + 1) c d0 t1 m) (rel : ∀ f, RelO (fs.lookup f) (m f)) (h : ∀ d, H d = none → Q (.ref c) (some d) (upd H d (.xd fs))) :
    MkP X pins σ Q (.ref (hp.objs.size + 1)) ⟨h', g0, dr, t', os⟩ := by
  have was : ∀ b o, hp.get? b = some o → h'.get? b = some o := fun b o e => M.old b o (Nat.ne_of_lt (Nat.lt_succ_of_lt (Heap.lt_size e))) (Heap.get?_push_of_some _ (Heap.get?_push_of_some _ e))
  have big : hp.objs.size ≤ d0 := by
    have z := M.big
    simp only [Heap.size_push] at z
    omega
  have nE : H (hp.objs.size + 1) = none := I.hok.fresh (Nat.le_succ _)
  obtain ⟨G, g1, g2⟩ := restrict h' fun b => decide (b ≠ hp.objs.size + 1)
  have gE : G.get? (hp.objs.size + 1) = none := g2 _ (by simp)
  have gN : ∀ b, b ≠ hp.objs.size + 1 → G.get? b = h'.get? b := fun b hb => g1 b (decide_eq_true hb)
  have J : Inv X pins σ (upd H d0 (.xd fs)) ⟨G, g0, dr, t', os⟩ := I.laid (t' := t') (fun b o q => (gN b (Nat.ne_of_lt (Nat.lt_succ_of_lt (Heap.lt_size q)))).trans (was b o q)) big ⟨m, M.ns.at fun o q => (gN d0 M.ne).trans q, rel⟩
  refine ⟨_, _, _, ⟨G, g0, dr, t', os⟩, _, .ref c, some d0, rfl, J, fun b o q => ?_, gE, M.obj, ⟨rfl, rfl⟩, rfl, rfl, ?_, rfl, J.bare, T, h d0 (I.hok.fresh big)⟩
  · by_cases hb : b = hp.objs.size + 1
    · have q' : G.get? b = some o := q
      rw [hb, gE] at q'
      cases q'
    · exact (gN b hb).symm.trans q
  · rw [upd_ne M.ne.symm]
    exact nE
/-- what raise C(..) asks of C -/
structure ClR (K : PySem.W.Frag) (c : Addr) : Prop where
  sub : PySem.W.subIn K (.ref c) (.type "BaseException") = some true
  typ : PySem.W.typeIn K (.ref c) = some (.type "type")
variable {x : Str} {e : Expr} {ta : TA} {p pos : Pos}
theorem pmk_x1 (T : Cl1 X.K c f) (R : ClR X.K c) (hr : Room 1 X.A) (hm : X.mg x = some (.ref c)) (hg : Gl X x) (ha : PA X [e] ta) (hdb : (x == ("__debug__" : Str)) = false := by decide)
    (he : starEach (e :: []) X.env = (false, eval e X.env) :: starEach [] X.env := by rfl) (hpl : (backTo pos (starEach [] X.env)).any (·.1) = false := by rfl) :
    PMk X (.Call (.Name x p) [e] [] pos) (fun σ H Q => ta σ H fun vs H1 => ∃ y, vs = [y] ∧ ∀ d, H1 d = none → Q (.ref c) (some d) (upd H1 d (.xd [(f, y)]))) := by
  intro pins s σ H Q I h
  obtain ⟨fi, base, nid, iid, bt, qual, fd, a1, a2, q1, q2, q3, q4, O, F, b1, b2⟩ := T.ex
  refine wpAny_Call_Name_kw (ld_glob I hg hm ?_ hdb)
  refine PySem.W.callWith_K (h₀ := X.base) I.ok.mod.kin T.kp (thn (ha.run pos pins s σ H _ I h) fun us s1 hh => ?_) he hpl
  obtain ⟨vs, H1, I1, r1, y, rfl, q⟩ := hh
  obtain ⟨u, rfl, ru⟩ := vals1 r1
  refine ⟨I1.kIn, ?_⟩
  obtain ⟨nm, nsA, qn, bs, bm, hdct, sn, sub, ab, col, dd, k0, k1, k2, k3, k5, hC, same⟩ := PySem.W.excInit_of I1.kIn O.ini
  obtain ⟨hp, g0, dr, tk, os⟩ := s1
  have up : ∀ b o, hp.get? b = some o → ((hp.push (PySem.W.kdv_tup [u])).push (PySem.HandSPX.excO c hp.objs.size)).get? b = some o := fun b o e => Heap.get?_push_of_some _ (Heap.get?_push_of_some _ e)
  refine wpAny_call (class_called O.FB same hC (one_few u) (PySem.W.looks_findIn I1.kIn O.fI) (fun self => PySem.W.bind_fn I1.kIn self O.fT) ?_)
  refine init_one (s := ⟨(hp.push (PySem.W.kdv_tup [u])).push (PySem.HandSPX.excO c hp.objs.size), g0, dr, tk, os⟩) O T.fr F T.fs T.fdb (b1 _ _ _) (I1.kIn.keeps up) (I1.nolimit.keeps up) (by heap_get) (by show X.A.depth + 1 < recursionLimit; have := hr.dp; omega) fun h' tk' d0 M => ?_
  exact ⟨rfl, flown I1 (raises_own R.sub R.typ) M (fun q => relO_put (fs := []) (mA := fun _ => none) ru (fun _ => True.intro) q) q⟩
end
end L2


namespace L2
open PySem PySem.Spec PyProof.Rows PySem.KX
/-! repr of any data: lists, tuples, dicts -/
mutual
inductive Sd (K : PySem.W.Frag) (H : Hp) : V → PyData → Prop
  | non : Sd K H .non .none
  | bl (b : Bool) : Sd K H (.bl b) (.bool b)
  | int (i : Int) : Sd K H (.int i) (.int i)
  | str (x : Str) : Sd K H (.str x) (.str x)
  | lst {a : Addr} {xs : List V} {ds : List PyData} : SqL K H a xs → SdAll K H xs ds → Sd K H (.ref a) (.list ds)
  | tup {a : Addr} {xs : List V} {ds : List PyData} : SqT K H a xs → SdAll K H xs ds → Sd K H (.ref a) (.tuple ds)
  | dct {a : Addr} {kvs : List (Key × V)} {ds : List PyData} : H a = some (.dK kvs) → SdAll K H (kvs.map (·.2)) ds → Sd K H (.ref a) (.dict ((kvs.map fun p => keyD p.1).zip ds))
inductive SdAll (K : PySem.W.Frag) (H : Hp) : List V → List PyData → Prop
  | nil : SdAll K H [] []
  | cons {v : V} {vs : List V} {d : PyData} {ds : List PyData} : Sd K H v d → SdAll K H vs ds → SdAll K H (v :: vs) (d :: ds)
end
/-- sys.modules is a dict -/
def SysD (K : PySem.W.Frag) : Prop := ∃ o, K.lookup sysModules = some o ∧ o.cls = .type "dict"
theorem sds_len {K : PySem.W.Frag} {H : Hp} : ∀ {vs : List V} {ds : List PyData}, SdAll K H vs ds → vs.length = ds.length
  | _, _, .nil => rfl
  | _, _, .cons _ b => by rw [List.length_cons, List.length_cons, sds_len b]
theorem kv_split {kvs : List (Key × V)} {vs : List (Key × Value)} (r : KV kvs vs) : Vals (kvs.map (·.2)) (vs.map (·.2)) ∧ (vs.map fun p => keyD p.1) = kvs.map fun p => keyD p.1 := by
  unfold KV at r
  induction r with
  | nil => exact ⟨.nil, rfl⟩
  | @cons p q ps qs hpq t ih =>
    refine ⟨.cons hpq.2 ih.1, ?_⟩
    rw [List.map_cons, List.map_cons, ih.2, hpq.1]
section
variable {X : Cx} {pins : List (Addr × Obj)} {σ : St} {H : Hp} {s : Shared}
mutual
theorem Sd.reads (I : Inv X pins σ H s) (S : SysD X.K) : ∀ {v : V} {d : PyData} {u : Value}, Sd X.K H v d → RelV v u → ∃ as, Reads s.heap u d as ∧ sysModules ∉ as
  | _, _, _, .non, r => by cases r; exact ⟨_, .none, nofun⟩
  | _, _, _, .bl b, r => by cases r; exact ⟨_, .bool b, nofun⟩
  | _, _, _, .int i, r => by obtain ⟨t, rfl⟩ := r; exact ⟨_, .int i t, nofun⟩
  | _, _, _, .str x, r => by obtain ⟨t, rfl⟩ := r; exact ⟨_, .str x t, nofun⟩
  | _, _, _, .lst h a, r => by
    cases r
    obtain ⟨its, rv, ⟨o, m, ho, hc, _, hd⟩, _⟩ := I.list h
    obtain ⟨as, hr, hn⟩ := SdAll.reads I S a rv
    refine ⟨_, Reads.list ho hc hd hr, fun z => ?_⟩
    rcases List.mem_cons.mp z with e | e
    · obtain ⟨o2, e1, e2⟩ := S
      have e3 := I.kIn _ _ e1
      rw [e, ho] at e3
      cases e3
      rw [hc] at e2
      exact absurd e2 (by decide)
    · exact hn e
  | _, _, _, .tup h a, r => by
    cases r
    obtain ⟨its, rv, ⟨o, ho, hc, m, hd⟩, _⟩ := I.tuple h
    obtain ⟨as, hr, hn⟩ := SdAll.reads I S a rv
    exact ⟨_, Reads.tuple ho hc hd hr, hn⟩
  | _, _, _, .dct (a := a) (kvs := kvs) (ds := ds) h l, r => by
    cases r
    obtain ⟨_, hs, vs, rv, o, es, ep, h1, h2, h3, _, h5, _⟩ := (show ObjOk X.prog X.w H s.heap a (.dK kvs) from I.hok a _ h)
    obtain ⟨k1, k2⟩ := reads_keys s.heap h5
    obtain ⟨v1, v2⟩ := kv_split rv
    obtain ⟨as, hr, hn⟩ := SdAll.reads I S l v1
    have hl := sds_len l
    rw [List.length_map] at hl
    refine ⟨_, Reads.dict (as := []) (bs := as) h1 h2.1 h3 ?_ ?_, ?_⟩
    · rw [List.map_fst_zip (by rw [List.length_map]; omega)]
      rw [v2] at k1
      exact k1
    · rw [List.map_snd_zip (by rw [List.length_map]; omega), k2]
      exact hr
    · intro z
      rcases List.mem_append.mp z with z | z
      · simp at z
        rw [← z] at hs
        simp at hs
      · exact hn z
theorem SdAll.reads (I : Inv X pins σ H s) (S : SysD X.K) : ∀ {v : List V} {d : List PyData} {u : List Value}, SdAll X.K H v d → Vals v u → ∃ as, ReadsAll s.heap u d as ∧ sysModules ∉ as
  | _, _, _, .nil, r => by cases r; exact ⟨_, .nil, nofun⟩
  | _, _, _, .cons a b, r => by
    cases r with
    | cons r1 r2 =>
      obtain ⟨as, q1, n1⟩ := Sd.reads I S a r1
      obtain ⟨bs, q2, n2⟩ := SdAll.reads I S b r2
      exact ⟨_, .cons q1 q2, fun z => by rcases List.mem_append.mp z with e | e; exact n1 e; exact n2 e⟩
end
end
/-- v shows as d -/
def Shw (K : PySem.W.Frag) (H : Hp) (v : V) (d : PyData) : Prop := Sd K H v d ∧ d.showable = true ∧ d.depth ≤ 150 ∧ d.shown.length ≤ sizeLine
theorem seqT_same {K : PySem.W.Frag} {H H' : Hp} {a : Addr} {xs : List V} (e : Same H H') (h : SqT K H a xs) : SqT K H' a xs := by
  rcases h with (h | ⟨o, h⟩) | h
  · exact .inl (.inl (e _ _ h))
  · exact .inl (.inr ⟨o, e _ _ h⟩)
  · exact .inr h
mutual
theorem sdM {K : PySem.W.Frag} {H H' : Hp} (s : Same H H') : ∀ {v : V} {d : PyData}, Sd K H v d → Sd K H' v d
  | _, _, .non => .non
  | _, _, .bl b => .bl b
  | _, _, .int i => .int i
  | _, _, .str x => .str x
  | _, _, .lst h a => .lst (s.seq h) (sdAllM s a)
  | _, _, .tup h a => .tup (seqT_same s h) (sdAllM s a)
  | _, _, .dct h a => .dct (s _ _ h) (sdAllM s a)
theorem sdAllM {K : PySem.W.Frag} {H H' : Hp} (s : Same H H') : ∀ {v : List V} {d : List PyData}, SdAll K H v d → SdAll K H' v d
  | _, _, .nil => .nil
  | _, _, .cons a b => .cons (sdM s a) (sdAllM s b)
end
section
variable {X : Cx}
def rRepA (K : PySem.W.Frag) (xs : List V) (H : Hp) (Q : VK) : Prop := ∃ (v : V) (d : PyData), xs = [v] ∧ Shw K H v d ∧ Q (.str d.shown) H
theorem call_rep (S : SysD X.K) (hu : X.A.units + 200 < cLine) (hg : X.A.guards = some []) : CallR X (.builtin "repr") (rRepA X.K) := by
  intro pins s σ H xs us Q I r h
  obtain ⟨v, d, rfl, ⟨hd, hs, hdp, hz⟩, q⟩ := h
  obtain ⟨u, rfl, ru⟩ := vals1 r
  obtain ⟨as, hr, n⟩ := Sd.reads I S hd ru
  have hn : d.hasDict = true → sysModules ∉ as := fun _ => n
  cases hr with
  | none => exact PySem.P.repr_of_none ⟨.str _, H, I.tok _, ⟨_, rfl⟩, q⟩
  | bool b => exact PySem.P.repr_of_bool ⟨.str _, H, I.tok _, ⟨_, rfl⟩, q⟩
  | int i t => exact PySem.P.repr_of_int (of_decide_eq_true hs) ⟨.str _, H, I.tok _, ⟨_, rfl⟩, q⟩
  | str x t => exact PySem.P.repr_of_str ⟨.str _, H, I.tok _, ⟨_, rfl⟩, q⟩ hz
  | list h1 h2 h3 h4 => exact repr_of_reads' (.list h1 h2 h3 h4) hs hn hg (by omega) (fun _ _ e => e) (fun h' u tk k => ⟨.str _, H, I.kept (t' := tk) k, ⟨_, rfl⟩, q⟩) hz
  | tuple h1 h2 h3 h4 => exact repr_of_reads' (.tuple h1 h2 h3 h4) hs hn hg (by omega) (fun _ _ e => e) (fun h' u tk k => ⟨.str _, H, I.kept (t' := tk) k, ⟨_, rfl⟩, q⟩) hz
  | dict h1 h2 h3 h4 h5 => exact repr_of_reads' (.dict h1 h2 h3 h4 h5) hs hn hg (by omega) (fun _ _ e => e) (fun h' u tk k => ⟨.str _, H, I.kept (t' := tk) k, ⟨_, rfl⟩, q⟩) hz
/-- isinstance(e, c), e what the suite holds, with its fields -/
def rIsS (K : PySem.W.Frag) (a : Addr) (cls : Value) (d : Option Addr) : List V → Hp → VK → Prop := fun xs H Q => ∃ (C dd : Addr) (fs : List (Str × V)) (c : V) (cv : Value) (b : Bool), xs = [.ref a, c] ∧ cls = .ref C ∧ d = some dd ∧ H dd = some (.xd fs) ∧ ClG K C ∧ ClsV c cv ∧ PySem.W.kitOne K (.ref C) cv = some b ∧ Q (.bl b) H
theorem call_isS {a : Addr} {oe : Obj} {cls : Value} {d : Option Addr} {pn : List (Addr × Obj)} (hz : Zc cls d oe) (hf : ∃ vs, oe.data = .fields vs) : CallR (X.suite a ((a, oe) :: pn)) (.builtin "isinstance") (rIsS X.K a cls d) := by
  intro pins s σ H xs us Q I r h
  obtain ⟨C, dd, fs, c, cv, b, rfl, rfl, rfl, ed, T, ku, e, q⟩ := h
  obtain ⟨u1, u2, rfl, r1, r2⟩ := vals2 r
  have e2 := ku.eq r2
  subst e2
  obtain rfl : u1 = Value.ref a := r1
  obtain ⟨ha, _⟩ := I.pin (a, oe) (List.mem_append_left _ List.mem_cons_self)
  obtain ⟨vs, hd⟩ := hf
  have hx : ObjOk X.prog X.w H s.heap dd (.xd fs) := I.hok dd _ ed
  obtain ⟨mA, hns, hr⟩ := hx
  obtain ⟨od, ho, hl⟩ := lookIn_ns hns
  have J : PySem.W.InstAt s.heap a oe C (some od) := ⟨ha, hz.1, by unfold PySem.W.notCls; rw [hd] <;> rfl, by rw [hz.2]; exact ho⟩
  exact PySem.W.kia_one (PySem.W.kitx_exc (by obtain ⟨cd, hc, _⟩ := PySem.W.any_some T.dct; rw [hc]; rfl) T.ga T.gg T.exc T.cA T.cN T.cT T.cM) I.kIn J e (fun z => nomatch z) fun tk => ⟨.bl b, H, I.tok tk, rfl, q⟩
end
end L2


namespace Toy
open PySem L2 PyProof.Rows
abbrev sSo : Stmt := top 8
abbrev sAl : Stmt := top 11
abbrev sNi : Stmt := top 39
abbrev sNa : Stmt := top 40
abbrev sSk : Stmt := top 41
abbrev sVl : Stmt := inClass (top 51) 1
abbrev sVn : Stmt := inClass (top 51) 2
abbrev sVd : Stmt := inClass (top 51) 3
abbrev sVo : Stmt := inClass (top 51) 4
abbrev sVe : Stmt := inClass (top 51) 5
abbrev sVh : Stmt := inClass (top 51) 6
abbrev sVx : Stmt := inClass (top 51) 7
abbrev sVk : Stmt := inClass (top 51) 8
abbrev sVg : Stmt := inClass (top 51) 9
abbrev sVs : Stmt := inClass (top 51) 10
abbrev sGap : Stmt := inClass (top 45) 2
abbrev sWk : Stmt := top 32
abbrev sHi : Stmt := top 33
abbrev sTb : Stmt := top 31
abbrev sBe : Stmt := top 27
abbrev sFo : Stmt := top 28
abbrev sFu : Stmt := top 29
abbrev sFp : Stmt := top 30
abbrev sRo : Stmt := top 34
abbrev sDc : Stmt := top 22
abbrev sTo : Stmt := top 46
abbrev sNx : Stmt := top 48
abbrev sNb : Stmt := top 47
abbrev sOk : Stmt := top 12
def sorts7 : List Str := ["null", "no", "yes", "number", "text", "list", "dict"]
abbrev sNm : Stmt := inClass (top 45) 0
abbrev sVi : Stmt := inClass (top 51) 0
abbrev sSd : Stmt := top 53
abbrev sSn : Stmt := top 54
abbrev sShuf : Stmt := top 59
abbrev sEa : Stmt := top 60
abbrev sCa : Stmt := top 61
abbrev sLc : Stmt := top 62
abbrev sLaw : Stmt := top 63
end Toy


namespace Toy
open PySem PySem.Spec PyProof.Rows L2
/-! ### the head: what the top has written, as one answer -/
def freeB (K : PySem.W.Frag) (c : Addr) (f : Str) : Bool := decide (PySem.W.takerIn K c f = some none) && He.eqO (PySem.W.findIn K (.ref c) f) (some none)
def btL : List Value := [.type "Exception", .type "BaseException", .type "object"]
def ownB (K : PySem.W.Frag) (c fi : Addr) : Bool :=
  PySem.W.excInitIn K c btL "Exception.__new__" && (PySem.W.excOver K c btL && (PySem.W.hasDictIn K c && (He.eqO (PySem.W.findIn K (.ref c) "__setattr__") (some (some (.builtin "object.__setattr__"))) &&
  (He.eqO (PySem.W.findIn K (.ref c) "__getattribute__") (some (some (.builtin "BaseException.__getattribute__"))) && (He.eqO (PySem.W.findIn K (.ref c) "__getattr__") (some none) && (decide (PySem.W.subIn K (.ref c) (.type "BaseException") = some true) &&
  (PySem.W.keepIn K (.ref c) && (He.eqO (PySem.W.findIn K (.ref c) "__init__") (some (some (.ref fi))) && (decide (PySem.W.typeIn K (.ref fi) = some (.type "function")) && (He.eqO (PySem.W.findIn K (.ref c) "__class__") (some (some (.builtin "object.__class__"))) &&
  decide (PySem.W.mroIn K c (.type "object") = some true)))))))))))
def CU (K : PySem.W.Frag) : Addr := He.ga K "Unsettled"
def CV (K : PySem.W.Frag) : Addr := He.ga K "View"
def CN (K : PySem.W.Frag) : Addr := He.ga K "Names"
def clsB (K : PySem.W.Frag) : Bool := ownB K (CU K) (He.ma K (CU K) "__init__") && (freeB K (CU K) "number" && (freeB K (CU K) "place" && (freeB K (CU K) "question" && (decide (PySem.W.exmOne K (.ref (CU K)) (.ref (CU K)) = some true) && (decide (PySem.W.typeIn K (.ref (CU K)) = some (.type "type")) &&
  (decide (PySem.W.specialIn K (.builtin "object.__class__") "__get__" = some (some (.builtin "getset_descriptor.__get__"))) && decide (PySem.W.takesIn K (.builtin "object.__class__") = some true)))))))
def sysB (K : PySem.W.Frag) : Bool := match K.lookup sysModules with
  | some o => o.cls == .type "dict"
  | none => false
def txtOf : Value → Option Str
  | .str x _ => some x
  | _ => none
theorem words_vals : ∀ {us : List Value} {xs : List Str}, us.map txtOf = xs.map some → Vals (xs.map V.str) us
  | [], [], _ => .nil
  | [], _ :: _, h => by simp at h
  | _ :: _, [], h => by simp at h
  | u :: us, x :: xs, h => by
    simp only [List.map_cons, List.cons.injEq] at h
    refine .cons ?_ (words_vals h.2)
    cases u with
    | str y t =>
      obtain rfl := Option.some.inj h.1
      exact ⟨t, rfl⟩
    | _ => simp [txtOf] at h
def tpB (K : PySem.W.Frag) (a : Addr) (xs : List Str) : Bool := match K.lookup a with
  | some ⟨cls, none, .seq vs _, _⟩ => cls == .type "tuple" && decide (vs.toList.map txtOf = xs.map some)
  | _ => false
def tpB2 (K : PySem.W.Frag) (v : Value) (xs : List Str) : Bool := match v with
  | .ref a => tpB K a xs
  | _ => false
theorem tpB_ok {K : PySem.W.Frag} {a : Addr} {xs : List Str} (h : tpB K a xs = true) (hz : xs.length ≤ 1000) : TupK K a xs := by
  unfold tpB at h
  split at h
  · rename_i cls vs n sl e
    rw [Bool.and_eq_true] at h
    have h2 := of_decide_eq_true h.2
    have hl : vs.toList.length = xs.length := by
      have := congrArg List.length h2
      simpa using this
    have hc : cls = .type "tuple" := eq_of_beq h.1
    exact fun H => .inr ⟨_, vs, n, e, hc, rfl, few (by rw [← Array.length_toList]; omega), words_vals h2⟩
  · cases h
def keysB (K : PySem.W.Frag) (d : Addr) (ks : List Str) : Bool := match K.lookup d with
  | some ⟨_, _, .dict es _, _⟩ => es.toList.all fun e => !e.refKey && (match e.key with
    | .str y _ => decide (y ∈ ks)
    | _ => true)
  | _ => false
theorem keysB_ok {K : PySem.W.Frag} {d : Addr} {ks : List Str} (h : keysB K d ks = true) {x : Str} (hx : x ∉ ks) : PySem.W.nsIn K d x = some none := by
  unfold keysB at h
  unfold PySem.W.nsIn
  split at h
  · rename_i es n sl e
    rw [List.all_eq_true] at h
    have h1 : es.toList.find? (·.key.isStr x) = none := by
      rw [List.find?_eq_none]
      intro e he hs
      have z := h e he
      rw [Bool.and_eq_true] at z
      cases hk : e.key with
      | str y t =>
        rw [hk] at hs
        have e2 : y = x := eq_of_beq hs
        have z2 := z.2
        rw [hk] at z2
        exact hx (e2 ▸ of_decide_eq_true z2)
      | _ => rw [hk] at hs; cases hs
    have h2 : es.toList.any (·.refKey) = false := by
      rw [List.any_eq_false]
      intro e he
      have z := h e he
      rw [Bool.and_eq_true] at z
      have z1 := z.1
      intro q
      rw [q] at z1
      cases z1
    rw [e]
    simp only [h1, h2]
    rfl
  · cases h
theorem form_not {x : Str} (h : formOf x = none) : x ∉ formsL.map (·.1) := by
  intro hm
  obtain ⟨p, hp, rfl⟩ := List.mem_map.mp hm
  have : (formsL.lookup p.1).isSome = true := by
    have : ∀ p ∈ formsL, (formsL.lookup p.1).isSome = true := by decide +kernel
    exact this p hp
  rw [show formsL.lookup p.1 = none from h] at this
  cases this
def tabB (K : PySem.W.Frag) (d : Addr) (l : List (Str × List Str)) : Bool := keysB K d (l.map (·.1)) && l.all fun p => match PySem.W.nsIn K d p.1 with
  | some (some v) => tpB2 K v p.2
  | _ => false
theorem tab_ok {K : PySem.W.Frag} {w : World} {d : Addr} {l : List (Str × List Str)} (D : ∃ es n, KDict K w d es n) (hl : ∀ p ∈ l, p.2.length ≤ 1000) (h : (l.all fun p => match PySem.W.nsIn K d p.1 with
  | some (some v) => tpB2 K v p.2
  | _ => false) = true) : ∀ p ∈ l, ∃ a, KDct K w d p.1 (.ref a) ∧ ∀ H, SqT K H a (p.2.map V.str) := by
  obtain ⟨es, n, D⟩ := D
  intro p hp
  have z := List.all_eq_true.mp h p hp
  cases e : PySem.W.nsIn K d p.1 with
  | none => rw [e] at z; cases z
  | some r =>
    cases r with
    | none => rw [e] at z; cases z
    | some v =>
      rw [e] at z
      cases v with
      | ref a => exact ⟨a, ⟨es, n, .ref a, D.at_, D.lit, e, rfl⟩, tpB_ok z (hl p hp)⟩
      | _ => simp [tpB2] at z
/-! View.__init__, a def with two defaults -/
abbrev R : PySem.W.OpenRow := PySem.W.OpenLaw.row PySem.Challenge.rw_sieveways_k20_questions_in_order
def FV (K : PySem.W.Frag) : Addr := He.ma K (CV K) "__init__"
def mOf (x m q : Str) (st : Stmt) : He.DefD := ⟨(x, some m), m, q, defArgs st, defBody st, defScope st, [], []⟩
def hdOf (x : Str) (st : Stmt) : He.DefD := ⟨(x, none), x, x, defArgs st, defBody st, defScope st, [], []⟩
def viD : He.DefD := mOf "View" "__init__" "View.__init__" sVi
def fnI (K : PySem.W.Frag) : He.FnW := He.fnW K ("View", some "__init__")
def viV : He.FnW := viD.val
def dflA (K : PySem.W.Frag) : Addr := match K.lookup (FV K) with
  | some ⟨_, _, .func fd, _⟩ => (match fd.defaults with
    | .ref T => T
    | _ => 0)
  | _ => 0
def p0 (K : PySem.W.Frag) : Addr := match K.lookup (dflA K) with
  | some ⟨_, _, .seq its _, _⟩ => (match its.toList with
    | .ref p :: _ => p
    | _ => 0)
  | _ => 0
def exA (g : Addr → Option Obj) : List Addr :=
  let K := He.frT g (He.asD g 5)
  let T := dflA K
  T :: (match g T with
    | some ⟨_, _, .seq its _, _⟩ => (match its.toList with
      | .ref p :: _ => [p]
      | _ => [])
    | _ => [])
def viB (K : PySem.W.Frag) : Bool := PySem.W.keepIn K (.ref (FV K)) && (match K.lookup (FV K) with
  | some ⟨_, _, .func fd, _⟩ => PySem.W.codeIn K fd.code "View.__init__" && (He.dflB K fd.defaults [.ref (p0 K), .int 0] && He.kwdB K fd.kwdefaults [])
  | _ => false)
def e0B (K : PySem.W.Frag) : Bool := match K.lookup (p0 K) with
  | some ⟨.type c, _, .seq its _, _⟩ => decide (c = "tuple") && decide (its.toList = [])
  | _ => false
def soB (K : PySem.W.Frag) : Bool := match K.lookup (He.ga K "SORTS") with
  | some ⟨.type c, none, _, _⟩ => decide (c = "tuple")
  | _ => false
def tupsB (K : PySem.W.Frag) : Bool := tpB K (He.ga K "PART_KINDS") kinds4 && (tpB K (He.ga K "ABSENT") ["absent"] && (tpB K (He.ga K "SORTS") sorts7 && (tpB K (He.ga K "TESTS") testsL && (tpB K (He.ga K "WALKS") walksL && tpB K (He.ga K "CHOOSERS") choosersL))))
def exB (K : PySem.W.Frag) : Bool := clsB K && (sysB K && (viB K && (e0B K && (soB K && (tupsB K && tabB K (He.ga K "FORMS") formsL)))))
def ts : List He.Tab := [(fun K => He.ga K "FORMS", formsL.map (·.1))]
def tf : List He.Defn := []
def fn0 : List He.DefD := [hdOf "is_integer" sIsInt, hdOf "sort_of" sSo, hdOf "alike" sAl, hdOf "order_key" sOk, hdOf "begins_kind" sBeg, hdOf "kinds_and_parts" sKP, hdOf "demand_chooser" sDc, hdOf "begun" sBe, hdOf "followed" sFo, hdOf "_further" sFu, hdOf "_further_parts" sFp, hdOf "taken_by" sTb, hdOf "_walked" sWk, hdOf "holds_in" sHi, hdOf "row_in" sRo, hdOf "node_in" sNi]
def fn1 : List He.DefD := [hdOf "node_at" sNa, hdOf "sort_known" sSk, hdOf "_told_by" sTo, hdOf "_names_between" sNb, hdOf "_next_name" sNx, hdOf "sketched" sSd, hdOf "sketched_named" sSn, hdOf "_law_begin" sBegin, hdOf "_law_draw" sDraw, hdOf "_law_pick" sPick, hdOf "_law_shuffled" sShuf, hdOf "_law_each" sEa, hdOf "_law_cases" sCa, hdOf "_law_list_cases" sLc, hdOf "law" sLaw, mOf "View" "located" "View.located" sVl]
def fn2 : List He.DefD := [mOf "View" "node" "View.node" sVn, mOf "View" "demand" "View.demand" sVd, mOf "View" "is_of" "View.is_of" sVo, mOf "View" "is_equal" "View.is_equal" sVe, mOf "View" "has" "View.has" sVh, mOf "View" "has_index" "View.has_index" sVx, mOf "View" "has_key" "View.has_key" sVk, mOf "View" "gap_keys" "View.gap_keys" sVg, mOf "View" "step_behind" "View.step_behind" sVs, mOf "Names" "__init__" "Names.__init__" sNm, mOf "Unsettled" "__init__" "Unsettled.__init__" (inClass (top 50) 0)]
def fn : List He.DefD := fn0 ++ fn1 ++ fn2
def fa0 : List He.Fa := [.glo "is_integer", .glo "sort_of", .glo "alike", .glo "order_key", .glo "begins_kind", .glo "kinds_and_parts", .glo "demand_chooser", .glo "begun", .glo "followed", .glo "_further", .glo "_further_parts", .glo "taken_by", .glo "_walked", .glo "holds_in", .glo "row_in", .glo "node_in"]
def fa1 : List He.Fa := [.glo "node_at", .glo "sort_known", .glo "_told_by", .glo "_names_between", .glo "_next_name", .glo "sketched", .glo "sketched_named", .glo "_law_begin", .glo "_law_draw", .glo "_law_pick", .glo "_law_shuffled", .glo "_law_each", .glo "_law_cases", .glo "_law_list_cases", .glo "law", .glo "View"]
def fa2 : List He.Fa := [.glo "Names", .glo "Unsettled", .glo "FORMS", .glo "TESTS", .glo "WALKS", .glo "CHOOSERS", .glo "PART_KINDS", .glo "SORTS", .glo "ABSENT", .int "MOST_LETTERS" 8, .int "MOST_IN_GAP" 2, .str "GIVES" "gives", .str "NONE" "none", .str "FAILS" "fails", .free "len", .free "isinstance"]
def fa3 : List He.Fa := [.free "list", .free "tuple", .free "str", .free "int", .free "bool", .free "range", .free "reversed", .free "enumerate", .free "sorted", .free "max", .free "zip", .free "repr", .free "all", .cls "View", .mkr "View", .noat "View" "names"]
def fa4 : List He.Fa := [.noat "View" "sketches", .noat "View" "puts", .noat "View" "base", .cls "Names", .mkr "Names", .noat "Names" "fields", .noat "Names" "many", .noat "Names" "numbers", .noat "Names" "texts", .noat "Names" "gaps", .meth "View" "located", .meth "View" "node", .meth "View" "demand", .meth "View" "is_of", .meth "View" "is_equal", .meth "View" "has"]
def fa5 : List He.Fa := [.meth "View" "has_index", .meth "View" "has_key", .meth "View" "gap_keys", .meth "View" "step_behind"]
def fa : List He.Fa := fa0 ++ fa1 ++ fa2 ++ fa3 ++ fa4 ++ fa5
/-! sys.modules beside what the module's names reach -/
def frS (g : Addr → Option Obj) : PySem.W.Frag := He.frT g (sysModules :: cStatics :: (exA g ++ He.asD g 5))
def obK (g : Addr → Option Obj) : He.AlX := (He.obsT fa fn ts (frS g), exB (frS g) && He.tabsB g tf (frS g))
theorem sayK {w : World} {h : Heap} (e : obK h.get? = He.valX fn ts w) : He.SaysX fa fn ts tf exB w h (frS h.get?) := by
  have e1 : He.obsT fa fn ts (frS h.get?) = He.valT fn ts w := (Prod.mk.inj e).1
  obtain ⟨e2, e3⟩ := He.ba (show (exB (frS h.get?) && He.tabsB h.get? tf (frS h.get?)) = true from (Prod.mk.inj e).2)
  have hall : ∀ p ∈ tf, PySem.W.codeHdIn (frS h.get?) (He.cT (frS h.get?) p).1 (He.cT (frS h.get?) p).2 = true ∧ ∃ o, h.get? (He.cT (frS h.get?) p).2 = some o ∧ He.emptyTab o = true := by
    intro p hp
    obtain ⟨a1, a2⟩ := He.ba (List.all_eq_true.mp e3 p hp)
    refine ⟨a1, ?_⟩
    revert a2
    cases h.get? (He.cT (frS h.get?) p).2 with
    | none => exact fun z => by cases z
    | some o => exact fun z => ⟨o, rfl, z⟩
  refine ⟨e1, e2, fun p hp => (hall p hp).1, fun p hp => ?_, fun p hp => ?_⟩
  · obtain ⟨_, o, z1, z2⟩ := hall p hp
    exact He.frT_none z1 z2
  · obtain ⟨_, o, z1, z2⟩ := hall p hp
    rw [z1, He.emptyTab_eq z2]
def hk : PySem.W.Hook where
  α := He.AlX × He.FnW
  obs := fun s => (obK s.heap.get?, fnI (frS s.heap.get?))
  val := fun w => (He.valX fn ts w, viV)
  says := fun w h => ∃ K : PySem.W.Frag, K.In h ∧ He.SaysX fa fn ts tf exB w h K ∧ fnI K = viV
  of := fun _ _ e => ⟨_, He.frT_in, sayK (Prod.mk.inj e).1, (Prod.mk.inj e).2⟩
  keeps := fun _ _ _ ⟨K, hK, c, c2⟩ k => ⟨K, PySem.W.Frag.In.keeps hK k, ⟨c.t, c.more, c.hd, c.out, fun p hp => k _ _ (c.empty p hp)⟩, c2⟩
def ob (s : PySem.W.SharedT) : He.AlX × He.FnW := (obK (HandSHeadRun.getT s), fnI (frS (HandSHeadRun.getT s)))
theorem ob_eq (s : PySem.W.SharedT) : ob s = hk.obs s.abs := by
  have e : HandSHeadRun.getT s = s.abs.heap.get? := funext (HandSHeadRun.getT_eq s)
  show (obK (HandSHeadRun.getT s), fnI (frS (HandSHeadRun.getT s))) = (obK s.abs.heap.get?, fnI (frS s.abs.heap.get?))
  rw [e]
def looseX : List Str := ["_wall"]
def looseN0 : List Str := ["is_integer", "sort_of", "alike", "order_key", "begins_kind", "kinds_and_parts", "demand_chooser", "begun", "followed", "_further", "_further_parts", "taken_by", "_walked", "holds_in", "row_in", "node_in", "node_at", "sort_known"]
def looseN1 : List Str := ["_told_by", "_names_between", "_next_name", "sketched", "sketched_named", "_law_begin", "_law_draw", "_law_pick", "_law_shuffled", "_law_each", "_law_cases", "_law_list_cases", "View", "Names", "Unsettled", "FORMS", "TESTS", "WALKS"]
def looseN2 : List Str := ["CHOOSERS", "PART_KINDS", "SORTS", "ABSENT", "MOST_LETTERS", "MOST_IN_GAP", "GIVES", "NONE", "FAILS", "NotChooser", "steps_into", "inner_of", "known_pairs", "known_steps", "LETTERS"]
def looseN : List Str := looseX ++ looseN0 ++ looseN1 ++ looseN2
end Toy


namespace Toy
open PySem PySem.Spec PyProof.Rows L2
/-! a text's hash asks the world whether a special's get may raise: the run is told for either answer -/
def wB (b : Bool) (w : World) : World := ⟨w.draws, {w.params with followText := fun x => match decide (x = "special-get-raises") with | true => b | false => w.params.followText x}⟩
theorem wB_eq (w : World) : wB (w.params.followText "special-get-raises") w = w := by
  have e : (fun x => match decide (x = "special-get-raises") with | true => w.params.followText "special-get-raises" | false => w.params.followText x) = w.params.followText := by
    funext x
    by_cases h : x = "special-get-raises"
    · subst h; rfl
    · rw [decide_eq_false h]
  unfold wB
  rw [e]
theorem runT (w : World) : HandSHeadRun.RunEq R (PySem.W.view R.prog [63]) hk ob 9000 looseN (wB true w) := by
  intro os
  kernel_rfl
theorem runF (w : World) : HandSHeadRun.RunEq R (PySem.W.view R.prog [63]) hk ob 9000 looseN (wB false w) := by
  intro os
  kernel_rfl
theorem run (w : World) : HandSHeadRun.RunEq R (PySem.W.view R.prog [63]) hk ob 9000 looseN w := by
  have z := wB_eq w
  cases h : w.params.followText "special-get-raises" with
  | true =>
    rw [h] at z
    exact (congrArg (HandSHeadRun.RunEq R (PySem.W.view R.prog [63]) hk ob 9000 looseN) z).mp (runT w)
  | false =>
    rw [h] at z
    exact (congrArg (HandSHeadRun.RunEq R (PySem.W.view R.prog [63]) hk ob 9000 looseN) z).mp (runF w)
end Toy


namespace Toy
open PySem PySem.Spec L2 PyProof.Rows PySem.W
/-! ### what the program answers, over terms and sketches as data -/
inductive An (α : Type) where
  | ok (a : α)
  | ask (pl qu : Dt)
def sortT : Dt → Str
  | .non => "null"
  | .bl true => "yes"
  | .bl false => "no"
  | .int _ => "number"
  | .str _ => "text"
  | .tup _ => "dict"
  | .opq => "dict"
def isAbs : Dt → Bool
  | .tup [.str w] => decide (w = "absent")
  | _ => false
mutual
def toPy : Dt → PyData
  | .non => .none
  | .bl b => .bool b
  | .int i => .int i
  | .str x => .str x
  | .tup l => .tuple (toPyL l)
  | .opq => .none
def toPyL : List Dt → List PyData
  | [] => []
  | t :: l => toPy t :: toPyL l
end
/-- the part that stands with a key in a row of pairs -/
def findP (k : Str) : List Dt → Option (Option Dt)
  | [] => some none
  | .tup [.str k', part] :: r => if k' = k then some (some part) else findP k r
  | _ => none
def findG (k : Str) : List Dt → Option (Option Dt)
  | [] => some none
  | .non :: r => findG k r
  | .tup ps :: r => (match findP k ps with
    | some none => findG k r
    | x => x)
  | _ => none
def nodeInL (items : List Dt) : Dt → Option Dt
  | .int i => if 0 ≤ i ∧ i < (items.length : Int) then items[i.toNat]? else some .non
  | _ => none
def nodeInD (ps gs : List Dt) : Dt → Option Dt
  | .str k => (match findP k ps with
    | some (some part) => if SeqAt.shaped (toPy part) = true then some (if isAbs part = true then .non else part) else none
    | some none => (match findG k gs with
      | some (some p) => some p
      | some none => some .non
      | none => none)
    | none => none)
  | _ => none
def nodeIn (n step : Dt) : Option Dt := match n with
  | .tup (.str w :: rest) => if w = "list" then (match rest with
      | .tup items :: _ => nodeInL items step
      | _ => none) else if w = "dict" then (match rest with
      | [.tup ps, .tup gs] => nodeInD ps gs step
      | _ => none) else some .non
  | _ => none
def nodeAt : Dt → List Dt → Option Dt
  | n, [] => some n
  | n, s :: r => (match n with
    | .non => some .non
    | n => (match nodeIn n s with
      | some m => nodeAt m r
      | none => none))
def sortK (w : Str) (rest : List Dt) : Option Str :=
  if w = "leaf" then (match rest with
    | v :: _ => some (sortT v)
    | [] => none) else if w = "among" then none else if w = "other" then (match rest with
    | .str x :: _ => some x
    | _ => none) else some w
def nodeV (sk pl : Dt) : Option Dt := match pl with
  | .tup st => nodeAt sk st
  | _ => none
def isOfT (sk pl : Dt) (s : Str) : Option (An Bool) := match nodeV sk pl with
  | some (.tup (.str w :: rest)) => if w = "hole" then (match rest with
      | [] => some (.ask pl (.tup [.str "sort"]))
      | _ => none) else (match sortK w rest with
      | some x => some (.ok (decide (x = s)))
      | none => none)
  | _ => none
def leafEq : Dt → Dt → Bool
  | .non, .non => true
  | .bl a, .bl b => decide (a = b)
  | .int a, .int b => decide (a = b)
  | .str a, .str b => decide (a = b)
  | _, _ => false
def isLf : Dt → Bool
  | .tup _ => false
  | .opq => false
  | _ => true
def isEqT (sk pl leaf : Dt) : Option (An Bool) := match isOfT sk pl (sortT leaf) with
  | some (.ok false) => some (.ok false)
  | some (.ok true) => (match nodeV sk pl with
    | some (.tup (.str w :: rest)) => if w = "number" ∨ w = "text" then some (.ask pl (.tup [.str "value"])) else if w = "leaf" then (match rest with
        | v :: _ => if isLf v = true ∧ isLf leaf = true then some (.ok (leafEq v leaf)) else none
        | [] => none) else if w = "among" then none else some (.ok false)
    | _ => none)
  | x => x
def hasIxT (sk pl : Dt) (i : Int) : Option (An Bool) := match nodeV sk pl with
  | some (.tup (.str _ :: .tup items :: .bl b :: _)) => if i < (items.length : Int) then some (.ok true) else if b = true then some (.ok false) else some (.ask pl (.tup [.str "more"]))
  | _ => none
def keysP : List Dt → Option (List Str)
  | [] => some []
  | .tup [.str k, _] :: r => (match keysP r with
    | some ks => some (k :: ks)
    | none => none)
  | _ => none
def keysQ (ps : List Dt) : Option (List Str) := if ps.length ≤ 1000 then keysP ps else none
def hasKeyT (fs : List Str) (sk pl : Dt) (k : Str) : Option (An Bool) := if k ∈ fs then (match nodeV sk pl with
  | some (.tup [.str w, .tup ps, .tup gs]) => (match keysQ ps with
    | some ks => if k ∈ ks then (match nodeIn (.tup [.str w, .tup ps, .tup gs]) (.str k) with
      | some .non => some (.ok false)
      | some _ => some (.ok true)
      | none => none) else some (.ask pl (.tup [.str "key", .str k]))
    | none => none)
  | _ => none) else none
def gapKT (sk pl : Dt) (n : Nat) : Option (An (List Str)) := match nodeV sk pl with
  | some (.tup [.str _, .tup _, .tup gs]) => (match gs[n]? with
    | some .non => some (.ask pl (.tup [.str "gap", .int (n : Int)]))
    | some (.tup ps) => (match keysQ ps with
      | some ks => some (.ok ks)
      | none => none)
    | _ => none)
  | _ => none
def andThen {α : Type} (a : Option (An Bool)) (b : Option (An α)) (no : An α) : Option (An α) := match a with
  | some (.ok true) => b
  | some (.ok false) => some no
  | some (.ask p q) => some (.ask p q)
  | none => none
def hasT (fs : List Str) (sk pl step : Dt) : Option (An Bool) := match step with
  | .int i => andThen (isOfT sk pl "list") (hasIxT sk pl i) (.ok false)
  | .str k => andThen (isOfT sk pl "dict") (hasKeyT fs sk pl k) (.ok false)
  | _ => none
def after (step : Dt) (k : Str) : Bool := match step with
  | .str x => decide (x.cps.toList < k.cps.toList)
  | _ => true
/-- the first key behind a step, from the gap number i on, of the fields that are left -/
def behindD (fs : List Str) (sk pl step : Dt) : Nat → List Str → Option (An Dt)
  | i, [] => (match gapKT sk pl i with
    | some (.ok ks) => (match ks.find? (after step) with
      | some k => some (.ok (.str k))
      | none => some (.ok .non))
    | some (.ask p q) => some (.ask p q)
    | none => none)
  | i, f :: r => if after step f = true then (match gapKT sk pl i with
    | some (.ok ks) => (match ks.find? (after step) with
      | some k => some (.ok (.str k))
      | none => (match hasKeyT fs sk pl f with
        | some (.ok true) => some (.ok (.str f))
        | some (.ok false) => behindD fs sk pl step (i + 1) r
        | some (.ask p q) => some (.ask p q)
        | none => none))
    | some (.ask p q) => some (.ask p q)
    | none => none) else behindD fs sk pl step (i + 1) r
def behindT (fs : List Str) (sk pl step : Dt) : Option (An Dt) := match isOfT sk pl "list" with
  | some (.ok true) => (match step with
    | .non => andThen (hasIxT sk pl 0) (some (.ok (.int 0))) (.ok .non)
    | .int i => andThen (hasIxT sk pl (i + 1)) (some (.ok (.int (i + 1)))) (.ok .non)
    | _ => none)
  | some (.ok false) => (match step with
    | .non => behindD fs sk pl step 0 fs
    | .str _ => behindD fs sk pl step 0 fs
    | _ => none)
  | some (.ask p q) => some (.ask p q)
  | none => none
def isOdT (sk pl : Dt) : Option (An Bool) := match isOfT sk pl "list" with
  | some (.ok false) => isOfT sk pl "dict"
  | x => x
mutual
def walkT (fs : List Str) (sk : Dt) : Nat → Dt → Dt → Option (An (Str × Dt))
  | 0, _, _ => none
  | n + 1, .tup (.str w :: a), pl => if w = "same" then some (.ok ("gives", pl)) else if w = "none" then some (.ok ("none", .non)) else if w = "pipe" then (match a with
      | [t1, t2] => (match walkT fs sk n t1 pl with
        | some (.ok (told, b)) => if told = "gives" then walkT fs sk n t2 b else some (.ok (told, .non))
        | x => x)
      | _ => none) else if w = "if" then (match takeT fs sk n (.tup (.str w :: a)) pl with
      | some (.ok t) => walkT fs sk n t pl
      | some (.ask p q) => some (.ask p q)
      | none => none) else if w = "fail" then some (.ok ("fails", .non)) else (match a with
      | s :: _ => (match hasT fs sk pl s with
        | some (.ok true) => (match pl with
          | .tup st => if st.length ≤ 1000 then some (.ok ("gives", .tup (st ++ [s]))) else none
          | _ => none)
        | some (.ok false) => some (.ok ("fails", .non))
        | some (.ask p q) => some (.ask p q)
        | none => none)
      | [] => none)
  | _, _, _ => none
def takeT (fs : List Str) (sk : Dt) : Nat → Dt → Dt → Option (An Dt)
  | 0, _, _ => none
  | n + 1, .tup [.str _, t, x, y], pl => (match holdT fs sk n t pl with
    | some (.ok b) => some (.ok (if b = true then x else y))
    | some (.ask p q) => some (.ask p q)
    | none => none)
  | _, _, _ => none
def holdT (fs : List Str) (sk : Dt) : Nat → Dt → Dt → Option (An Bool)
  | 0, _, _ => none
  | n + 1, .tup (.str w :: a), pl => if w = "is" then (match a with
      | [.str s] => isOfT sk pl s
      | _ => none) else if w = "equal" then (match a with
      | [v] => isEqT sk pl v
      | _ => none) else if w = "and" then (match a with
      | [t1, t2] => andThen (holdT fs sk n t1 pl) (holdT fs sk n t2 pl) (.ok false)
      | _ => none) else if w = "or" then (match a with
      | [t1, t2] => (match holdT fs sk n t1 pl with
        | some (.ok false) => holdT fs sk n t2 pl
        | x => x)
      | _ => none) else if w = "not" then (match a with
      | [t1] => (match holdT fs sk n t1 pl with
        | some (.ok b) => some (.ok (!b))
        | x => x)
      | _ => none) else (match a with
      | [wk, t2] => (match walkT fs sk n wk pl with
        | some (.ok (told, b)) => if told = "gives" then holdT fs sk n t2 b else some (.ok false)
        | some (.ask p q) => some (.ask p q)
        | none => none)
      | _ => none)
  | _, _, _ => none
end
def tripT (pl : Dt) (ts : List Dt) (s : Dt) : Dt := .tup [pl, .tup ts, s]
def fuelW : Nat := 6
def partsT (fs : List Str) (sk pl : Dt) (terms : List Dt) (step : Dt) : Option (An Dt) :=
  let go := (match behindT fs sk pl step, pl with
    | some (.ok .non), _ => some (.ok (.tup []))
    | some (.ok g), .tup st => if st.length ≤ 1000 then some (.ok (.tup [tripT pl terms g, tripT (.tup (st ++ [g])) (terms.drop 1) .non])) else none
    | some (.ask p q), _ => some (.ask p q)
    | _, _ => none)
  match step with
  | .non => andThen (isOdT sk pl) go (.ok .non)
  | _ => go
def furtherT (fs : List Str) (sk pl : Dt) (terms : List Dt) (step : Dt) : Option (An Dt) := match terms with
  | .tup (.str w :: a) :: behind => if 1000 < behind.length then none else if w = "none" then some (.ok (.tup [])) else if w = "every" then partsT fs sk pl terms step else if w = "pipe" then (match a with
      | [t1, t2] => some (.ok (.tup [tripT pl (t1 :: t2 :: behind) .non]))
      | _ => none) else if w = "both" then (match a with
      | [t1, t2] => some (.ok (.tup [tripT pl (t2 :: behind) .non, tripT pl (t1 :: behind) .non]))
      | _ => none) else if w = "if" then (match takeT fs sk fuelW (.tup (.str w :: a)) pl with
      | some (.ok t) => some (.ok (.tup [tripT pl (t :: behind) .non]))
      | some (.ask p q) => some (.ask p q)
      | none => none) else if w = "try" ∨ w = "other" then (match a with
      | wk :: more => (match walkT fs sk fuelW wk pl with
        | some (.ok (told, e)) => if told = "gives" then some (.ok (.tup [tripT e behind .non])) else if w = "other" ∧ told = "none" then (match more with
            | t2 :: _ => some (.ok (.tup [tripT pl (t2 :: behind) .non]))
            | [] => none) else some (.ok (if w = "try" then .tup [] else .non))
        | some (.ask p q) => some (.ask p q)
        | none => none)
      | [] => none) else (match walkT fs sk fuelW (.tup (.str w :: a)) pl with
        | some (.ok (told, e)) => if told = "gives" then some (.ok (.tup [tripT e behind .non])) else some (.ok .non)
        | some (.ask p q) => some (.ask p q)
        | none => none)
  | _ => none
def followT (fs : List Str) (sk : Dt) : Dt → Option (An Dt)
  | .tup [.tup tasks, .tup places, _] => (match tasks.getLast? with
    | none => some (.ok (.tup [.tup [], .tup places, .bl true]))
    | some (.tup [pl, .tup terms, step]) => (match terms with
      | [] => if places.length ≤ 1000 then some (.ok (.tup [.tup tasks.dropLast, .tup (places ++ [pl]), .non])) else none
      | _ => (match furtherT fs sk pl terms step with
        | some (.ok .non) => some (.ok (.tup [.tup [], .tup places, .bl false]))
        | some (.ok (.tup fr)) => if tasks.length + fr.length ≤ 1000 then some (.ok (.tup [.tup (tasks.dropLast ++ fr), .tup places, .non])) else none
        | some (.ask p q) => some (.ask p q)
        | _ => none))
    | _ => none)
  | _ => none
def isNonT : Dt → Bool
  | .non => true
  | _ => false
def rowT (fs : List Str) (sk : Dt) : Nat → Dt → Option (An Dt)
  | 0, _ => none
  | n + 1, run => (match run with
    | .tup [_, pls, e] => if isNonT e = true then (match followT fs sk run with
      | some (.ok r) => rowT fs sk n r
      | x => x) else some (.ok (.tup [pls, e]))
    | _ => none)
def fuelR : Nat := 40
def begunT (t : Dt) : Dt := .tup [.tup [tripT (.tup []) [t] .non], .tup [], .non]
def sketchT (fs : List Str) (f g sk : Dt) : Option Dt := match rowT fs sk fuelR (begunT f) with
  | some (.ok a) => (match rowT fs sk fuelR (begunT g) with
    | some (.ok b) => some (.tup [.str "rows", a, b])
    | some (.ask p q) => some (.tup [.str "ask", p, q])
    | none => none)
  | some (.ask p q) => some (.tup [.str "ask", p, q])
  | none => none
mutual
def eqD : Dt → Dt → Bool
  | .non, .non => true
  | .bl a, .bl b => decide (a = b)
  | .int a, .int b => decide (a = b)
  | .str a, .str b => decide (a = b)
  | .tup a, .tup b => eqDL a b
  | _, _ => false
def eqDL : List Dt → List Dt → Bool
  | [], [] => true
  | a :: l, b :: m => eqD a b && eqDL l m
  | _, _ => false
end
end Toy


namespace Toy
open PySem PySem.Spec L2 PyProof.Rows PySem.W
def c0 (a : Str) (n : Int) (t : Str) : Dt := .tup [.tup [.str "same"], .tup [.str "none"], .tup [.str "hole"], .tup [.str "rows", .tup [.tup [.tup []], .bl true], .tup [.tup [], .bl true]]]
def c1 (a : Str) (n : Int) (t : Str) : Dt := .tup [.tup [.str "none"], .tup [.str "same"], .tup [.str "hole"], .tup [.str "rows", .tup [.tup [], .bl true], .tup [.tup [.tup []], .bl true]]]
def c2 (a : Str) (n : Int) (t : Str) : Dt := .tup [.tup [.str "same"], .tup [.str "field", .str a], .tup [.str "hole"], .tup [.str "ask", .tup [], .tup [.str "sort"]]]
def c3 (a : Str) (n : Int) (t : Str) : Dt := .tup [.tup [.str "field", .str a], .tup [.str "same"], .tup [.str "leaf", .non], .tup [.str "rows", .tup [.tup [], .bl false], .tup [.tup [.tup []], .bl true]]]
def c4 (a : Str) (n : Int) (t : Str) : Dt := .tup [.tup [.str "field", .str a], .tup [.str "same"], .tup [.str "number"], .tup [.str "rows", .tup [.tup [], .bl false], .tup [.tup [.tup []], .bl true]]]
def c5 (a : Str) (n : Int) (t : Str) : Dt := .tup [.tup [.str "same"], .tup [.str "if", .tup [.str "equal", .int n], .tup [.str "same"], .tup [.str "none"]], .tup [.str "number"], .tup [.str "ask", .tup [], .tup [.str "value"]]]
def c6 (a : Str) (n : Int) (t : Str) : Dt := .tup [.tup [.str "same"], .tup [.str "if", .tup [.str "equal", .int n], .tup [.str "same"], .tup [.str "none"]], .tup [.str "text"], .tup [.str "rows", .tup [.tup [.tup []], .bl true], .tup [.tup [], .bl true]]]
def c7 (a : Str) (n : Int) (t : Str) : Dt := .tup [.tup [.str "same"], .tup [.str "if", .tup [.str "equal", .int n], .tup [.str "same"], .tup [.str "none"]], .tup [.str "other", .str "number"], .tup [.str "rows", .tup [.tup [.tup []], .bl true], .tup [.tup [], .bl true]]]
def c8 (a : Str) (n : Int) (t : Str) : Dt := .tup [.tup [.str "same"], .tup [.str "if", .tup [.str "equal", .int n], .tup [.str "same"], .tup [.str "none"]], .tup [.str "leaf", .int n], .tup [.str "rows", .tup [.tup [.tup []], .bl true], .tup [.tup [.tup []], .bl true]]]
def c9 (a : Str) (n : Int) (t : Str) : Dt := .tup [.tup [.str "if", .tup [.str "is", .str "number"], .tup [.str "same"], .tup [.str "none"]], .tup [.str "if", .tup [.str "equal", .int n], .tup [.str "same"], .tup [.str "none"]], .tup [.str "other", .str "number"], .tup [.str "rows", .tup [.tup [.tup []], .bl true], .tup [.tup [], .bl true]]]
def c10 (a : Str) (n : Int) (t : Str) : Dt := .tup [.tup [.str "field", .str a], .tup [.str "same"], .tup [.str "dict", .tup [], .tup [.non, .non]], .tup [.str "ask", .tup [], .tup [.str "key", .str a]]]
def c11 (a : Str) (n : Int) (t : Str) : Dt := .tup [.tup [.str "field", .str a], .tup [.str "same"], .tup [.str "dict", .tup [.tup [.str a, .tup [.str "absent"]]], .tup [.non, .non]], .tup [.str "rows", .tup [.tup [], .bl false], .tup [.tup [.tup []], .bl true]]]
def c12 (a : Str) (n : Int) (t : Str) : Dt := .tup [.tup [.str "field", .str a], .tup [.str "same"], .tup [.str "dict", .tup [.tup [.str a, .tup [.str "hole"]]], .tup [.non, .non]], .tup [.str "rows", .tup [.tup [.tup [.str a]], .bl true], .tup [.tup [.tup []], .bl true]]]
def c13 (a : Str) (n : Int) (t : Str) : Dt := .tup [.tup [.str "every"], .tup [.str "field", .str a], .tup [.str "dict", .tup [.tup [.str a, .tup [.str "hole"]]], .tup [.non, .non]], .tup [.str "ask", .tup [], .tup [.str "gap", .int 0]]]
def c14 (a : Str) (n : Int) (t : Str) : Dt := .tup [.tup [.str "every"], .tup [.str "field", .str a], .tup [.str "dict", .tup [], .tup [.tup [], .non]], .tup [.str "ask", .tup [], .tup [.str "key", .str a]]]
def c15 (a : Str) (n : Int) (t : Str) : Dt := .tup [.tup [.str "every"], .tup [.str "field", .str a], .tup [.str "dict", .tup [.tup [.str a, .tup [.str "hole"]]], .tup [.tup [], .non]], .tup [.str "ask", .tup [], .tup [.str "gap", .int 1]]]
def c16 (a : Str) (n : Int) (t : Str) : Dt := .tup [.tup [.str "every"], .tup [.str "field", .str a], .tup [.str "dict", .tup [.tup [.str a, .tup [.str "hole"]]], .tup [.tup [], .tup [.tup [.str (a ++ "a"), .tup [.str "hole"]]]]], .tup [.str "rows", .tup [.tup [.tup [.str a], .tup [.str (a ++ "a")]], .bl true], .tup [.tup [.tup [.str a]], .bl true]]]
def c17 (a : Str) (n : Int) (t : Str) : Dt := .tup [.tup [.str "pipe", .tup [.str "every"], .tup [.str "field", .str a]], .tup [.str "field", .str a], .tup [.str "dict", .tup [.tup [.str a, .tup [.str "hole"]]], .tup [.tup [], .tup [.tup [.str (a ++ "a"), .tup [.str "hole"]]]]], .tup [.str "ask", .tup [.str a], .tup [.str "sort"]]]
def c18 (a : Str) (n : Int) (t : Str) : Dt := .tup [.tup [.str "item", .int 1], .tup [.str "same"], .tup [.str "list", .tup [], .bl false], .tup [.str "ask", .tup [], .tup [.str "more"]]]
def c19 (a : Str) (n : Int) (t : Str) : Dt := .tup [.tup [.str "item", .int 1], .tup [.str "same"], .tup [.str "list", .tup [.tup [.str "hole"]], .bl false], .tup [.str "ask", .tup [], .tup [.str "more"]]]
def c20 (a : Str) (n : Int) (t : Str) : Dt := .tup [.tup [.str "item", .int 1], .tup [.str "same"], .tup [.str "list", .tup [.tup [.str "hole"]], .bl true], .tup [.str "rows", .tup [.tup [], .bl false], .tup [.tup [.tup []], .bl true]]]
def c21 (a : Str) (n : Int) (t : Str) : Dt := .tup [.tup [.str "item", .int 1], .tup [.str "item", .int 0], .tup [.str "list", .tup [.tup [.str "hole"], .tup [.str "hole"]], .bl false], .tup [.str "rows", .tup [.tup [.tup [.int 1]], .bl true], .tup [.tup [.tup [.int 0]], .bl true]]]
def c22 (a : Str) (n : Int) (t : Str) : Dt := .tup [.tup [.str "every"], .tup [.str "same"], .tup [.str "list", .tup [.tup [.str "hole"]], .bl false], .tup [.str "ask", .tup [], .tup [.str "more"]]]
def c23 (a : Str) (n : Int) (t : Str) : Dt := .tup [.tup [.str "every"], .tup [.str "same"], .tup [.str "list", .tup [.tup [.str "hole"], .tup [.str "hole"]], .bl true], .tup [.str "rows", .tup [.tup [.tup [.int 0], .tup [.int 1]], .bl true], .tup [.tup [.tup []], .bl true]]]
def c24 (a : Str) (n : Int) (t : Str) : Dt := .tup [.tup [.str "pipe", .tup [.str "every"], .tup [.str "if", .tup [.str "equal", .str t], .tup [.str "same"], .tup [.str "none"]]], .tup [.str "same"], .tup [.str "list", .tup [.tup [.str "hole"]], .bl false], .tup [.str "ask", .tup [.int 0], .tup [.str "sort"]]]
def c25 (a : Str) (n : Int) (t : Str) : Dt := .tup [.tup [.str "pipe", .tup [.str "every"], .tup [.str "if", .tup [.str "equal", .str t], .tup [.str "same"], .tup [.str "none"]]], .tup [.str "same"], .tup [.str "list", .tup [.tup [.str "text"]], .bl false], .tup [.str "ask", .tup [.int 0], .tup [.str "value"]]]
def c26 (a : Str) (n : Int) (t : Str) : Dt := .tup [.tup [.str "pipe", .tup [.str "every"], .tup [.str "if", .tup [.str "equal", .str t], .tup [.str "same"], .tup [.str "none"]]], .tup [.str "same"], .tup [.str "list", .tup [.tup [.str "leaf", .str t]], .bl false], .tup [.str "ask", .tup [], .tup [.str "more"]]]
def c27 (a : Str) (n : Int) (t : Str) : Dt := .tup [.tup [.str "pipe", .tup [.str "every"], .tup [.str "field", .str a]], .tup [.str "every"], .tup [.str "list", .tup [.tup [.str "leaf", .non], .tup [.str "hole"]], .bl false], .tup [.str "ask", .tup [], .tup [.str "more"]]]
def c28 (a : Str) (n : Int) (t : Str) : Dt := .tup [.tup [.str "pipe", .tup [.str "every"], .tup [.str "field", .str a]], .tup [.str "same"], .tup [.str "list", .tup [.tup [.str "leaf", .non], .tup [.str "hole"]], .bl false], .tup [.str "rows", .tup [.tup [], .bl false], .tup [.tup [.tup []], .bl true]]]
def c29 (a : Str) (n : Int) (t : Str) : Dt := .tup [.tup [.str "both", .tup [.str "every"], .tup [.str "fail"]], .tup [.str "none"], .tup [.str "list", .tup [], .bl true], .tup [.str "rows", .tup [.tup [], .bl false], .tup [.tup [], .bl true]]]
def c30 (a : Str) (n : Int) (t : Str) : Dt := .tup [.tup [.str "if", .tup [.str "and", .tup [.str "is", .str "list"], .tup [.str "at", .tup [.str "item", .int 0], .tup [.str "equal", .int n]]], .tup [.str "same"], .tup [.str "none"]], .tup [.str "none"], .tup [.str "list", .tup [], .bl false], .tup [.str "ask", .tup [], .tup [.str "more"]]]
def c31 (a : Str) (n : Int) (t : Str) : Dt := .tup [.tup [.str "if", .tup [.str "and", .tup [.str "is", .str "list"], .tup [.str "at", .tup [.str "item", .int 0], .tup [.str "equal", .int n]]], .tup [.str "same"], .tup [.str "none"]], .tup [.str "none"], .tup [.str "list", .tup [.tup [.str "hole"]], .bl false], .tup [.str "ask", .tup [.int 0], .tup [.str "sort"]]]
def c32 (a : Str) (n : Int) (t : Str) : Dt := .tup [.tup [.str "if", .tup [.str "and", .tup [.str "is", .str "list"], .tup [.str "at", .tup [.str "item", .int 0], .tup [.str "equal", .int n]]], .tup [.str "same"], .tup [.str "none"]], .tup [.str "none"], .tup [.str "text"], .tup [.str "rows", .tup [.tup [], .bl true], .tup [.tup [], .bl true]]]
def c33 (a : Str) (n : Int) (t : Str) : Dt := .tup [.tup [.str "if", .tup [.str "or", .tup [.str "is", .str "list"], .tup [.str "equal", .str t]], .tup [.str "same"], .tup [.str "none"]], .tup [.str "none"], .tup [.str "list", .tup [], .bl false], .tup [.str "rows", .tup [.tup [.tup []], .bl true], .tup [.tup [], .bl true]]]
def c34 (a : Str) (n : Int) (t : Str) : Dt := .tup [.tup [.str "if", .tup [.str "or", .tup [.str "is", .str "list"], .tup [.str "equal", .str t]], .tup [.str "same"], .tup [.str "none"]], .tup [.str "none"], .tup [.str "text"], .tup [.str "ask", .tup [], .tup [.str "value"]]]
def c35 (a : Str) (n : Int) (t : Str) : Dt := .tup [.tup [.str "try", .tup [.str "item", .int 0]], .tup [.str "other", .tup [.str "item", .int 0], .tup [.str "same"]], .tup [.str "leaf", .bl true], .tup [.str "rows", .tup [.tup [], .bl true], .tup [.tup [], .bl false]]]
def fieldsOf : Dt → List Str
  | .tup [.str "field", .str k] => [k]
  | _ => []
def okC (fs : List Str) : Dt → Bool
  | .tup [f, g, s, d] => (match sketchT fs f g s with
    | some x => eqD x d
    | none => false)
  | _ => false
theorem t0 : ∀ a ∈ (["a", "zzzz"] : List Str), ∀ n ∈ ([0, 7] : List Int), ∀ t ∈ (["", "x"] : List Str), okC [] (c0 a n t) = true := by decide +kernel
theorem t1 : ∀ a ∈ (["a", "zzzz"] : List Str), ∀ n ∈ ([0, 7] : List Int), ∀ t ∈ (["", "x"] : List Str), okC [] (c1 a n t) = true := by decide +kernel
theorem t2 : ∀ a ∈ (["a", "zzzz"] : List Str), ∀ n ∈ ([0, 7] : List Int), ∀ t ∈ (["", "x"] : List Str), okC [a] (c2 a n t) = true := by decide +kernel
theorem t3 : ∀ a ∈ (["a", "zzzz"] : List Str), ∀ n ∈ ([0, 7] : List Int), ∀ t ∈ (["", "x"] : List Str), okC [a] (c3 a n t) = true := by decide +kernel
theorem t4 : ∀ a ∈ (["a", "zzzz"] : List Str), ∀ n ∈ ([0, 7] : List Int), ∀ t ∈ (["", "x"] : List Str), okC [a] (c4 a n t) = true := by decide +kernel
theorem t5 : ∀ a ∈ (["a", "zzzz"] : List Str), ∀ n ∈ ([0, 7] : List Int), ∀ t ∈ (["", "x"] : List Str), okC [] (c5 a n t) = true := by decide +kernel
theorem t6 : ∀ a ∈ (["a", "zzzz"] : List Str), ∀ n ∈ ([0, 7] : List Int), ∀ t ∈ (["", "x"] : List Str), okC [] (c6 a n t) = true := by decide +kernel
theorem t7 : ∀ a ∈ (["a", "zzzz"] : List Str), ∀ n ∈ ([0, 7] : List Int), ∀ t ∈ (["", "x"] : List Str), okC [] (c7 a n t) = true := by decide +kernel
theorem t8 : ∀ a ∈ (["a", "zzzz"] : List Str), ∀ n ∈ ([0, 7] : List Int), ∀ t ∈ (["", "x"] : List Str), okC [] (c8 a n t) = true := by decide +kernel
theorem t9 : ∀ a ∈ (["a", "zzzz"] : List Str), ∀ n ∈ ([0, 7] : List Int), ∀ t ∈ (["", "x"] : List Str), okC [] (c9 a n t) = true := by decide +kernel
theorem t10 : ∀ a ∈ (["a", "zzzz"] : List Str), ∀ n ∈ ([0, 7] : List Int), ∀ t ∈ (["", "x"] : List Str), okC [a] (c10 a n t) = true := by decide +kernel
theorem t11 : ∀ a ∈ (["a", "zzzz"] : List Str), ∀ n ∈ ([0, 7] : List Int), ∀ t ∈ (["", "x"] : List Str), okC [a] (c11 a n t) = true := by decide +kernel
theorem t12 : ∀ a ∈ (["a", "zzzz"] : List Str), ∀ n ∈ ([0, 7] : List Int), ∀ t ∈ (["", "x"] : List Str), okC [a] (c12 a n t) = true := by decide +kernel
theorem t13 : ∀ a ∈ (["a", "zzzz"] : List Str), ∀ n ∈ ([0, 7] : List Int), ∀ t ∈ (["", "x"] : List Str), okC [a] (c13 a n t) = true := by decide +kernel
theorem t14 : ∀ a ∈ (["a", "zzzz"] : List Str), ∀ n ∈ ([0, 7] : List Int), ∀ t ∈ (["", "x"] : List Str), okC [a] (c14 a n t) = true := by decide +kernel
theorem t15 : ∀ a ∈ (["a", "zzzz"] : List Str), ∀ n ∈ ([0, 7] : List Int), ∀ t ∈ (["", "x"] : List Str), okC [a] (c15 a n t) = true := by decide +kernel
theorem t16 : ∀ a ∈ (["a", "zzzz"] : List Str), ∀ n ∈ ([0, 7] : List Int), ∀ t ∈ (["", "x"] : List Str), okC [a] (c16 a n t) = true := by decide +kernel
theorem t17 : ∀ a ∈ (["a", "zzzz"] : List Str), ∀ n ∈ ([0, 7] : List Int), ∀ t ∈ (["", "x"] : List Str), okC [a] (c17 a n t) = true := by decide +kernel
theorem t18 : ∀ a ∈ (["a", "zzzz"] : List Str), ∀ n ∈ ([0, 7] : List Int), ∀ t ∈ (["", "x"] : List Str), okC [] (c18 a n t) = true := by decide +kernel
theorem t19 : ∀ a ∈ (["a", "zzzz"] : List Str), ∀ n ∈ ([0, 7] : List Int), ∀ t ∈ (["", "x"] : List Str), okC [] (c19 a n t) = true := by decide +kernel
theorem t20 : ∀ a ∈ (["a", "zzzz"] : List Str), ∀ n ∈ ([0, 7] : List Int), ∀ t ∈ (["", "x"] : List Str), okC [] (c20 a n t) = true := by decide +kernel
theorem t21 : ∀ a ∈ (["a", "zzzz"] : List Str), ∀ n ∈ ([0, 7] : List Int), ∀ t ∈ (["", "x"] : List Str), okC [] (c21 a n t) = true := by decide +kernel
theorem t22 : ∀ a ∈ (["a", "zzzz"] : List Str), ∀ n ∈ ([0, 7] : List Int), ∀ t ∈ (["", "x"] : List Str), okC [] (c22 a n t) = true := by decide +kernel
theorem t23 : ∀ a ∈ (["a", "zzzz"] : List Str), ∀ n ∈ ([0, 7] : List Int), ∀ t ∈ (["", "x"] : List Str), okC [] (c23 a n t) = true := by decide +kernel
theorem t24 : ∀ a ∈ (["a", "zzzz"] : List Str), ∀ n ∈ ([0, 7] : List Int), ∀ t ∈ (["", "x"] : List Str), okC [] (c24 a n t) = true := by decide +kernel
theorem t25 : ∀ a ∈ (["a", "zzzz"] : List Str), ∀ n ∈ ([0, 7] : List Int), ∀ t ∈ (["", "x"] : List Str), okC [] (c25 a n t) = true := by decide +kernel
theorem t26 : ∀ a ∈ (["a", "zzzz"] : List Str), ∀ n ∈ ([0, 7] : List Int), ∀ t ∈ (["", "x"] : List Str), okC [] (c26 a n t) = true := by decide +kernel
theorem t27 : ∀ a ∈ (["a", "zzzz"] : List Str), ∀ n ∈ ([0, 7] : List Int), ∀ t ∈ (["", "x"] : List Str), okC [a] (c27 a n t) = true := by decide +kernel
theorem t28 : ∀ a ∈ (["a", "zzzz"] : List Str), ∀ n ∈ ([0, 7] : List Int), ∀ t ∈ (["", "x"] : List Str), okC [a] (c28 a n t) = true := by decide +kernel
theorem t29 : ∀ a ∈ (["a", "zzzz"] : List Str), ∀ n ∈ ([0, 7] : List Int), ∀ t ∈ (["", "x"] : List Str), okC [] (c29 a n t) = true := by decide +kernel
theorem t30 : ∀ a ∈ (["a", "zzzz"] : List Str), ∀ n ∈ ([0, 7] : List Int), ∀ t ∈ (["", "x"] : List Str), okC [] (c30 a n t) = true := by decide +kernel
theorem t31 : ∀ a ∈ (["a", "zzzz"] : List Str), ∀ n ∈ ([0, 7] : List Int), ∀ t ∈ (["", "x"] : List Str), okC [] (c31 a n t) = true := by decide +kernel
theorem t32 : ∀ a ∈ (["a", "zzzz"] : List Str), ∀ n ∈ ([0, 7] : List Int), ∀ t ∈ (["", "x"] : List Str), okC [] (c32 a n t) = true := by decide +kernel
theorem t33 : ∀ a ∈ (["a", "zzzz"] : List Str), ∀ n ∈ ([0, 7] : List Int), ∀ t ∈ (["", "x"] : List Str), okC [] (c33 a n t) = true := by decide +kernel
theorem t34 : ∀ a ∈ (["a", "zzzz"] : List Str), ∀ n ∈ ([0, 7] : List Int), ∀ t ∈ (["", "x"] : List Str), okC [] (c34 a n t) = true := by decide +kernel
theorem t35 : ∀ a ∈ (["a", "zzzz"] : List Str), ∀ n ∈ ([0, 7] : List Int), ∀ t ∈ (["", "x"] : List Str), okC [] (c35 a n t) = true := by decide +kernel
end Toy


namespace Toy
open PySem PySem.Spec L2 PyProof.Rows PySem.W
/-! ### values that stay: tuples and leaves -/
mutual
def noq : Dt → Bool
  | .tup l => noqL l
  | .opq => false
  | .non => true
  | .bl _ => true
  | .int _ => true
  | .str _ => true
def noqL : List Dt → Bool
  | [] => true
  | t :: l => noq t && noqL l
end
theorem noqL_mem : ∀ {l : List Dt} {t : Dt}, noqL l = true → t ∈ l → noq t = true
  | e :: l, t, h, hm => by
    simp only [noqL, Bool.and_eq_true] at h
    rcases List.mem_cons.mp hm with rfl | hm
    · exact h.1
    · exact noqL_mem h.2 hm
theorem noqL_of : ∀ {l : List Dt}, (∀ t ∈ l, noq t = true) → noqL l = true
  | [], _ => by simp [noqL]
  | e :: l, h => by
    simp only [noqL, Bool.and_eq_true]
    exact ⟨h e List.mem_cons_self, noqL_of fun t ht => h t (List.mem_cons_of_mem _ ht)⟩
def Pt (K : PySem.W.Frag) (H : Hp) (v : V) (t : Dt) : Prop := Dv K H v t ∧ noq t = true
def PtL (K : PySem.W.Frag) (H : Hp) (vs : List V) (ts : List Dt) : Prop := DvL K H vs ts ∧ noqL ts = true
section
variable {K : PySem.W.Frag} {H H' : Hp} {v u : V} {t r : Dt} {vs us : List V} {ts rs : List Dt} {a : Addr}
theorem Pt.same (h : Pt K H v t) (s : Same H H') : Pt K H' v t := ⟨dvM s h.1, h.2⟩
theorem PtL.same (h : PtL K H vs ts) (s : Same H H') : PtL K H' vs ts := ⟨dvLM s h.1, h.2⟩
theorem ptl_nil : PtL K H [] [] := ⟨.nil, by simp [noqL]⟩
theorem ptl_cons (h : Pt K H v t) (k : PtL K H vs ts) : PtL K H (v :: vs) (t :: ts) := ⟨.cons h.1 k.1, by simp [noqL, h.2, k.2]⟩
theorem pt_tup (h : SqT K H a vs) (k : PtL K H vs ts) : Pt K H (.ref a) (.tup ts) := ⟨.tup h k.1, by simpa [noq] using k.2⟩
theorem pt_non : Pt K H .non .non := ⟨.non, by simp [noq]⟩
theorem pt_bl (b : Bool) : Pt K H (.bl b) (.bl b) := ⟨.bl b, by simp [noq]⟩
theorem pt_int (b : Int) : Pt K H (.int b) (.int b) := ⟨.int b, by simp [noq]⟩
theorem pt_str (b : Str) : Pt K H (.str b) (.str b) := ⟨.str b, by simp [noq]⟩
theorem Pt.tup (h : Pt K H v (.tup ts)) : ∃ a us, v = .ref a ∧ SqT K H a us ∧ PtL K H us ts := by
  obtain ⟨h1, h2⟩ := h
  cases h1 with
  | tup e d => exact ⟨_, _, rfl, e, d, by simpa [noq] using h2⟩
theorem Pt.str {x : Str} (h : Pt K H v (.str x)) : v = .str x := by
  obtain ⟨h1, h2⟩ := h
  cases h1
  rfl
theorem Pt.int {x : Int} (h : Pt K H v (.int x)) : v = .int x := by
  obtain ⟨h1, h2⟩ := h
  cases h1
  rfl
theorem Pt.bl {x : Bool} (h : Pt K H v (.bl x)) : v = .bl x := by
  obtain ⟨h1, h2⟩ := h
  cases h1
  rfl
theorem Pt.non (h : Pt K H v .non) : v = .non := by
  obtain ⟨h1, h2⟩ := h
  cases h1
  rfl
theorem PtL.cons (h : PtL K H vs (t :: ts)) : ∃ v us, vs = v :: us ∧ Pt K H v t ∧ PtL K H us ts := by
  obtain ⟨h1, h2⟩ := h
  simp only [noqL, Bool.and_eq_true] at h2
  cases h1 with
  | cons a b => exact ⟨_, _, rfl, ⟨a, h2.1⟩, b, h2.2⟩
theorem PtL.nil (h : PtL K H vs []) : vs = [] := by
  obtain ⟨h1, _⟩ := h
  cases h1
  rfl
theorem PtL.len (h : PtL K H vs ts) : vs.length = ts.length := dvl_len h.1
theorem PtL.get {i : Nat} (h : PtL K H vs ts) (e : vs[i]? = some v) : ∃ t, ts[i]? = some t ∧ Pt K H v t := by
  obtain ⟨t, e1, e2⟩ := dvl_get h.1 e
  exact ⟨t, e1, e2, noqL_mem h.2 (List.mem_of_getElem? e1)⟩
theorem PtL.get' {i : Nat} (h : PtL K H vs ts) (e : ts[i]? = some t) : ∃ v, vs[i]? = some v ∧ Pt K H v t := by
  have hi := (List.getElem?_eq_some_iff.mp e).1
  obtain ⟨t', e1, e2⟩ := h.get (List.getElem?_eq_getElem (show i < vs.length by rw [h.len]; exact hi))
  rw [e] at e1
  cases e1
  exact ⟨_, List.getElem?_eq_getElem _, e2⟩
theorem PtL.app (h : PtL K H vs ts) (k : PtL K H us rs) : PtL K H (vs ++ us) (ts ++ rs) := by
  refine ⟨dvl_app h.1 k.1, noqL_of fun t ht => ?_⟩
  rcases List.mem_append.mp ht with ht | ht
  · exact noqL_mem h.2 ht
  · exact noqL_mem k.2 ht
theorem PtL.take (h : PtL K H vs ts) (n : Nat) : PtL K H (vs.take n) (ts.take n) := ⟨dvl_take n h.1, noqL_of fun t ht => noqL_mem h.2 (List.mem_of_mem_take ht)⟩
theorem PtL.drop (h : PtL K H vs ts) (n : Nat) : PtL K H (vs.drop n) (ts.drop n) := ⟨dvl_drop n h.1, noqL_of fun t ht => noqL_mem h.2 (List.mem_of_mem_drop ht)⟩
mutual
theorem dv_dp : ∀ {v : V} {t : Dt}, Dv K H v t → noq t = true → Dp K H v (toPy t)
  | _, _, .non, _ => by simp only [toPy]; exact .non
  | _, _, .bl b, _ => by simp only [toPy]; exact .bl b
  | _, _, .int b, _ => by simp only [toPy]; exact .int b
  | _, _, .str b, _ => by simp only [toPy]; exact .str b
  | _, _, .tup h d, n => by simp only [toPy]; exact .tup h (dv_dpL d (by simpa [noq] using n))
  | _, _, .lst _, n => by simp [noq] at n
  | _, _, .dct _, n => by simp [noq] at n
theorem dv_dpL : ∀ {vs : List V} {ts : List Dt}, DvL K H vs ts → noqL ts = true → DpAll K H vs (toPyL ts)
  | _, _, .nil, _ => by simp only [toPyL]; exact .nil
  | _, _, .cons a b, n => by
    simp only [noqL, Bool.and_eq_true] at n
    simp only [toPyL]
    exact .cons (dv_dp a n.1) (dv_dpL b n.2)
end
end
theorem eqv_abs (t : Dt) : (toPy t).eqv (.tuple [.str "absent"]) = isAbs t := by
  cases t with
  | tup l =>
    match l with
    | [] => simp [toPy, toPyL, PyData.eqv, PyData.eqvAll, isAbs]
    | [x] =>
      cases x with
      | str w =>
        simp only [toPy, toPyL, PyData.eqv, PyData.eqvAll, isAbs, Bool.and_true]
        by_cases h : w = "absent"
        · subst h; simp
        · rw [decide_eq_false h]
          exact beq_eq_false_iff_ne.mpr h
      | _ => simp [toPy, toPyL, PyData.eqv, PyData.eqvAll, isAbs]
    | _ :: _ :: _ => simp [toPy, toPyL, PyData.eqv, PyData.eqvAll, isAbs]
  | _ => simp [toPy, PyData.eqv, isAbs]
theorem seq_postS {a rest : TS} {D : Ends} {σ : L2.St} {H : Hp} (Post : L2.St → Hp → Prop) (h1 : ∀ r : TS, (∀ σ3 H3, Post σ3 H3 → r D σ3 H3) → tSeq a r D σ H) (h2 : ∀ σ3 H3, Post σ3 H3 → rest D σ3 H3) : tSeq a rest D σ H := h1 rest h2
theorem ifl_valS {c : TT} {a b : TS} {v : Bool} {D : Ends} {σ : L2.St} {H : Hp} (h : ∀ Q : Bool → Hp → Prop, (∀ H', Same H H' → Q v H') → c σ H Q) (qt : v = true → ∀ H', Same H H' → a D σ H') (qf : v = false → ∀ H', Same H H' → b D σ H') : tIfS c a b D σ H := by
  refine h _ fun H' s => ?_
  cases v with
  | true => exact iteT (qt rfl H' s)
  | false => exact iteF (qf rfl H' s)
theorem tand_valS {t u : TT} {b c : Bool} {σ : L2.St} {H : Hp} {Q : Bool → Hp → Prop} (h1 : ∀ Q : Bool → Hp → Prop, (∀ H', Same H H' → Q b H') → t σ H Q) (h2 : b = true → ∀ H1, Same H H1 → ∀ Q : Bool → Hp → Prop, (∀ H', Same H1 H' → Q c H') → u σ H1 Q) (q : ∀ H', Same H H' → Q (b && c) H') : tAnd t u σ H Q := by
  refine h1 _ fun H1 s1 => ?_
  cases b with
  | true => exact iteT (h2 rfl H1 s1 _ fun H2 s2 => q H2 (s1.trans s2))
  | false => exact iteF (q H1 s1)
theorem tor_valS {t u : TT} {b c : Bool} {σ : L2.St} {H : Hp} {Q : Bool → Hp → Prop} (h1 : ∀ Q : Bool → Hp → Prop, (∀ H', Same H H' → Q b H') → t σ H Q) (h2 : b = false → ∀ H1, Same H H1 → ∀ Q : Bool → Hp → Prop, (∀ H', Same H1 H' → Q c H') → u σ H1 Q) (q : ∀ H', Same H H' → Q (b || c) H') : tOr t u σ H Q := by
  refine h1 _ fun H1 s1 => ?_
  cases b with
  | true => exact iteT (q H1 s1)
  | false => exact iteF (h2 rfl H1 s1 _ fun H2 s2 => q H2 (s1.trans s2))
end Toy


namespace Toy
open PySem PySem.Spec L2 PyProof.Rows PySem.W
/-! ### what never runs -/
def tNvS : TS := fun _ _ _ => False
def tNvE : TE := fun _ _ _ => False
def tNvT : TT := fun _ _ _ => False
theorem ps_nv {X : Cx} {st : Stmt} : PS X st tNvS := ⟨fun _ _ _ _ _ _ h => h.elim⟩
theorem pss_nv {X : Cx} {l : List Stmt} : PSs X l tNvS := ⟨fun _ _ _ _ _ _ h => h.elim⟩
theorem pe_nv {X : Cx} {e : Expr} : PE X e tNvE := ⟨fun _ _ _ _ _ _ h => h.elim⟩
theorem pt_nv {X : Cx} {e : Expr} : PT X e tNvT := ⟨fun _ _ _ _ _ _ h => h.elim⟩
/-! ### sorts, leaves, nodes -/
def spInt (K : PySem.W.Frag) : Sp := fun vs H Q _ => ∃ v t, vs = [v] ∧ Pt K H v t ∧ Q (.bl (intD t)) H
def spSo (K : PySem.W.Frag) : Sp := fun vs H Q _ => ∃ v t, vs = [v] ∧ Pt K H v t ∧ Q (.str (sortT t)) H
def spAl (K : PySem.W.Frag) : Sp := fun vs H Q _ => ∃ v t u r, vs = [v, u] ∧ Pt K H v t ∧ Pt K H u r ∧ isLf t = true ∧ isLf r = true ∧ ∀ H', Same H H' → Q (.bl (leafEq t r)) H'
/-- what comes back is the datum that is told -/
def Gives (K : PySem.W.Frag) (H : Hp) (Q : VK) : Option Dt → Prop
  | none => False
  | some r => ∀ H' v, Same H H' → Pt K H' v r → Q v H'
def spNi (K : PySem.W.Frag) : Sp := fun vs H Q _ => ∃ v t u r, vs = [v, u] ∧ Pt K H v t ∧ Pt K H u r ∧ Gives K H Q (nodeIn t r)
def spNa (K : PySem.W.Frag) : Sp := fun vs H Q _ => ∃ v t u r, vs = [v, u] ∧ Pt K H v t ∧ Pt K H u (.tup r) ∧ Gives K H Q (nodeAt t r)
def spSk (K : PySem.W.Frag) : Sp := fun vs H Q _ => ∃ v w rest, vs = [v] ∧ Pt K H v (.tup (.str w :: rest)) ∧ match sortK w rest with
  | none => False
  | some x => Q (.str x) H
theorem scSo : FnScope ["datum"] ["datum"] (defScope sSo) := ⟨rfl, rfl, rfl, by decide +kernel, rfl, by decide +kernel, by decide +kernel⟩
theorem scAl : FnScope ["one", "other", "sort", "steps", "step"] ["one", "other"] (defScope sAl) := ⟨rfl, rfl, rfl, by decide +kernel, rfl, by decide +kernel, by decide +kernel⟩
abbrev NNi : List Str := ["node", "step", "key", "part", "gap"]
theorem scNi : FnScope NNi ["node", "step"] (defScope sNi) := ⟨rfl, rfl, rfl, by decide +kernel, rfl, by decide +kernel, by decide +kernel⟩
theorem scNa' : FnScope ["node", "place", "step"] ["node", "place"] (defScope sNa) := ⟨rfl, rfl, rfl, by decide +kernel, rfl, by decide +kernel, by decide +kernel⟩
theorem scSk : FnScope ["node", "word"] ["node"] (defScope sSk) := ⟨rfl, rfl, rfl, by decide +kernel, rfl, by decide +kernel, by decide +kernel⟩
theorem lf_cases {t : Dt} (h : isLf t = true) : t = .non ∨ t = .bl true ∨ t = .bl false ∨ (∃ i, t = .int i) ∨ ∃ x, t = .str x := by
  cases t with
  | non => exact .inl rfl
  | bl b =>
    cases b
    · exact .inr (.inr (.inl rfl))
    · exact .inr (.inl rfl)
  | int i => exact .inr (.inr (.inr (.inl ⟨i, rfl⟩)))
  | str x => exact .inr (.inr (.inr (.inr ⟨x, rfl⟩)))
  | tup l => cases h
  | opq => cases h
theorem leaf_off {t r : Dt} (lt : isLf t = true) (lr : isLf r = true) (e : ¬ sortT t = sortT r) : leafEq t r = false := by
  rcases lf_cases lt with rfl | rfl | rfl | ⟨i, rfl⟩ | ⟨x, rfl⟩ <;> rcases lf_cases lr with rfl | rfl | rfl | ⟨j, rfl⟩ | ⟨y, rfl⟩ <;> first | rfl | exact absurd rfl e
theorem leaf_key {K : PySem.W.Frag} {H : Hp} {v u : V} {t r : Dt} (hv : Pt K H v t) (hu : Pt K H u r) (lt : isLf t = true) (lr : isLf r = true) (e : sortT t = sortT r) : scal v u = true ∧ decide (v = u) = leafEq t r ∧ inV (.str (sortT t)) [.str "list", .str "dict"] = false := by
  rcases lf_cases lt with rfl | rfl | rfl | ⟨i, rfl⟩ | ⟨x, rfl⟩ <;> rcases lf_cases lr with rfl | rfl | rfl | ⟨j, rfl⟩ | ⟨y, rfl⟩
  all_goals first | exact absurd e (by simp only [sortT]; decide +kernel) | skip
  · obtain rfl := hv.non; obtain rfl := hu.non; exact ⟨rfl, rfl, by decide +kernel⟩
  · obtain rfl := hv.bl; obtain rfl := hu.bl; exact ⟨rfl, rfl, by decide +kernel⟩
  · obtain rfl := hv.bl; obtain rfl := hu.bl; exact ⟨rfl, rfl, by decide +kernel⟩
  · obtain rfl := hv.int; obtain rfl := hu.int; exact ⟨rfl, by simp [leafEq], by simp only [sortT]; decide +kernel⟩
  · obtain rfl := hv.str; obtain rfl := hu.str; exact ⟨rfl, by simp [leafEq], by simp only [sortT]; decide +kernel⟩
section
variable {P : Program} {w : World} {K : PySem.W.Frag} {mg : Str → Option Value} {base : Heap}
theorem ok_int {f : Addr} {fd : FuncData} (F : Fun K "is_integer" "is_integer" sIsInt f fd) (mI : mg "isinstance" = none) (mB : mg "bool" = none) (mN : mg "int" = none) : FnOk P w K mg base CX0 1 f fd ["value"] (spInt K) := by
  refine F.ok scV1 (fun vs H Q E h => ?_) (fun cdv A outer s H vs Q E hr h => ?_)
  · obtain ⟨v, t, rfl, _⟩ := h
    rfl
  · obtain ⟨v, t, rfl, hv, q⟩ := h
    refine ⟨_, pss_one (ps_ret (pe_and (pe_callB call_isi (by rfl) mI PyProof.Rows.boot_isinstance (pa_cons (pv 0) (pa_cons (pe_bltn (v := .ty "int") (by rfl) mN (by decide +kernel) rfl) pa_nil))) (pe_one (pe_not (pe_callB call_isi (by rfl) mI PyProof.Rows.boot_isinstance (pa_cons (pv 0) (pa_cons (pe_bltn (v := .ty "bool") (by rfl) mB (by decide +kernel) rfl) pa_nil))))))), ?_⟩
    refine ⟨_, rfl, isI hv.1 ⟨_, rfl, ?_⟩⟩
    obtain ⟨hv, _⟩ := hv
    cases hv with
    | int i => exact iteT ⟨_, rfl, isB (.int i) ⟨_, rfl, q⟩⟩
    | bl b => exact iteT ⟨_, rfl, isB (.bl b) ⟨_, rfl, q⟩⟩
    | str x => exact iteF q
    | non => exact iteF q
    | tup _ _ => exact iteF q
    | lst _ => exact iteF q
    | dct _ => exact iteF q
theorem ok_so {f : Addr} {fd : FuncData} (F : Fun K "sort_of" "sort_of" sSo f fd) (mI : mg "isinstance" = none) (mB : mg "bool" = none) (mN : mg "int" = none) (mS : mg "str" = none) (mL : mg "list" = none) : FnOk P w K mg base CX0 1 f fd ["datum"] (spSo K) := by
  refine F.ok scSo (fun vs H Q E h => ?_) (fun cdv A outer s H vs Q E hr h => ?_)
  · obtain ⟨v, t, rfl, _⟩ := h
    rfl
  · obtain ⟨v, t, rfl, hv, q⟩ := h
    refine ⟨_, pss_cons (ps_if (pt_cmpR op_isN (pv 0) pe_non (nomark _)) (pss_one (ps_ret pe_str)) pss_nil)
      (pss_cons (ps_if (pt_val (pe_callB call_isi (by rfl) mI PyProof.Rows.boot_isinstance (pa_cons (pv 0) (pa_cons (pe_bltn (v := .ty "bool") (by rfl) mB (by decide +kernel) rfl) pa_nil)))) (pss_one (ps_ret (pe_ifExp (pt_truth (pv 0) (by intro _; rfl)) pe_str pe_str))) pss_nil)
      (pss_cons (ps_if (pt_val (pe_callB call_isi (by rfl) mI PyProof.Rows.boot_isinstance (pa_cons (pv 0) (pa_cons (pe_bltn (v := .ty "int") (by rfl) mN (by decide +kernel) rfl) pa_nil)))) (pss_one (ps_ret pe_str)) pss_nil)
      (pss_cons (ps_if (pt_val (pe_callB call_isi (by rfl) mI PyProof.Rows.boot_isinstance (pa_cons (pv 0) (pa_cons (pe_bltn (v := .ty "str") (by rfl) mS (by decide +kernel) rfl) pa_nil)))) (pss_one (ps_ret pe_str)) pss_nil)
      (pss_one (ps_ret (pe_ifExp (pt_val (pe_callB call_isi (by rfl) mI PyProof.Rows.boot_isinstance (pa_cons (pv 0) (pa_cons (pe_bltn (v := .ty "list") (by rfl) mL (by decide +kernel) rfl) pa_nil)))) pe_str pe_str)))))), ?_⟩
    obtain ⟨hv, hn⟩ := hv
    refine ⟨_, rfl, rfl, _, rfl, ?_⟩
    cases hv with
    | non => exact iteT q
    | bl b =>
      refine iteF ⟨_, rfl, isB (.bl b) ⟨_, rfl, iteT ⟨_, rfl, b, rfl, ?_⟩⟩⟩
      cases b with
      | true => exact iteT q
      | false => exact iteF q
    | int i => exact iteF ⟨_, rfl, isB (.int i) ⟨_, rfl, iteF ⟨_, rfl, isI (.int i) ⟨_, rfl, iteT q⟩⟩⟩⟩
    | str x => exact iteF ⟨_, rfl, isB (.str x) ⟨_, rfl, iteF ⟨_, rfl, isI (.str x) ⟨_, rfl, iteF ⟨_, rfl, isS (.str x) ⟨_, rfl, iteT q⟩⟩⟩⟩⟩⟩
    | tup h d => exact iteF ⟨_, rfl, isB (.tup h d) ⟨_, rfl, iteF ⟨_, rfl, isI (.tup h d) ⟨_, rfl, iteF ⟨_, rfl, isS (.tup h d) ⟨_, rfl, iteF ⟨_, rfl, ⟨_, _, _, _, _, rfl, .ty _, tyT h, kit_ty (r := false) (by decide +kernel), _, rfl, iteF q⟩⟩⟩⟩⟩⟩⟩⟩
    | lst _ => simp [noq] at hn
    | dct _ => simp [noq] at hn
theorem ok_al {f fS : Addr} {fd dS : FuncData} (F : Fun K "alike" "alike" sAl f fd) (GS : FnOk P w K mg base CX0 1 fS dS ["datum"] (spSo K)) (mS : mg "sort_of" = some (.ref fS)) (kS : PySem.W.keepIn K (.ref fS) = true) (bS : Binds K dS ["datum"] [])
    {fSt : Addr} {dSt : FuncData} (mAll : mg "all" = none) : FnOk P w K mg base CX0 2 f fd ["one", "other"] (spAl K) := by
  refine F.ok (k := 1) scAl (fun vs H Q E h => ?_) (fun cdv A outer s H vs Q E hr h => ?_)
  · obtain ⟨v, t, u, r, rfl, _⟩ := h
    rfl
  · obtain ⟨v, t, u, r, rfl, hv, hu, lt, lr, q⟩ := h
    refine ⟨_, pss_cons (ps_set (i := 2) scAl.nd rfl (Or.inl rfl) (pe_call GS hr (by rfl) mS kS bS .nil pass0 (pa_cons (pv 0) pa_nil)))
      (pss_cons (ps_if (pt_cmpR op_ne (pv 2) (pe_call GS hr (by rfl) mS kS bS .nil pass0 (pa_cons (pv 1) pa_nil)) (nomark _)) (pss_one (ps_ret pe_bl)) pss_nil)
      (pss_cons (ps_if (pt_cmpR op_notIn_seq (pv 2) (pe_tup (pa_cons pe_str (pa_cons pe_str pa_nil))) (by rfl)) (pss_one (ps_ret (pe_cmpR op_eq (pv 0) (pv 1) (nomark _)))) pss_nil) pss_nv)), ?_⟩
    refine asg_run ⟨_, rfl, v, t, rfl, hv, ?_⟩
    refine ⟨_, rfl, _, rfl, u, r, rfl, hu, rfl, _, rfl, ?_⟩
    have e1 : (!decide (V.str (sortT t) = V.str (sortT r))) = !decide (sortT t = sortT r) := by rw [dec_s]
    rw [e1]
    refine ite2 (fun c => ?_) (fun c => ?_)
    · have c : ¬ sortT t = sortT r := by simpa using c
      rw [leaf_off lt lr c] at q
      exact q H same_id
    · have c : sortT t = sortT r := by simpa using c
      obtain ⟨k1, k2, k3⟩ := leaf_key hv hu lt lr c
      refine nx_run ?_
      dsimp only
      refine ⟨_, rfl, few (by show 2 ≤ 1000; decide), fun T nT => ?_⟩
      have sT := same_new (u := .tup [.str "list", .str "dict"]) (same_id (H := H)) nT
      refine ⟨T, _, rfl, .inr (SqT.of upd_same), rfl, rfl, _, rfl, ?_⟩
      have e2 : (if true = true then !inV (V.str (sortT t)) [V.str "list", V.str "dict"] else inV (V.str (sortT t)) [V.str "list", V.str "dict"]) = true := by rw [if_pos rfl, k3]; rfl
      rw [e2]
      refine iteT (ret_run ⟨_, rfl, _, rfl, k1, ?_⟩)
      rw [k2]
      exact q _ sT
theorem ok_sk {f fS : Addr} {fd dS : FuncData} (F : Fun K "sort_known" "sort_known" sSk f fd) (GS : FnOk P w K mg base CX0 1 fS dS ["datum"] (spSo K)) (mS : mg "sort_of" = some (.ref fS)) (kS : PySem.W.keepIn K (.ref fS) = true) (bS : Binds K dS ["datum"] []) : FnOk P w K mg base CX0 2 f fd ["node"] (spSk K) := by
  refine F.ok (k := 1) scSk (fun vs H Q E h => ?_) (fun cdv A outer s H vs Q E hr h => ?_)
  · obtain ⟨v, wd, rest, rfl, _⟩ := h
    rfl
  · obtain ⟨v, wd, rest, rfl, hv, q⟩ := h
    obtain ⟨a, us, rfl, hs, hl⟩ := hv.tup
    obtain ⟨v0, us1, rfl, h0, hl1⟩ := hl.cons
    obtain rfl := h0.str
    refine ⟨_, pss_cons (ps_set (i := 1) scSk.nd rfl (Or.inl rfl) (pe_ix ix_tup (pv 0) pe_int (fun _ _ => rfl)))
      (pss_cons (ps_if (pt_cmpR op_eq (pv 1) pe_str (nomark _)) (pss_one (ps_ret (pe_call GS hr (by rfl) mS kS bS .nil pass0 (pa_cons (pe_ix ix_tup (pv 0) pe_int (fun _ _ => rfl)) pa_nil)))) pss_nil)
      (pss_cons (ps_if (pt_cmpR op_eq (pv 1) pe_str (nomark _)) pss_nv pss_nil)
      (pss_one (ps_ret (pe_ifExp (pt_cmpR op_eq (pv 1) pe_str (nomark _)) (pe_ix ix_tup (pv 0) pe_int (fun _ _ => rfl)) (pv 1)))))), ?_⟩
    refine asg_run ⟨_, rfl, a, _, 0, _, rfl, rfl, hs, at_0 _ _, ?_⟩
    unfold sortK at q
    refine ⟨_, rfl, rfl, _, rfl, ?_⟩
    rw [dec_s]
    by_cases c1 : wd = "leaf"
    · rw [if_pos c1] at q
      rw [decide_eq_true c1]
      cases rest with
      | nil => exact q.elim
      | cons t ts =>
        obtain ⟨v1, us2, rfl, h1, _⟩ := hl1.cons
        exact iteT (ret_run ⟨_, rfl, a, _, 1, v1, rfl, rfl, hs, atI_nat (j := 1) rfl, v1, t, rfl, h1, q⟩)
    rw [if_neg c1] at q
    rw [decide_eq_false c1]
    refine iteF (nx_run ?_)
    dsimp only
    refine ⟨_, rfl, rfl, _, rfl, ?_⟩
    rw [dec_s]
    by_cases c2 : wd = "among"
    · rw [if_pos c2] at q
      exact q.elim
    rw [if_neg c2] at q
    rw [decide_eq_false c2]
    refine iteF (nx_run ?_)
    dsimp only
    refine ret_run ⟨_, rfl, rfl, _, rfl, ?_⟩
    rw [dec_s]
    by_cases c3 : wd = "other"
    · rw [if_pos c3] at q
      rw [decide_eq_true c3]
      cases rest with
      | nil => exact q.elim
      | cons t ts =>
        obtain ⟨v1, us2, rfl, h1, _⟩ := hl1.cons
        cases t with
        | str x =>
          obtain rfl := h1.str
          exact iteT ⟨_, rfl, a, _, 1, _, rfl, rfl, hs, atI_nat (j := 1) rfl, q⟩
        | _ => exact q.elim
    rw [if_neg c3] at q
    rw [decide_eq_false c3]
    exact iteF ⟨_, rfl, q⟩
end
end Toy


namespace Toy
open PySem PySem.Spec L2 PyProof.Rows PySem.W
/-! ### a node in a node -/
theorem findP_step {k : Str} : ∀ (ps : List Dt) (j : Nat) (k' : Str) (part : Dt), ps[j]? = some (.tup [.str k', part]) → ¬ k' = k → findP k (ps.drop j) = findP k (ps.drop (j + 1)) := by
  intro ps j k' part h hk
  have hj := (List.getElem?_eq_some_iff.mp h).1
  rw [List.drop_eq_getElem_cons hj, (List.getElem?_eq_some_iff.mp h).2]
  rw [findP, if_neg hk]
theorem findP_here {k : Str} : ∀ (ps : List Dt) (j : Nat) (part : Dt), ps[j]? = some (.tup [.str k, part]) → findP k (ps.drop j) = some (some part) := by
  intro ps j part h
  have hj := (List.getElem?_eq_some_iff.mp h).1
  rw [List.drop_eq_getElem_cons hj, (List.getElem?_eq_some_iff.mp h).2]
  rw [findP, if_pos rfl]
theorem findP_form {k : Str} {ps : List Dt} {j : Nat} {t : Dt} {x : Option Dt} (h : ps[j]? = some t) (e : findP k (ps.drop j) = some x) : ∃ k' part, t = .tup [.str k', part] := by
  have hj := (List.getElem?_eq_some_iff.mp h).1
  rw [List.drop_eq_getElem_cons hj, (List.getElem?_eq_some_iff.mp h).2] at e
  unfold findP at e
  split at e
  · rename_i q; cases q
  · rename_i k' part r q
    injection q with q1 q2
    exact ⟨k', part, q1⟩
  · cases e
theorem getD_tup (j : Nat) (ts : List Dt) (a : Dt) (h : ts[j]? = some a) : ts.drop j = a :: ts.drop (j + 1) := by
  have hj := (List.getElem?_eq_some_iff.mp h).1
  rw [List.drop_eq_getElem_cons hj, (List.getElem?_eq_some_iff.mp h).2]
theorem dec_non {K : PySem.W.Frag} {H : Hp} {v : V} {t : Dt} (h : Pt K H v t) : decide (v = V.non) = isNonT t := by
  obtain ⟨h, n⟩ := h
  cases h <;> first | rfl | (exact decide_eq_false fun z => by cases z) | (simp [noq] at n)
theorem nodeAt_cons {t s : Dt} {r : List Dt} (h : isNonT t = false) : nodeAt t (s :: r) = match nodeIn t s with
    | some m => nodeAt m r
    | none => none := by
  cases t <;> first | rfl | cases h
theorem pair_vals {K : PySem.W.Frag} {H : Hp} {v : V} {k : Str} {p : Dt} (h : Pt K H v (.tup [.str k, p])) : ∃ a u, v = .ref a ∧ SqT K H a [.str k, u] ∧ Pt K H u p := by
  obtain ⟨a, us, rfl, h1, h2⟩ := h.tup
  obtain ⟨v0, us1, rfl, h3, h4⟩ := h2.cons
  obtain ⟨v1, us2, rfl, h5, h6⟩ := h4.cons
  obtain rfl := h6.nil
  obtain rfl := h3.str
  exact ⟨a, v1, rfl, h1, h5⟩
section
variable {P : Program} {w : World} {K : PySem.W.Frag} {mg : Str → Option Value} {base : Heap}
theorem ok_ni {f fI aA : Addr} {fd dI : FuncData} (F : Fun K "node_in" "node_in" sNi f fd) (GI : FnOk P w K mg base CX0 1 fI dI ["value"] (spInt K)) (mI : mg "is_integer" = some (.ref fI)) (kI : PySem.W.keepIn K (.ref fI) = true) (bI : Binds K dI ["value"] [])
    (mA : mg "ABSENT" = some (.ref aA)) (KA : TupK K aA ["absent"]) (mLen : mg "len" = none) (mIs : mg "isinstance" = none) (mS : mg "str" = none) : FnOk P w K mg base CX0 2 f fd ["node", "step"] (spNi K) := by
  refine F.ok (k := 1) scNi (fun vs H Q E h => ?_) (fun cdv A outer s H vs Q E hr h => ?_)
  · obtain ⟨v, t, u, r, rfl, _⟩ := h
    rfl
  · obtain ⟨v, t, u, r, rfl, hv, hu, q⟩ := h
    have hu4 := hr.units
    refine ⟨_, pss_cons (ps_if (pt_cmpR op_eq (pe_ix ix_tup (pv 0) pe_int (fun _ _ => rfl)) pe_str (nomark _))
        (pss_one (ps_ret (pe_ifExp (PW.pt (pw_and (pt_val (pe_call GI hr (by rfl) mI kI bI .nil pass0 (pa_cons (pv 1) pa_nil))) (pw_and1 (pt_chain op_le op_lt pe_int (pv 1) (pe_callB call_len_seq (by rfl) mLen PySem.boot_len (pa_cons (pe_ix ix_tup (pv 0) pe_int (fun _ _ => rfl)) pa_nil))))))
          (pe_ix ix_tup (pe_ix ix_tup (pv 0) pe_int (fun _ _ => rfl)) (pv 1) (fun _ _ => rfl)) pe_non))) pss_nil)
      (pss_cons (ps_if (PW.pt (pw_or (pt_cmpR op_ne (pe_ix ix_tup (pv 0) pe_int (fun _ _ => rfl)) pe_str (nomark _)) (pw_or1 (pt_not (pt_val (pe_callB call_isi (by rfl) mIs PyProof.Rows.boot_isinstance (pa_cons (pv 1) (pa_cons (pe_bltn (v := .ty "str") (by rfl) mS (by decide +kernel) rfl) pa_nil)))))))) (pss_one (ps_ret pe_non)) pss_nil)
      (pss_cons (ps_for PassesOwn.never rfl (pi_tup (pe_ix ix_tup (pv 0) pe_int (fun _ _ => rfl))) (pg_tup rfl (pgs_cons (pg_name (i := 2) scNi.nd rfl (.inl rfl)) (pgs_cons (pg_name (i := 3) scNi.nd rfl (.inl rfl)) pgs_nil)))
        (pss_one (ps_if (pt_cmpR op_eq (pv 2) (pv 1) (nomark _)) (pss_one (ps_ret (pe_ifExp (pt_cmpR (op_eqD hu4) (pv 3) (pe_glob (v := .ref aA) (by rfl) mA rfl) (nomark _)) pe_non (pv 3)))) pss_nil)))
      (pss_cons (ps_for PassesOwn.never rfl (pi_tup (pe_ix ix_tup (pv 0) pe_int (fun _ _ => rfl))) (pg_name (i := 4) scNi.nd rfl (.inl rfl))
        (pss_one (ps_for PassesOwn.never rfl (pi_tup (pe_orT (pv 4) (pe_one (pe_tup pa_nil)))) (pg_tup rfl (pgs_cons (pg_name (i := 2) scNi.nd rfl (.inl rfl)) (pgs_cons (pg_name (i := 3) scNi.nd rfl (.inl rfl)) pgs_nil)))
          (pss_one (ps_if (pt_cmpR op_eq (pv 2) (pv 1) (nomark _)) (pss_one (ps_ret (pv 3))) pss_nil)))))
      (pss_one (ps_ret pe_non))))), ?_⟩
    have hform : ∃ wd rest, t = .tup (.str wd :: rest) := by
      unfold nodeIn at q
      split at q
      · exact ⟨_, _, rfl⟩
      · exact q.elim
    obtain ⟨wd, rest, rfl⟩ := hform
    obtain ⟨a, us, rfl, hs, hl⟩ := hv.tup
    obtain ⟨v0, us1, rfl, h0, hl1⟩ := hl.cons
    obtain rfl := h0.str
    unfold nodeIn at q
    dsimp only at q
    refine ⟨_, rfl, a, _, 0, _, rfl, rfl, hs, at_0 _ _, rfl, _, rfl, ?_⟩
    rw [dec_s]
    by_cases c1 : wd = "list"
    · rw [if_pos c1] at q
      rw [decide_eq_true c1]
      cases rest with
      | nil => exact q.elim
      | cons it more =>
        cases it with
        | tup items =>
          obtain ⟨v1, us2, rfl, h1, _⟩ := hl1.cons
          obtain ⟨b, ws, rfl, hb, hws⟩ := h1.tup
          have hlw := hws.len
          dsimp only at q
          unfold nodeInL at q
          cases r with
          | int i =>
            obtain rfl := hu.int
            refine iteT (ret_run ⟨_, rfl, _, .int i, rfl, hu, _, rfl, iteT ⟨_, rfl, ?_⟩⟩)
            dsimp only at q
            refine ⟨_, _, rfl, rfl, _, rfl, ?_⟩
            by_cases c : 0 ≤ i ∧ i < (items.length : Int)
            · rw [if_pos c] at q
              rw [decide_eq_true c.1]
              refine iteT ⟨_, rfl, a, _, 1, _, rfl, rfl, hs, atI_nat (j := 1) rfl, b, ws, rfl, .inr hb, _, _, rfl, rfl, _, rfl, ?_⟩
              rw [decide_eq_true (show i < (ws.length : Int) by rw [hlw]; exact c.2)]
              obtain ⟨j, rfl⟩ : ∃ j : Nat, i = (j : Int) := ⟨i.toNat, by omega⟩
              rw [Int.toNat_natCast] at q
              obtain ⟨x, hx⟩ : ∃ x, items[j]? = some x := ⟨_, List.getElem?_eq_getElem (by omega)⟩
              obtain ⟨vx, hvx, px⟩ := hws.get' hx
              rw [hx] at q
              exact iteT ⟨_, rfl, a, _, 1, _, rfl, rfl, hs, atI_nat (j := 1) rfl, _, rfl, b, ws, _, vx, rfl, rfl, hb, atI_nat hvx, q _ _ same_id px⟩
            · rw [if_neg c] at q
              by_cases c3 : 0 ≤ i
              · rw [decide_eq_true c3]
                refine iteT ⟨_, rfl, a, _, 1, _, rfl, rfl, hs, atI_nat (j := 1) rfl, b, ws, rfl, .inr hb, _, _, rfl, rfl, _, rfl, ?_⟩
                rw [decide_eq_false (show ¬ i < (ws.length : Int) by rw [hlw]; exact fun z => c ⟨c3, z⟩)]
                exact iteF (q _ _ same_id pt_non)
              · rw [decide_eq_false c3]
                exact iteF ⟨_, rfl, iteF (q _ _ same_id pt_non)⟩
          | _ => exact q.elim
        | _ => exact q.elim
    rw [if_neg c1] at q
    rw [decide_eq_false c1]
    refine iteF (nx_run ?_)
    dsimp only
    by_cases c2 : wd = "dict"
    · rw [if_pos c2] at q
      subst c2
      have hrest : ∃ ps gs k, rest = [.tup ps, .tup gs] ∧ r = .str k := by
        split at q
        · rename_i ps gs
          unfold nodeInD at q
          cases r with
          | str k => exact ⟨ps, gs, k, rfl, rfl⟩
          | _ => exact q.elim
        · exact q.elim
      obtain ⟨ps, gs, k, rfl, rfl⟩ := hrest
      obtain rfl := hu.str
      obtain ⟨v1, us2, rfl, h1, hl2⟩ := hl1.cons
      obtain ⟨v2, us3, rfl, h2, hl3⟩ := hl2.cons
      obtain rfl := hl3.nil
      obtain ⟨b, ws, rfl, hb, hws⟩ := h1.tup
      obtain ⟨g, zs, rfl, hg, hzs⟩ := h2.tup
      dsimp only at q
      unfold nodeInD at q
      dsimp only at q
      refine ifl_valS (v := false) (fun Q' kk => tor_valS (b := false) (c := false) (fun Q' kk => ?_) (fun _ H1 s1 Q' kk => ?_) kk) (fun hb => nomatch hb) (fun _ H1 s1 => nx_run ?_)
      · exact ⟨_, rfl, a, _, 0, _, rfl, rfl, hs, at_0 _ _, rfl, _, rfl, kk _ same_id⟩
      · exact ⟨_, rfl, isS (.str k) ⟨_, rfl, kk _ same_id⟩⟩
      dsimp only
      have hs := same_seqT s1 hs
      have hb := same_seqT s1 hb
      have hg := same_seqT s1 hg
      have hws := hws.same s1
      have hzs := hzs.same s1
      refine seq_postS (fun σ' H' => (∃ o2 o3 : Option V, σ' = [some (.ref a), some (.str k), o2, o3, none]) ∧ Same H1 H' ∧ findP k ps = some none) (fun rr kk => ?_) (fun σ' H2 hh => ?_)
      · refine ⟨_, rfl, a, _, 1, _, rfl, rfl, hs, atI_nat (j := 1) rfl, b, rfl, ⟨ws, hb⟩, ?_⟩
        refine for_tup (K := K) (a := b) (xs := ws) (fun i σ' H' => (∃ o2 o3 : Option V, σ' = [some (.ref a), some (.str k), o2, o3, none]) ∧ Same H1 H' ∧ findP k (ps.drop i) = findP k ps) ⟨⟨_, _, rfl⟩, same_id, rfl⟩ (fun i σ' H' _ h => same_seqT h.2.1 hb) ?_ ?_
        · rintro i v σ' H2 hv2 ⟨⟨o2, o3, rfl⟩, s2, e2⟩
          obtain ⟨t2, ht2, hp2⟩ := hws.get hv2
          have hsome : ∃ x, findP k (ps.drop i) = some x := by
            rw [e2]
            cases hf : findP k ps with
            | none => rw [hf] at q; exact q.elim
            | some x => exact ⟨x, rfl⟩
          obtain ⟨x, hx⟩ := hsome
          obtain ⟨k', part, rfl⟩ := findP_form ht2 hx
          obtain ⟨c, u, rfl, hc, hu2⟩ := pair_vals hp2
          refine ⟨c, _, rfl, same_seqT s2 hc, rfl, _, _, rfl, _, _, rfl, rfl, ?_⟩
          refine ⟨_, rfl, _, rfl, rfl, _, rfl, ?_⟩
          rw [dec_s]
          by_cases ck : k' = k
          · subst ck
            rw [decide_eq_true rfl]
            rw [findP_here ps i part ht2] at e2
            rw [← e2] at q
            dsimp only at q
            by_cases hsh : SeqAt.shaped (toPy part) = true
            · rw [if_pos hsh] at q
              refine iteT (ret_run ⟨_, rfl, toPy part, .tuple [.str "absent"], dv_dp (hu2.same s2).1 hu2.2, .tup (KA H2) (.cons (.str _) .nil), hsh, by decide +kernel, _, rfl, ?_⟩)
              rw [eqv_abs]
              cases hab : isAbs part with
              | true => rw [hab] at q; exact iteT (q _ _ (s1.trans s2) pt_non)
              | false => rw [hab] at q; exact iteF ⟨_, rfl, q _ _ (s1.trans s2) (hu2.same s2)⟩
            · rw [if_neg hsh] at q
              exact q.elim
          · rw [decide_eq_false ck]
            exact iteF (nx_run ⟨⟨_, _, rfl⟩, s2, by rw [← findP_step ps i k' part ht2 ck]; exact e2⟩)
        · rintro σ' H2 ⟨⟨o2, o3, rfl⟩, s2, e2⟩
          rw [hws.len, List.drop_length] at e2
          exact kk _ _ ⟨⟨_, _, rfl⟩, s2, e2.symm⟩
      obtain ⟨⟨o2, o3, rfl⟩, s2, e2⟩ := hh
      rw [e2] at q
      dsimp only at q
      have hs := same_seqT s2 hs
      have hg := same_seqT s2 hg
      have hzs := hzs.same s2
      refine seq_postS (fun σ' H' => (∃ o2 o3 o4 : Option V, σ' = [some (.ref a), some (.str k), o2, o3, o4]) ∧ Same H2 H' ∧ findG k gs = some none) (fun rr kk => ?_) (fun σ' H3 hh => ?_)
      · refine ⟨_, rfl, a, _, 2, _, rfl, rfl, hs, atI_nat (j := 2) rfl, g, rfl, ⟨zs, hg⟩, ?_⟩
        refine for_tup (K := K) (a := g) (xs := zs) (fun i σ' H' => (∃ o2 o3 o4 : Option V, σ' = [some (.ref a), some (.str k), o2, o3, o4]) ∧ Same H2 H' ∧ findG k (gs.drop i) = findG k gs) ⟨⟨_, _, _, rfl⟩, same_id, rfl⟩ (fun i σ' H' _ h => same_seqT h.2.1 hg) ?_ ?_
        · rintro i v σ' H3 hv3 ⟨⟨o2, o3, o4, rfl⟩, s3, e3⟩
          obtain ⟨t3, ht3, hp3⟩ := hzs.get hv3
          have hp3 := hp3.same s3
          rw [getD_tup i gs t3 ht3] at e3
          unfold gName
          dsimp only
          have fin : ∀ (o2 o3 : Option V) (H4 : Hp), Same H3 H4 → findG k (gs.drop (i + 1)) = findG k gs → (∃ p2 p3 p4 : Option V, [some (.ref a), some (.str k), o2, o3, some v] = [some (V.ref a), some (.str k), p2, p3, p4]) ∧ Same H2 H4 ∧ findG k (gs.drop (i + 1)) = findG k gs := fun o2 o3 H4 s4 e4 => ⟨⟨_, _, _, rfl⟩, s3.trans s4, e4⟩
          cases t3 with
          | non =>
            obtain rfl := hp3.non
            refine ⟨_, rfl, false, rfl, few (by show 0 ≤ 1000; decide), fun B nB => ?_⟩
            have sB := same_new (u := .tup []) (same_id (H := H3)) nB
            refine ⟨B, rfl, ⟨[], SqT.of upd_same⟩, for_tup (K := K) (a := B) (xs := []) (fun i' σ' H' => σ' = [some (.ref a), some (.str k), o2, o3, some .non] ∧ Same (upd H3 B (.tup [])) H') ⟨rfl, same_id⟩ (fun _ _ _ _ h => same_seqT h.2 (SqT.of upd_same)) (fun _ _ _ _ hx => by cases hx) ?_⟩
            rintro σ' H4 ⟨rfl, s4⟩
            exact fin _ _ _ (sB.trans s4) (by rw [findG] at e3; exact e3)
          | tup ps3 =>
            obtain ⟨B, vs3, rfl, hB, hvs3⟩ := hp3.tup
            rw [findG] at e3
            cases ps3 with
            | nil =>
              obtain rfl := hvs3.nil
              refine ⟨_, rfl, false, .inr (.inl ⟨[], hB, rfl⟩), few (by show 0 ≤ 1000; decide), fun B2 nB => ?_⟩
              have sB := same_new (u := .tup []) (same_id (H := H3)) nB
              refine ⟨B2, rfl, ⟨[], SqT.of upd_same⟩, for_tup (K := K) (a := B2) (xs := []) (fun i' σ' H' => σ' = [some (.ref a), some (.str k), o2, o3, some (.ref B)] ∧ Same (upd H3 B2 (.tup [])) H') ⟨rfl, same_id⟩ (fun _ _ _ _ h => same_seqT h.2 (SqT.of upd_same)) (fun _ _ _ _ hx => by cases hx) ?_⟩
              rintro σ' H4 ⟨rfl, s4⟩
              exact fin _ _ _ (sB.trans s4) (by rw [findP] at e3; exact e3)
            | cons p0 pr =>
              obtain ⟨v0', vr, rfl, _, _⟩ := hvs3.cons
              refine ⟨_, rfl, true, .inr (.inl ⟨_, hB, rfl⟩), ?_⟩
              refine ⟨B, rfl, ⟨_, hB⟩, for_tup (K := K) (a := B) (xs := v0' :: vr) (fun i' σ' H' => (∃ p2 p3 : Option V, σ' = [some (.ref a), some (.str k), p2, p3, some (.ref B)]) ∧ H' = H3 ∧ findP k ((p0 :: pr).drop i') = findP k (p0 :: pr)) ⟨⟨_, _, rfl⟩, rfl, rfl⟩ (fun _ _ _ _ h => by rw [h.2.1]; exact hB) ?_ ?_⟩
              · rintro i' v' σ' H4 hv4 ⟨⟨p2, p3, rfl⟩, rfl, e4⟩
                obtain ⟨t4, ht4, hp4⟩ := hvs3.get hv4
                have hsome : ∃ x, findP k ((p0 :: pr).drop i') = some x := by
                  rw [e4]
                  cases hf : findP k (p0 :: pr) with
                  | none => rw [hf] at e3; dsimp only at e3; rw [← e3] at q; exact q.elim
                  | some x => exact ⟨x, rfl⟩
                obtain ⟨x, hx⟩ := hsome
                obtain ⟨k', part, rfl⟩ := findP_form ht4 hx
                obtain ⟨c, u, rfl, hc, hu2⟩ := pair_vals hp4
                refine ⟨c, _, rfl, hc, rfl, _, _, rfl, _, _, rfl, rfl, ?_⟩
                refine ⟨_, rfl, _, rfl, rfl, _, rfl, ?_⟩
                rw [dec_s]
                by_cases ck : k' = k
                · subst ck
                  rw [decide_eq_true rfl]
                  rw [findP_here (p0 :: pr) i' part ht4] at e4
                  rw [← e4] at e3
                  dsimp only at e3
                  rw [← e3] at q
                  exact iteT (ret_run ⟨_, rfl, q _ _ (s1.trans (s2.trans s3)) hu2⟩)
                · rw [decide_eq_false ck]
                  exact iteF (nx_run ⟨⟨_, _, rfl⟩, rfl, by rw [← findP_step (p0 :: pr) i' k' part ht4 ck]; exact e4⟩)
              · rintro σ' H4 ⟨⟨p2, p3, rfl⟩, rfl, e4⟩
                rw [hvs3.len, List.drop_length] at e4
                rw [← e4] at e3
                exact fin _ _ _ same_id (by rw [findP] at e3; exact e3)
          | bl b1 => rw [show findG k (Dt.bl b1 :: gs.drop (i + 1)) = none from rfl] at e3; rw [← e3] at q; exact q.elim
          | int b1 => rw [show findG k (Dt.int b1 :: gs.drop (i + 1)) = none from rfl] at e3; rw [← e3] at q; exact q.elim
          | str b1 => rw [show findG k (Dt.str b1 :: gs.drop (i + 1)) = none from rfl] at e3; rw [← e3] at q; exact q.elim
          | opq => rw [show findG k (Dt.opq :: gs.drop (i + 1)) = none from rfl] at e3; rw [← e3] at q; exact q.elim
        · rintro σ' H3 ⟨⟨o2, o3, o4, rfl⟩, s3, e3⟩
          rw [hzs.len, List.drop_length] at e3
          exact kk _ _ ⟨⟨_, _, _, rfl⟩, s3, e3.symm⟩
      obtain ⟨⟨o2, o3, o4, rfl⟩, s3, e3⟩ := hh
      rw [e3] at q
      exact ret_run (q _ _ (s1.trans (s2.trans s3)) pt_non)
    rw [if_neg c2] at q
    refine ifl_valS (v := true) (fun Q' kk => tor_valS (b := true) (c := true) (fun Q' kk => ?_) (fun hb => nomatch hb) kk) (fun _ H1 s1 => ret_run (q _ _ s1 pt_non)) (fun hb => nomatch hb)
    refine ⟨_, rfl, a, _, 0, _, rfl, rfl, hs, at_0 _ _, rfl, _, rfl, ?_⟩
    rw [dec_s, decide_eq_false c2]
    exact kk _ same_id
theorem ok_na {f fN : Addr} {fd dN : FuncData} (F : Fun K "node_at" "node_at" sNa f fd) (GN : FnOk P w K mg base CX0 2 fN dN ["node", "step"] (spNi K)) (mN : mg "node_in" = some (.ref fN)) (kN : PySem.W.keepIn K (.ref fN) = true) (bN : Binds K dN ["node", "step"] [])
    (mIs : mg "isinstance" = none) (mTu : mg "tuple" = none) : FnOk P w K mg base CX0 3 f fd ["node", "place"] (spNa K) := by
  refine F.ok (k := 2) scNa' (fun vs H Q E h => ?_) (fun cdv A outer s H vs Q E hr h => ?_)
  · obtain ⟨v, t, u, r, rfl, _⟩ := h
    rfl
  · obtain ⟨v, t, u, r, rfl, hv, hu, q⟩ := h
    refine ⟨_, pss_cons (ps_if (pt_not (pt_val (pe_callB call_isi (by rfl) mIs PyProof.Rows.boot_isinstance (pa_cons (pv 1) (pa_cons (pe_bltn (v := .ty "tuple") (by rfl) mTu (by decide +kernel) rfl) pa_nil))))) (pss_one (ps_ret pe_non)) pss_nil)
      (pss_cons (ps_for PassesOwn.never rfl (pi_tup (pv 1)) (pg_name (i := 2) scNa'.nd rfl (.inl rfl))
        (pss_cons (ps_if (pt_cmpR op_isN (pv 0) pe_non (nomark _)) (pss_one (ps_ret pe_non)) pss_nil)
        (pss_one (ps_set (i := 0) scNa'.nd rfl (Or.inl rfl) (pe_call GN hr (by rfl) mN kN bN .nil pass0 (pa_cons (pv 0) (pa_cons (pv 2) pa_nil)))))))
      (pss_one (ps_ret (pv 0)))), ?_⟩
    obtain ⟨b, ws, rfl, hb, hws⟩ := hu.tup
    refine ⟨_, rfl, isT hu.1 ⟨_, rfl, iteF (nx_run ?_)⟩⟩
    dsimp only
    refine seq_postS (fun σ' H' => ∃ (v' : V) (t' : Dt) (o2 : Option V), σ' = [some v', some (.ref b), o2] ∧ Same H H' ∧ Pt K H' v' t' ∧ nodeAt t r = some t') (fun rr kk => ?_) (fun σ' H2 hh => ?_)
    · refine ⟨_, rfl, b, rfl, ⟨ws, hb⟩, ?_⟩
      refine for_tup (K := K) (a := b) (xs := ws) (fun i σ' H' => ∃ (v' : V) (t' : Dt) (o2 : Option V), σ' = [some v', some (.ref b), o2] ∧ Same H H' ∧ Pt K H' v' t' ∧ nodeAt t' (r.drop i) = nodeAt t r) ⟨v, t, _, rfl, same_id, hv, rfl⟩ (fun i σ' H' _ h => by obtain ⟨_, _, _, _, z, _⟩ := h; exact same_seqT z hb) ?_ ?_
      · rintro i x σ' H2 hx ⟨v', t', o2, rfl, s2, p2, e2⟩
        obtain ⟨sx, hsx, px⟩ := hws.get hx
        rw [getD_tup i r sx hsx] at e2
        refine ⟨_, rfl, rfl, _, rfl, ?_⟩
        rw [dec_non p2]
        cases hn : isNonT t' with
        | true =>
          have ht : t' = .non := by cases t' <;> first | rfl | cases hn
          subst ht
          have e3 : nodeAt .non (sx :: r.drop (i + 1)) = some .non := rfl
          rw [e3] at e2
          rw [← e2] at q
          exact iteT (ret_run (q _ _ s2 pt_non))
        | false =>
          rw [nodeAt_cons hn] at e2
          refine iteF (nx_run ?_)
          dsimp only
          refine ⟨_, rfl, _, rfl, v', t', x, sx, rfl, p2, px.same s2, ?_⟩
          cases hm : nodeIn t' sx with
          | none => rw [hm] at e2; rw [← e2] at q; exact q.elim
          | some m =>
            rw [hm] at e2
            intro H3 v3 s3 p3
            unfold gName
            dsimp only
            exact ⟨v3, m, _, rfl, s2.trans s3, p3, e2⟩
      · rintro σ' H2 ⟨v', t', o2, rfl, s2, p2, e2⟩
        rw [hws.len, List.drop_length] at e2
        exact kk _ _ ⟨v', t', _, rfl, s2, p2, by rw [← e2]; rfl⟩
    · obtain ⟨v', t', o2, rfl, s2, p2, e2⟩ := hh
      rw [e2] at q
      exact ret_run ⟨_, rfl, q _ _ s2 p2⟩
end
end Toy


namespace PySem
namespace KX
open PySem.W PySem.Calls PyProof.Rows
section
variable {K : Frag} {P : Program} {wo : World} {Ar : Around} {s : Shared} {x c dxx t fi : Addr} {base nid iid : String} {bt : List Value} {f g e : Str} {v u w : Value} {qual : Str} {fd : FuncData} {args : Args} {a1 a2 a3 a4 q1 q2 q3 q4 r1 r2 r3 r4 p1 p2 p3 p4 : Pos} {Rs : Result → Shared → Prop}
theorem init_three (O : Own K c fi base nid iid bt) (N : Free K c f) (N2 : Free K c g) (N3 : Free K c e) (F : L2.FunD K "__init__" qual (argsOf [arg1 "self" a1, arg1 f a2, arg1 g a3, arg1 e a4]) [setS f q1 q2 q3 q4, setS g r1 r2 r3 r4, setS e p1 p2 p3 p4] (scOf ["self", f, g, e]) [] [] fi fd)
    (fs : (f == ("self" : Str)) = false) (gs : (g == ("self" : Str)) = false) (es : (e == ("self" : Str)) = false) (gf : (g == f) = false) (ef : (e == f) = false) (eg : (e == g) = false) (fdb : (f == ("__debug__" : Str)) = false) (gdb : (g == ("__debug__" : Str)) = false) (edb : (e == ("__debug__" : Str)) = false)
    (hb : BindsTo s fd args [("self", .ref x), (f, v), (g, u), (e, w)]) (X : K.In s.heap) (lim : s.heap.NoLimit) (hx : s.heap.get? x = some (withD c t none)) (hnx : K.lookup x = none) (room : Ar.depth < recursionLimit)
    (go : ∀ h' tk dx, Filled s.heap h' x c dx t (fun y => if y = e then some w else if y = g then some u else if y = f then some v else none) → Rs (.ok (.ret .none)) { s with heap := h', toks := tk }) :
    codeAny (model P wo) Ar (.call (.ref fi) args) Rs s := by
  obtain ⟨oc, od, dV, kV, doc, pm, an, cdv, ct, osl, rfl, lk, hcd, hD, hK⟩ := F.ex
  have l1 : (scOf ["self", f, g, e]).names.lookup ("self" : Str) = some .local := by simp [scOf, List.lookup]
  have l2 : (scOf ["self", f, g, e]).names.lookup f = some .local := by simp [scOf, List.lookup, fs]
  have l3 : (scOf ["self", f, g, e]).names.lookup g = some .local := by simp [scOf, List.lookup, gs, gf]
  have l4 : (scOf ["self", f, g, e]).names.lookup e = some .local := by simp [scOf, List.lookup, es, ef, eg]
  refine Att.call_fn (binds := [("self", .ref x), (f, v), (g, u), (e, w)]) X lim lk hcd room hb (by simp [l1, l2, l3, l4]) (fun s₁ IC => ?_) rfl rfl rfl
  obtain ⟨h₁, tk₁, rfl⟩ := IC.toInCall.same
  have up : ∀ b o, s.heap.get? b = some o → h₁.get? b = some o := IC.toInCall.keep
  have hn := IC.toInCall.ns
  have k1 : (envOfC qual (scOf ["self", f, g, e]) s.heap.objs.size fi cdv).kindOf ("self" : Str) = some .local := l1
  have k2 : (envOfC qual (scOf ["self", f, g, e]) s.heap.objs.size fi cdv).kindOf f = some .local := l2
  have k3 : (envOfC qual (scOf ["self", f, g, e]) s.heap.objs.size fi cdv).kindOf g = some .local := l3
  have k4 : (envOfC qual (scOf ["self", f, g, e]) s.heap.objs.size fi cdv).kindOf e = some .local := l4
  have n1 : ¬ (("self" : Str) = f) := fun z => by rw [← z] at fs; simp at fs
  have n2 : ¬ (("self" : Str) = g) := fun z => by rw [← z] at gs; simp at gs
  have n2' : ¬ (("self" : Str) = e) := fun z => by rw [← z] at es; simp at es
  have n3 : ¬ (f = g) := fun z => by rw [← z] at gf; simp at gf
  have n4 : ¬ (f = e) := fun z => by rw [← z] at ef; simp at ef
  have n5 : ¬ (g = e) := fun z => by rw [← z] at eg; simp at eg
  refine in_step (x := x) (v := v) hn rfl l1 l2 fdb (by simp [bindL, k1, k2, k3, k4, n1, n2, n2']) (by simp [bindL, k1, k2, k3, k4, n3, n4]) ?_
  refine set_plain (X.keeps up) (ox := withD c t none) (od := none) ⟨up _ _ hx, rfl, rfl, trivial⟩ O.sa ?_
  refine put_first O N (X.keeps up) (up _ _ hx) (fun h₃ tk₃ dx k₃ dn dne hx₃ hn₃ => ?_)
  have z : s.heap.objs.size < h₁.objs.size := hn.lt
  have lx : s.heap.objs.size ≠ x := Nat.ne_of_gt (Heap.lt_size hx)
  have hn3 : h₃.Ns s.heap.objs.size _ := hn.at fun o q => k₃ _ _ lx q
  obtain ⟨od3, _, _, hod3, _, _⟩ := hn₃.count (Within.cons f v Within.nil)
  have X3 : K.In h₃ := fun b o e => by
    by_cases hbx : b = x
    · rw [hbx, hnx] at e
      cases e
    · exact k₃ b o hbx (up _ _ (X b o e))
  refine in_step (x := x) (v := u) hn3 rfl l1 l3 gdb (by simp [bindL, k1, k2, k3, k4, n1, n2, n2']) (by simp [bindL, k1, k2, k3, k4, n5]) ?_
  refine set_plain X3 (ox := withD c t (some dx)) (od := some od3) ⟨hx₃, rfl, rfl, hod3⟩ O.sa ?_
  refine put_next O N2 X3 hx₃ hn₃ (Within.cons f v Within.nil) (by show 1 ≤ 1000; decide) (fun h₄ tk₄ k₄ hn₄ => ?_)
  have ldx : s.heap.objs.size ≠ dx := Nat.ne_of_lt (Nat.lt_of_lt_of_le z dn)
  have hn4 : h₄.Ns s.heap.objs.size _ := hn3.at fun o q => k₄ _ _ ldx q
  have hx₄ : h₄.get? x = some (withD c t (some dx)) := k₄ _ _ dne.symm hx₃
  obtain ⟨od4, _, _, hod4, _, _⟩ := hn₄.count (Within.cons g u (Within.cons f v Within.nil))
  have dxK : K.lookup dx = none := by
    cases q : K.lookup dx with
    | none => rfl
    | some o => exact absurd (Heap.lt_size (up _ _ (X _ _ q))) (Nat.not_lt.mpr dn)
  have X4 : K.In h₄ := fun b o q => by
    by_cases hbd : b = dx
    · rw [hbd, dxK] at q
      cases q
    · exact k₄ b o hbd (X3 b o q)
  refine in_step (x := x) (v := w) hn4 rfl l1 l4 edb (by simp [bindL, k1, k2, k3, k4, n1, n2, n2']) (by simp [bindL, k1, k2, k3, k4]) ?_
  refine set_plain X4 (ox := withD c t (some dx)) (od := some od4) ⟨hx₄, rfl, rfl, hod4⟩ O.sa ?_
  refine put_next O N3 X4 hx₄ hn₄ (Within.cons g u (Within.cons f v Within.nil)) (by show 2 ≤ 1000; decide) (fun h₅ tk₅ k₅ hn₅ => ?_)
  have old3 : ∀ b o, s.heap.get? b = some o → b ≠ dx := fun b o q => Nat.ne_of_lt (Nat.lt_of_lt_of_le (Heap.lt_size (up b o q)) dn)
  exact wpAny_execs_nil (go h₅ tk₅ dx ⟨fun b o hb q => k₅ b o (old3 b o q) (k₄ b o (old3 b o q) (k₃ b o hb (up b o q))), k₅ _ _ dne.symm hx₄, Nat.le_of_lt (Nat.lt_of_lt_of_le z dn), dne, hn₅⟩)
end
end KX
end PySem
namespace L2
open PySem PySem.Spec PyProof.Rows PySem.KX
/-- the class at c has an __init__ of three fields -/
structure Cl3 (K : PySem.W.Frag) (c : Addr) (f g e : Str) : Prop where
  ex : ∃ (fi : Addr) (base nid iid : String) (bt : List Value) (qual : Str) (fd : FuncData) (a1 a2 a3 a4 q1 q2 q3 q4 r1 r2 r3 r4 p1 p2 p3 p4 : Pos), Own K c fi base nid iid bt ∧
    FunD K "__init__" qual (argsOf [arg1 "self" a1, arg1 f a2, arg1 g a3, arg1 e a4]) [setS f q1 q2 q3 q4, setS g r1 r2 r3 r4, setS e p1 p2 p3 p4] (scOf ["self", f, g, e]) [] [] fi fd ∧
    (∀ s self v u w, BindsTo s fd ⟨[.ref self, v, u, w], []⟩ [("self", .ref self), (f, v), (g, u), (e, w)])
  fr : Free K c f
  gr : Free K c g
  er : Free K c e
  fs : (f == ("self" : Str)) = false
  gs : (g == ("self" : Str)) = false
  es : (e == ("self" : Str)) = false
  gf : (g == f) = false
  ef : (e == f) = false
  eg : (e == g) = false
  fdb : (f == ("__debug__" : Str)) = false
  gdb : (g == ("__debug__" : Str)) = false
  edb : (e == ("__debug__" : Str)) = false
  kp : PySem.W.keepIn K (.ref c) = true
section
variable {X : Cx} {c : Addr} {f g e : Str} {x : Str} {p pos : Pos} {e1 : Expr} {es : List Expr} {ta : TA}
theorem three_few (v u w : Value) : [v, u, w].length ≤ sizeLine := by
  rw [sizeLine_eq]
  exact (by decide : 3 ≤ 16777216)
theorem pmk_x3 (T : Cl3 X.K c f g e) (R : ClR X.K c) (hr : Room 1 X.A) (hm : X.mg x = some (.ref c)) (hg : Gl X x) (ha : PA X (e1 :: es) ta) (hdb : (x == ("__debug__" : Str)) = false := by decide)
    (he : starEach (e1 :: es) X.env = (false, eval e1 X.env) :: starEach es X.env := by rfl) (hpl : (backTo pos (starEach es X.env)).any (·.1) = false := by rfl) :
    PMk X (.Call (.Name x p) (e1 :: es) [] pos) (fun σ H Q => ta σ H fun vs H1 => ∃ y z w, vs = [y, z, w] ∧ ∀ d, H1 d = none → Q (.ref c) (some d) (upd H1 d (.xd [(e, w), (g, z), (f, y)]))) := by
  intro pins s σ H Q I h
  obtain ⟨fi, base, nid, iid, bt, qual, fd, a1, a2, a3, a4, q1, q2, q3, q4, r1, r2, r3, r4, p1, p2, p3, p4, O, F, b1⟩ := T.ex
  refine wpAny_Call_Name_kw (ld_glob I hg hm ?_ hdb)
  refine PySem.W.callWith_K (h₀ := X.base) I.ok.mod.kin T.kp (thn (ha.run pos pins s σ H _ I h) fun us s1 hh => ?_) he hpl
  obtain ⟨vs, H1, I1, r1, y, z, w, rfl, q⟩ := hh
  obtain ⟨uy, uz, uw, rfl, ry, rz, rw'⟩ : ∃ a b c, us = [a, b, c] ∧ RelV y a ∧ RelV z b ∧ RelV w c := by
    cases r1 with
    | cons a b =>
      cases b with
      | cons b c =>
        cases c with
        | cons c d =>
          cases d
          exact ⟨_, _, _, rfl, a, b, c⟩
  refine ⟨I1.kIn, ?_⟩
  obtain ⟨nm, nsA, qn, bs, bm, hdct, sn, sub, ab, col, dd, k0, k1, k2, k3, k5, hC, same⟩ := PySem.W.excInit_of I1.kIn O.ini
  obtain ⟨hp, g0, dr, tk, os⟩ := s1
  have up : ∀ b o, hp.get? b = some o → ((hp.push (PySem.W.kdv_tup [uy, uz, uw])).push (PySem.HandSPX.excO c hp.objs.size)).get? b = some o := fun b o e => Heap.get?_push_of_some _ (Heap.get?_push_of_some _ e)
  refine wpAny_call (class_called O.FB same hC (three_few uy uz uw) (PySem.W.looks_findIn I1.kIn O.fI) (fun self => PySem.W.bind_fn I1.kIn self O.fT) ?_)
  refine init_three (s := ⟨(hp.push (PySem.W.kdv_tup [uy, uz, uw])).push (PySem.HandSPX.excO c hp.objs.size), g0, dr, tk, os⟩) O T.fr T.gr T.er F T.fs T.gs T.es T.gf T.ef T.eg T.fdb T.gdb T.edb (b1 _ _ _ _ _) (I1.kIn.keeps up) (I1.nolimit.keeps up) (by heap_get) (not_written I1.kIn) (by show X.A.depth + 1 < recursionLimit; have := hr.dp; omega) fun h' tk' d0 M => ?_
  refine ⟨rfl, flown I1 (raises_own R.sub R.typ) M (fun q => ?_) q⟩
  exact relO_put (fs := [(g, z), (f, y)]) rw' (relO_put (fs := [(f, y)]) rz (relO_put (fs := []) (mA := fun _ => none) ry (fun _ => True.intro))) q
end
end L2


namespace Toy
open PySem PySem.Spec L2 PyProof.Rows PySem.W
/-! ### a view -/
structure ViewC (K : PySem.W.Frag) (C : Addr) : Prop where
  cl : Cls K C
  n1 : NoAttr K C "names"
  n2 : NoAttr K C "sketches"
  n3 : NoAttr K C "puts"
  n4 : NoAttr K C "base"
structure NamC (K : PySem.W.Frag) (C : Addr) : Prop where
  cl : Cls K C
  n1 : NoAttr K C "fields"
  n2 : NoAttr K C "many"
  n3 : NoAttr K C "numbers"
  n4 : NoAttr K C "texts"
  n5 : NoAttr K C "gaps"
def vwF (nm : Addr) (S T : Addr) : List (Str × V) := [("names", .ref nm), ("sketches", .ref S), ("puts", .ref T), ("base", .int 0)]
def nmF (T : Addr) (a b c d : V) : List (Str × V) := [("fields", .ref T), ("many", a), ("numbers", b), ("texts", c), ("gaps", d)]
def NamAt (K : PySem.W.Frag) (CN : Addr) (H : Hp) (nm : Addr) (fs : List Str) : Prop := ∃ dn T a b c d, H nm = some (.ins CN dn (nmF T a b c d)) ∧ SqT K H T (fs.map V.str)
def ViewAt (K : PySem.W.Frag) (CV CN : Addr) (H : Hp) (x : Addr) (sk : Dt) (fs : List Str) : Prop := ∃ dv nm S T v, H x = some (.ins CV dv (vwF nm S T)) ∧ NamAt K CN H nm fs ∧ SqT K H S [v] ∧ Pt K H v sk ∧ SqT K H T []
def Askd (K : PySem.W.Frag) (CU : Addr) (H : Hp) (E : XK) (pl qu : Dt) : Prop := ∀ H' dd v u n, Same H H' → H' dd = some (.xd [("question", u), ("place", v), ("number", n)]) → Pt K H' v pl → Pt K H' u qu → E (.ref CU) (some dd) H'
def Ans {α : Type} (K : PySem.W.Frag) (CU : Addr) (H : Hp) (Q : VK) (E : XK) (G : α → Hp → V → Prop) : Option (An α) → Prop
  | none => False
  | some (.ok a) => ∀ H' v, Same H H' → G a H' v → Q v H'
  | some (.ask p q) => Askd K CU H E p q
def GB : Bool → Hp → V → Prop := fun b _ v => v = .bl b
section
variable {K : PySem.W.Frag} {CV CN CU : Addr} {H H' : Hp} {x : Addr} {sk pl qu : Dt} {fs : List Str} {E : XK} {Q : VK} {α : Type} {G : α → Hp → V → Prop} {a : Option (An α)}
theorem NamAt.same {nm : Addr} (h : NamAt K CN H nm fs) (s : Same H H') : NamAt K CN H' nm fs := by
  obtain ⟨dn, T, a, b, c, d, h1, h2⟩ := h
  exact ⟨dn, T, a, b, c, d, s _ _ h1, same_seqT s h2⟩
theorem ViewAt.same (h : ViewAt K CV CN H x sk fs) (s : Same H H') : ViewAt K CV CN H' x sk fs := by
  obtain ⟨dv, nm, S, T, v, h1, h2, h3, h4, h5⟩ := h
  exact ⟨dv, nm, S, T, v, s _ _ h1, h2.same s, same_seqT s h3, h4.same s, same_seqT s h5⟩
theorem Askd.up (h : Askd K CU H E pl qu) (s : Same H H') : Askd K CU H' E pl qu := fun H2 dd v u n s2 => h H2 dd v u n (s.trans s2)
theorem Ans.up (h : Ans K CU H Q E G a) (s : Same H H') : Ans K CU H' Q E G a := by
  cases a with
  | none => exact h
  | some a =>
    cases a with
    | ok b => exact fun H2 v s2 => h H2 v (s.trans s2)
    | ask p q => exact Askd.up h s
theorem Gives.up {r : Option Dt} (h : Gives K H Q r) (s : Same H H') : Gives K H' Q r := by
  cases r with
  | none => exact h
  | some r => exact fun H2 v s2 => h H2 v (s.trans s2)
end
def spVl (K : PySem.W.Frag) (CV CN : Addr) : Sp := fun vs H Q _ => ∃ (x : Addr) (sk : Dt) (fs : List Str) (p : V), vs = [.ref x, p] ∧ ViewAt K CV CN H x sk fs ∧ ∀ H' T, Same H H' → SqT K H' T [.int 0, p] → Q (.ref T) H'
def spVn (K : PySem.W.Frag) (CV CN : Addr) : Sp := fun vs H Q _ => ∃ (x : Addr) (sk : Dt) (fs : List Str) (p : V) (pl : Dt), vs = [.ref x, p] ∧ ViewAt K CV CN H x sk fs ∧ Pt K H p pl ∧ Gives K H Q (nodeV sk pl)
def spVd (K : PySem.W.Frag) (CV CN CU : Addr) : Sp := fun vs H _ E => ∃ (x : Addr) (sk : Dt) (fs : List Str) (p u : V) (pl qu : Dt), vs = [.ref x, p, u] ∧ ViewAt K CV CN H x sk fs ∧ Pt K H p pl ∧ Pt K H u qu ∧ Askd K CU H E pl qu
def spVo (K : PySem.W.Frag) (CV CN CU : Addr) : Sp := fun vs H Q E => ∃ (x : Addr) (sk : Dt) (fs : List Str) (p : V) (pl : Dt) (s : Str), vs = [.ref x, p, .str s] ∧ ViewAt K CV CN H x sk fs ∧ Pt K H p pl ∧ Ans K CU H Q E GB (isOfT sk pl s)
def spVx (K : PySem.W.Frag) (CV CN CU : Addr) : Sp := fun vs H Q E => ∃ (x : Addr) (sk : Dt) (fs : List Str) (p : V) (pl : Dt) (i : Int), vs = [.ref x, p, .int i] ∧ ViewAt K CV CN H x sk fs ∧ Pt K H p pl ∧ Ans K CU H Q E GB (hasIxT sk pl i)
theorem scVl : FnScope ["self", "place", "number", "put"] ["self", "place"] (defScope sVl) := ⟨rfl, rfl, rfl, by decide +kernel, rfl, by decide +kernel, by decide +kernel⟩
theorem scVn : FnScope ["self", "place", "number", "inner"] ["self", "place"] (defScope sVn) := ⟨rfl, rfl, rfl, by decide +kernel, rfl, by decide +kernel, by decide +kernel⟩
theorem scVd : FnScope ["self", "place", "question", "number", "inner"] ["self", "place", "question"] (defScope sVd) := ⟨rfl, rfl, rfl, by decide +kernel, rfl, by decide +kernel, by decide +kernel⟩
theorem scVo : FnScope ["self", "place", "sort", "node"] ["self", "place", "sort"] (defScope sVo) := ⟨rfl, rfl, rfl, by decide +kernel, rfl, by decide +kernel, by decide +kernel⟩
theorem scVx : FnScope ["self", "place", "index", "node"] ["self", "place", "index"] (defScope sVx) := ⟨rfl, rfl, rfl, by decide +kernel, rfl, by decide +kernel, by decide +kernel⟩
section
variable {P : Program} {w : World} {K : PySem.W.Frag} {mg : Str → Option Value} {base : Heap} {CV CN CU : Addr}
theorem ok_vl {f : Addr} {fd : FuncData} (F : Fun K "located" "View.located" sVl f fd) (T : ViewC K CV) (mLen : mg "len" = none) (mR : mg "range" = none) (mRv : mg "reversed" = none) : FnOk P w K mg base CX0 1 f fd ["self", "place"] (spVl K CV CN) := by
  refine F.ok (k := 0) scVl (fun vs H Q E h => ?_) (fun cdv A outer s H vs Q E hr h => ?_)
  · obtain ⟨x, sk, fs, p, rfl, _⟩ := h
    rfl
  · obtain ⟨x, sk, fs, p, rfl, hV, q⟩ := h
    refine ⟨_, pss_cons (ps_for PassesOwn.never rfl (pi_revR (by rfl) mRv (prg_1 (by rfl) mR (pe_callB call_len_seq (by rfl) mLen PySem.boot_len (pa_cons (pe_fld (pv 0) rfl) pa_nil)))) (pg_name (i := 2) scVl.nd rfl (.inl rfl)) pss_nv)
      (pss_one (ps_ret (pe_tup (pa_cons (pe_fld (pv 0) rfl) (pa_cons (pv 1) pa_nil))))), ?_⟩
    obtain ⟨dv, nm, S, T', v, h1, h2, h3, h4, h5⟩ := hV
    refine seq_postS (fun σ' H' => ∃ o2 o3 : Option V, σ' = [some (.ref x), some p, o2, o3] ∧ H' = H) (fun rr kk => ?_) (fun σ' H2 hh => ?_)
    · refine ⟨_, rfl, x, CV, dv, _, .ref T', rfl, h1, T.cl, T.n3, rfl, T', [], rfl, .inr h5, _, rfl, by decide, by decide, by decide, by decide, ?_⟩
      refine for_rangeC (fun i σ' H' => σ' = [some (.ref x), some p, none, none] ∧ H' = H) ⟨rfl, rfl⟩ (fun i σ H' hi => by cases hi) ?_
      rintro σ' H' ⟨rfl, rfl⟩
      exact kk _ _ ⟨_, _, rfl, rfl⟩
    · obtain ⟨o2, o3, rfl, rfl⟩ := hh
      refine ret_run ⟨_, rfl, x, CV, dv, _, .int 0, rfl, h1, T.cl, T.n4, rfl, _, rfl, few (by show 2 ≤ 1000; decide), fun a na => ?_⟩
      exact q _ a (same_new same_id na) (SqT.of upd_same)
theorem ok_vn {f fL fN : Addr} {fd dL dN : FuncData} (F : Fun K "node" "View.node" sVn f fd) (T : ViewC K CV)
    (mL : Meth K CV "located" fL) (GL : FnOk P w K mg base CX0 1 fL dL ["self", "place"] (spVl K CV CN)) (bL : Binds K dL ["self", "place"] [])
    (GN : FnOk P w K mg base CX0 3 fN dN ["node", "place"] (spNa K)) (mN : mg "node_at" = some (.ref fN)) (kN : PySem.W.keepIn K (.ref fN) = true) (bN : Binds K dN ["node", "place"] []) : FnOk P w K mg base CX0 4 f fd ["self", "place"] (spVn K CV CN) := by
  refine F.ok (k := 3) scVn (fun vs H Q E h => ?_) (fun cdv A outer s H vs Q E hr h => ?_)
  · obtain ⟨x, sk, fs, p, pl, rfl, _⟩ := h
    rfl
  · obtain ⟨x, sk, fs, p, pl, rfl, hV, hp, q⟩ := h
    have hr1 := hr.mono (show 1 ≤ 3 by decide)
    refine ⟨_, pss_cons (ps_asg (pe_meth (pv 0) T.cl mL GL hr1 bL .nil pass0 (pa_cons (pv 1) pa_nil)) (pg_tup rfl (pgs_cons (pg_name (i := 2) scVn.nd rfl (.inl rfl)) (pgs_cons (pg_name (i := 3) scVn.nd rfl (.inl rfl)) pgs_nil))))
      (pss_one (ps_ret (pe_call GN hr (by rfl) mN kN bN .nil pass0 (pa_cons (pe_ix ix_tup (pe_fld (pv 0) rfl) (pv 2) (fun _ _ => rfl)) (pa_cons (pv 3) pa_nil))))), ?_⟩
    have hV0 := hV
    obtain ⟨dv, nm, S, T', v, h1, h2, h3, h4, h5⟩ := hV
    cases pl with
    | tup st =>
      refine ⟨_, rfl, x, dv, _, rfl, h1, rfl, _, rfl, x, sk, fs, p, rfl, hV0, fun H1 A1 s1 hA => ?_⟩
      refine ⟨A1, _, rfl, hA, rfl, _, _, rfl, _, _, rfl, rfl, ?_⟩
      refine ⟨_, rfl, x, CV, dv, _, .ref S, rfl, s1 _ _ h1, T.cl, T.n2, rfl, _, rfl, S, _, 0, v, rfl, rfl, same_seqT s1 h3, at_0 _ _, _, rfl, v, sk, p, st, rfl, h4.same s1, hp.same s1, ?_⟩
      exact q.up s1
    | _ => exact q.elim
theorem ok_vd {f fL : Addr} {fd dL : FuncData} (F : Fun K "demand" "View.demand" sVd f fd) (T : ViewC K CV)
    (mL : Meth K CV "located" fL) (GL : FnOk P w K mg base CX0 1 fL dL ["self", "place"] (spVl K CV CN)) (bL : Binds K dL ["self", "place"] [])
    (T3 : Cl3 K CU "number" "place" "question") (R3 : ClR K CU) (mU : mg "Unsettled" = some (.ref CU)) : FnOk P w K mg base (L2.CX P w) 2 f fd ["self", "place", "question"] (spVd K CV CN CU) := by
  refine F.okX (k := 1) scVd (fun vs H Q E h => ?_) (fun cdv A outer s H vs Q E hr h => ?_)
  · obtain ⟨x, sk, fs, p, u, pl, qu, rfl, _⟩ := h
    rfl
  · obtain ⟨x, sk, fs, p, u, pl, qu, rfl, hV, hp, hu, q⟩ := h
    have tk : Takes (cxOf (L2.CX P w) P w K mg base ["self", "place", "question", "number", "inner"] "View.demand" (defScope sVd) f cdv A outer s H E) (fun cls d _ H' => E cls d H') := takes_of rfl rfl rfl rfl
    refine ⟨_, pss_cons (ps_asg (pe_meth (pv 0) T.cl mL GL hr bL .nil pass0 (pa_cons (pv 1) pa_nil)) (pg_tup rfl (pgs_cons (pg_name (i := 3) scVd.nd rfl (.inl rfl)) (pgs_cons (pg_name (i := 4) scVd.nd rfl (.inl rfl)) pgs_nil))))
      (pss_one (ps_raise rfl tk (pmk_x3 T3 R3 hr mU (by rfl) (pa_cons (pv 3) (pa_cons (pv 4) (pa_cons (pv 2) pa_nil)))))), ?_⟩
    have hV0 := hV
    obtain ⟨dv, nm, S, T', v, h1, h2, h3, h4, h5⟩ := hV
    refine ⟨_, rfl, x, dv, _, rfl, h1, rfl, _, rfl, x, sk, fs, p, rfl, hV0, fun H1 A1 s1 hA => ?_⟩
    refine ⟨A1, _, rfl, hA, rfl, _, _, rfl, _, _, rfl, rfl, ?_⟩
    refine ⟨_, rfl, _, rfl, _, rfl, _, _, _, rfl, fun dd nd => ?_⟩
    have s2 := s1.trans (same_new (u := .xd [("question", u), ("place", p), ("number", .int 0)]) same_id nd)
    exact q _ dd p u (.int 0) s2 upd_same (hp.same s2) (hu.same s2)
theorem ok_vo {f fN fK fD : Addr} {fd dN dK dD : FuncData} (F : Fun K "is_of" "View.is_of" sVo f fd) (T : ViewC K CV)
    (mN : Meth K CV "node" fN) (GN : FnOk P w K mg base CX0 4 fN dN ["self", "place"] (spVn K CV CN)) (bN : Binds K dN ["self", "place"] [])
    (GK : FnOk P w K mg base CX0 2 fK dK ["node"] (spSk K)) (mK : mg "sort_known" = some (.ref fK)) (kK : PySem.W.keepIn K (.ref fK) = true) (bK : Binds K dK ["node"] [])
    (mD : Meth K CV "demand" fD) (GD : FnOk P w K mg base (L2.CX P w) 2 fD dD ["self", "place", "question"] (spVd K CV CN CU)) (bD : Binds K dD ["self", "place", "question"] []) (mLen : mg "len" = none) :
    FnOk P w K mg base (L2.CX P w) 5 f fd ["self", "place", "sort"] (spVo K CV CN CU) := by
  refine F.okX (k := 4) scVo (fun vs H Q E h => ?_) (fun cdv A outer s H vs Q E hr h => ?_)
  · obtain ⟨x, sk, fs, p, pl, s, rfl, _⟩ := h
    rfl
  · obtain ⟨x, sk, fs, p, pl, sr, rfl, hV, hp, q⟩ := h
    have hr2 := hr.mono (show 2 ≤ 4 by decide)
    refine ⟨_, pss_cons (ps_set (i := 3) scVo.nd rfl (Or.inl rfl) (pe_meth (pv 0) T.cl mN GN hr bN .nil pass0 (pa_cons (pv 1) pa_nil)))
      (pss_cons (ps_if (pt_cmpR op_ne (pe_ix ix_tup (pv 3) pe_int (fun _ _ => rfl)) pe_str (nomark _)) (pss_one (ps_ret (pe_cmpR op_eq (pe_call GK hr2 (by rfl) mK kK bK .nil pass0 (pa_cons (pv 3) pa_nil)) (pv 2) (nomark _)))) pss_nil)
      (pss_cons (ps_if (pt_cmpR op_eq (pe_callB call_len_seq (by rfl) mLen PySem.boot_len (pa_cons (pv 3) pa_nil)) pe_int (nomark _)) (pss_one (ps_expr (pe_meth (E := E) (pv 0) T.cl mD GD hr2 bD .nil (passes_call (takes_of rfl rfl rfl rfl) fun cls d _ H h => h) (pa_cons (pv 1) (pa_cons (pe_tup (pa_cons pe_str pa_nil)) pa_nil))))) pss_nil) pss_nv)), ?_⟩
    have hV0 := hV
    obtain ⟨dv, nm, S, T', v, h1, h2, h3, h4, h5⟩ := hV
    unfold isOfT at q
    refine asg_run ⟨_, rfl, x, dv, _, rfl, h1, rfl, _, rfl, x, sk, fs, p, pl, rfl, hV0, hp, ?_⟩
    cases hn : nodeV sk pl with
    | none => rw [hn] at q; exact q.elim
    | some nd =>
      intro H1 vn s1 hvn
      rw [hn] at q
      have hform : ∃ wd rest, nd = .tup (.str wd :: rest) := by
        split at q
        · rename_i e; injection e with e; exact ⟨_, _, e⟩
        · exact q.elim
      obtain ⟨wd, rest, rfl⟩ := hform
      dsimp only at q
      obtain ⟨b, ws, rfl, hb, hws⟩ := hvn.tup
      obtain ⟨v0, us1, rfl, h0, hl1⟩ := hws.cons
      obtain rfl := h0.str
      refine ⟨_, rfl, b, _, 0, _, rfl, rfl, hb, at_0 _ _, rfl, _, rfl, ?_⟩
      rw [dec_s]
      by_cases c : wd = "hole"
      · rw [if_pos c] at q
        rw [decide_eq_true c]
        refine iteF (nx_run ?_)
        dsimp only
        cases rest with
        | cons _ _ => exact q.elim
        | nil =>
          obtain rfl := hl1.nil
          refine ⟨_, rfl, b, _, rfl, .inr hb, rfl, _, rfl, iteT ?_⟩
          refine ⟨_, rfl, x, dv, _, rfl, s1 _ _ h1, rfl, _, rfl, few (by show 1 ≤ 1000; decide), fun A1 nA => ?_⟩
          have s2 := s1.trans (same_new (u := .tup [.str "sort"]) same_id nA)
          exact ⟨x, sk, fs, p, .ref A1, pl, _, rfl, hV0.same s2, hp.same s2, pt_tup (SqT.of upd_same) (ptl_cons (pt_str "sort") ptl_nil), Askd.up q s2⟩
      · rw [if_neg c] at q
        rw [decide_eq_false c]
        refine iteT (ret_run ?_)
        refine ⟨_, rfl, .ref b, wd, rest, rfl, hvn, ?_⟩
        cases hs : sortK wd rest with
        | none => rw [hs] at q; exact q.elim
        | some y =>
          rw [hs] at q
          refine ⟨_, rfl, rfl, ?_⟩
          rw [dec_s]
          exact q _ _ s1 rfl
theorem ok_vx {f fN fD : Addr} {fd dN dD : FuncData} (F : Fun K "has_index" "View.has_index" sVx f fd) (T : ViewC K CV)
    (mN : Meth K CV "node" fN) (GN : FnOk P w K mg base CX0 4 fN dN ["self", "place"] (spVn K CV CN)) (bN : Binds K dN ["self", "place"] [])
    (mD : Meth K CV "demand" fD) (GD : FnOk P w K mg base (L2.CX P w) 2 fD dD ["self", "place", "question"] (spVd K CV CN CU)) (bD : Binds K dD ["self", "place", "question"] []) (mLen : mg "len" = none) :
    FnOk P w K mg base (L2.CX P w) 5 f fd ["self", "place", "index"] (spVx K CV CN CU) := by
  refine F.okX (k := 4) scVx (fun vs H Q E h => ?_) (fun cdv A outer s H vs Q E hr h => ?_)
  · obtain ⟨x, sk, fs, p, pl, s, rfl, _⟩ := h
    rfl
  · obtain ⟨x, sk, fs, p, pl, i, rfl, hV, hp, q⟩ := h
    have hr2 := hr.mono (show 2 ≤ 4 by decide)
    refine ⟨_, pss_cons (ps_set (i := 3) scVx.nd rfl (Or.inl rfl) (pe_meth (pv 0) T.cl mN GN hr bN .nil pass0 (pa_cons (pv 1) pa_nil)))
      (pss_cons (ps_if (pt_cmpR op_lt (pv 2) (pe_callB call_len_seq (by rfl) mLen PySem.boot_len (pa_cons (pe_ix ix_tup (pv 3) pe_int (fun _ _ => rfl)) pa_nil)) (nomark _)) (pss_one (ps_ret pe_bl)) pss_nil)
      (pss_cons (ps_if (pt_not (pt_truth (pe_ix ix_tup (pv 3) pe_int (fun _ _ => rfl)) (by intro _; rfl))) (pss_one (ps_expr (pe_meth (E := E) (pv 0) T.cl mD GD hr2 bD .nil (passes_call (takes_of rfl rfl rfl rfl) fun cls d _ H h => h) (pa_cons (pv 1) (pa_cons (pe_tup (pa_cons pe_str pa_nil)) pa_nil))))) pss_nil)
      (pss_one (ps_ret pe_bl)))), ?_⟩
    have hV0 := hV
    obtain ⟨dv, nm, S, T', v, h1, h2, h3, h4, h5⟩ := hV
    unfold hasIxT at q
    refine asg_run ⟨_, rfl, x, dv, _, rfl, h1, rfl, _, rfl, x, sk, fs, p, pl, rfl, hV0, hp, ?_⟩
    cases hn : nodeV sk pl with
    | none => rw [hn] at q; exact q.elim
    | some nd =>
      intro H1 vn s1 hvn
      rw [hn] at q
      have hform : ∃ wd items bb rest, nd = .tup (.str wd :: .tup items :: .bl bb :: rest) := by
        split at q
        · rename_i e; injection e with e; exact ⟨_, _, _, _, e⟩
        · exact q.elim
      obtain ⟨wd, items, bb, rest, rfl⟩ := hform
      dsimp only at q
      obtain ⟨b, ws, rfl, hb, hws⟩ := hvn.tup
      obtain ⟨v0, us1, rfl, h0, hl1⟩ := hws.cons
      obtain ⟨v1, us2, rfl, h1', hl2⟩ := hl1.cons
      obtain ⟨v2, us3, rfl, h2', hl3⟩ := hl2.cons
      obtain ⟨c, zs, rfl, hc, hzs⟩ := h1'.tup
      obtain rfl := h2'.bl
      refine ⟨_, rfl, _, rfl, b, _, 1, _, rfl, rfl, hb, atI_nat (j := 1) rfl, c, zs, rfl, .inr hc, _, _, rfl, rfl, _, rfl, ?_⟩
      rw [show decide (i < (zs.length : Int)) = decide (i < (items.length : Int)) by rw [hzs.len]]
      by_cases hi : i < (items.length : Int)
      · rw [if_pos hi] at q
        rw [decide_eq_true hi]
        exact iteT (ret_run (q _ _ s1 rfl))
      rw [if_neg hi] at q
      rw [decide_eq_false hi]
      refine iteF (nx_run ?_)
      dsimp only
      refine ⟨_, rfl, b, _, 2, _, rfl, rfl, hb, atI_nat (j := 2) rfl, bb, rfl, ?_⟩
      cases bb with
      | true =>
        rw [if_pos rfl] at q
        refine iteF (nx_run ?_)
        dsimp only
        exact ret_run (q _ _ s1 rfl)
      | false =>
        rw [if_neg (by decide)] at q
        refine iteT ?_
        refine ⟨_, rfl, x, dv, _, rfl, s1 _ _ h1, rfl, _, rfl, few (by show 1 ≤ 1000; decide), fun A1 nA => ?_⟩
        have s2 := s1.trans (same_new (u := .tup [.str "more"]) same_id nA)
        exact ⟨x, sk, fs, p, .ref A1, pl, _, rfl, hV0.same s2, hp.same s2, pt_tup (SqT.of upd_same) (ptl_cons (pt_str "more") ptl_nil), Askd.up q s2⟩
end
end Toy


namespace Toy
open PySem PySem.Spec L2 PyProof.Rows PySem.W
def spVe (K : PySem.W.Frag) (CV CN CU : Addr) : Sp := fun vs H Q E => ∃ (x : Addr) (sk : Dt) (fs : List Str) (p u : V) (pl lf : Dt), vs = [.ref x, p, u] ∧ ViewAt K CV CN H x sk fs ∧ Pt K H p pl ∧ Pt K H u lf ∧ Ans K CU H Q E GB (isEqT sk pl lf)
def spVh (K : PySem.W.Frag) (CV CN CU : Addr) : Sp := fun vs H Q E => ∃ (x : Addr) (sk : Dt) (fs : List Str) (p u : V) (pl st : Dt), vs = [.ref x, p, u] ∧ ViewAt K CV CN H x sk fs ∧ Pt K H p pl ∧ Pt K H u st ∧ Ans K CU H Q E GB (hasT fs sk pl st)
def spVk (K : PySem.W.Frag) (CV CN CU : Addr) : Sp := fun vs H Q E => ∃ (x : Addr) (sk : Dt) (fs : List Str) (p : V) (pl : Dt) (k : Str), vs = [.ref x, p, .str k] ∧ ViewAt K CV CN H x sk fs ∧ Pt K H p pl ∧ Ans K CU H Q E GB (hasKeyT fs sk pl k)
def GKs : List Str → Hp → V → Prop := fun ks H v => ∃ a, v = .ref a ∧ H a = some (.lst (ks.map V.str))
def spVg (K : PySem.W.Frag) (CV CN CU : Addr) : Sp := fun vs H Q E => ∃ (x : Addr) (sk : Dt) (fs : List Str) (p : V) (pl : Dt) (n : Nat), vs = [.ref x, p, .int (n : Int)] ∧ ViewAt K CV CN H x sk fs ∧ Pt K H p pl ∧ Ans K CU H Q E GKs (gapKT sk pl n)
theorem scVe : FnScope ["self", "place", "leaf", "node"] ["self", "place", "leaf"] (defScope sVe) := ⟨rfl, rfl, rfl, by decide +kernel, rfl, by decide +kernel, by decide +kernel⟩
theorem scVh : FnScope ["self", "place", "step"] ["self", "place", "step"] (defScope sVh) := ⟨rfl, rfl, rfl, by decide +kernel, rfl, by decide +kernel, by decide +kernel⟩
abbrev NVk : List Str := ["self", "place", "key", "node", "told", "_"]
theorem scVk : FnScope NVk ["self", "place", "key"] (defScope sVk) := ⟨rfl, rfl, rfl, by decide +kernel, rfl, by decide +kernel, by decide +kernel⟩
abbrev NVg : List Str := ["self", "place", "number", "gap", "key", "_"]
theorem scVg : FnScope NVg ["self", "place", "number"] (defScope sVg) := ⟨rfl, rfl, rfl, by decide +kernel, rfl, by decide +kernel, by decide +kernel⟩
theorem ans_and {α : Type} {K : PySem.W.Frag} {CU : Addr} {H : Hp} {Q : VK} {E : XK} {G : α → Hp → V → Prop} {a : Option (An Bool)} {b : Option (An α)} {no : An α} (q : Ans K CU H Q E G (andThen a b no)) (Q1 : VK)
    (h1 : ∀ H', Same H H' → Ans K CU H' Q E G b → Q1 (.bl true) H') (h0 : ∀ H', Same H H' → Ans K CU H' Q E G (some no) → Q1 (.bl false) H') : Ans K CU H Q1 E GB a := by
  cases a with
  | none => exact q.elim
  | some r =>
    cases r with
    | ask x y => exact q
    | ok c =>
      intro H' v s e
      obtain rfl := e
      cases c with
      | true => exact h1 H' s (Ans.up q s)
      | false => exact h0 H' s (Ans.up q s)
theorem ans_or {K : PySem.W.Frag} {CU : Addr} {H : Hp} {Q : VK} {E : XK} {a b : Option (An Bool)} (q : Ans K CU H Q E GB (match a with
      | some (.ok false) => b
      | x => x)) (Q1 : VK)
    (h1 : ∀ H', Same H H' → Ans K CU H' Q E GB b → Q1 (.bl false) H') (h0 : ∀ H', Same H H' → Q (.bl true) H' → Q1 (.bl true) H') : Ans K CU H Q1 E GB a := by
  cases a with
  | none => exact q.elim
  | some r =>
    cases r with
    | ask x y => exact q
    | ok c =>
      intro H' v s e
      obtain rfl := e
      cases c with
      | true => exact h0 H' s (q H' _ s rfl)
      | false => exact h1 H' s (Ans.up q s)
theorem keysP_get : ∀ {ps : List Dt} {ks : List Str} {j : Nat} {t : Dt}, keysP ps = some ks → ps[j]? = some t → ∃ k part, t = .tup [.str k, part] ∧ ks[j]? = some k
  | [], ks, j, t, h, ht => by simp at ht
  | e :: r, ks, j, t, h, ht => by
    unfold keysP at h
    split at h
    · rename_i q; cases q
    · rename_i k p r' q
      injection q with q1 q2
      subst q1 q2
      split at h
      · rename_i ks' hk
        obtain rfl := Option.some.inj h
        cases j with
        | zero => cases ht; exact ⟨_, _, rfl, rfl⟩
        | succ j =>
          obtain ⟨k', p', e1, e2⟩ := keysP_get hk (by simpa using ht)
          exact ⟨k', p', e1, by simpa using e2⟩
      · cases h
    · cases h
theorem keysP_len : ∀ {ps : List Dt} {ks : List Str}, keysP ps = some ks → ks.length = ps.length
  | [], ks, h => by
    unfold keysP at h
    obtain rfl := Option.some.inj h
    rfl
  | e :: r, ks, h => by
    unfold keysP at h
    split at h
    · rename_i q; cases q
    · rename_i k p r' q
      injection q with q1 q2
      subst q1 q2
      split at h
      · rename_i ks' hk
        obtain rfl := Option.some.inj h
        simp [keysP_len hk]
      · cases h
    · cases h
theorem keysQ_of {ps : List Dt} {ks : List Str} (h : keysQ ps = some ks) : keysP ps = some ks ∧ ps.length ≤ 1000 := by
  unfold keysQ at h
  split at h
  · exact ⟨h, by assumption⟩
  · cases h
section
variable {P : Program} {w : World} {K : PySem.W.Frag} {mg : Str → Option Value} {base : Heap} {CV CN CU : Addr}
theorem ok_ve {f fN fO fS fA fD : Addr} {fd dN dO dS dA dD : FuncData} (F : Fun K "is_equal" "View.is_equal" sVe f fd) (T : ViewC K CV)
    (mO : Meth K CV "is_of" fO) (GO : FnOk P w K mg base (L2.CX P w) 5 fO dO ["self", "place", "sort"] (spVo K CV CN CU)) (bO : Binds K dO ["self", "place", "sort"] [])
    (GS : FnOk P w K mg base CX0 1 fS dS ["datum"] (spSo K)) (mS : mg "sort_of" = some (.ref fS)) (kS : PySem.W.keepIn K (.ref fS) = true) (bS : Binds K dS ["datum"] [])
    (GA : FnOk P w K mg base CX0 2 fA dA ["one", "other"] (spAl K)) (mA : mg "alike" = some (.ref fA)) (kA : PySem.W.keepIn K (.ref fA) = true) (bA : Binds K dA ["one", "other"] [])
    (mN : Meth K CV "node" fN) (GN : FnOk P w K mg base CX0 4 fN dN ["self", "place"] (spVn K CV CN)) (bN : Binds K dN ["self", "place"] [])
    (mD : Meth K CV "demand" fD) (GD : FnOk P w K mg base (L2.CX P w) 2 fD dD ["self", "place", "question"] (spVd K CV CN CU)) (bD : Binds K dD ["self", "place", "question"] []) :
    FnOk P w K mg base (L2.CX P w) 6 f fd ["self", "place", "leaf"] (spVe K CV CN CU) := by
  refine F.okX (k := 5) scVe (fun vs H Q E h => ?_) (fun cdv A outer s H vs Q E hr h => ?_)
  · obtain ⟨x, sk, fs, p, u, pl, lf, rfl, _⟩ := h
    rfl
  · obtain ⟨x, sk, fs, p, u, pl, lf, rfl, hV, hp, hu, q⟩ := h
    have hr1 := hr.mono (show 1 ≤ 5 by decide)
    have hr2 := hr.mono (show 2 ≤ 5 by decide)
    have hr4 := hr.mono (show 4 ≤ 5 by decide)
    refine ⟨_, pss_cons (ps_if (pt_not (pt_val (pe_meth (E := E) (pv 0) T.cl mO GO hr bO .nil (passes_call (takes_of rfl rfl rfl rfl) fun cls d _ H h => h) (pa_cons (pv 1) (pa_cons (pe_call GS hr1 (by rfl) mS kS bS .nil pass0 (pa_cons (pv 2) pa_nil)) pa_nil))))) (pss_one (ps_ret pe_bl)) pss_nil)
      (pss_cons (ps_set (i := 3) scVe.nd rfl (Or.inl rfl) (pe_meth (pv 0) T.cl mN GN hr4 bN .nil pass0 (pa_cons (pv 1) pa_nil)))
      (pss_cons (ps_if (pt_cmpR op_in_seq (pe_ix ix_tup (pv 3) pe_int (fun _ _ => rfl)) (pe_tup (pa_cons pe_str (pa_cons pe_str pa_nil))) (by rfl)) (pss_one (ps_expr (pe_meth (E := E) (pv 0) T.cl mD GD hr2 bD .nil (passes_call (takes_of rfl rfl rfl rfl) fun cls d _ H h => h) (pa_cons (pv 1) (pa_cons (pe_tup (pa_cons pe_str pa_nil)) pa_nil))))) pss_nil)
      (pss_cons (ps_if (pt_cmpR op_eq (pe_ix ix_tup (pv 3) pe_int (fun _ _ => rfl)) pe_str (nomark _)) (pss_one (ps_ret (pe_call GA hr2 (by rfl) mA kA bA .nil pass0 (pa_cons (pe_ix ix_tup (pv 3) pe_int (fun _ _ => rfl)) (pa_cons (pv 2) pa_nil))))) pss_nil)
      (pss_cons (ps_if (PW.pt (pw_or (pt_cmpR op_ne (pe_ix ix_tup (pv 3) pe_int (fun _ _ => rfl)) pe_str (nomark _)) (pw_or1 pt_nv))) (pss_one (ps_ret pe_bl)) pss_nil) pss_nv)))), ?_⟩
    have hV0 := hV
    obtain ⟨dv, nm, S, T', v, h1, h2, h3, h4, h5⟩ := hV
    refine ⟨_, rfl, x, dv, _, rfl, h1, rfl, _, rfl, _, rfl, u, lf, rfl, hu, x, sk, fs, p, pl, sortT lf, rfl, hV0, hp, ?_⟩
    unfold isEqT at q
    cases ho : isOfT sk pl (sortT lf) with
    | none => rw [ho] at q; exact q.elim
    | some an =>
      rw [ho] at q
      cases an with
      | ask a b => exact q
      | ok b =>
        intro H1 v' s1 e
        obtain rfl := e
        cases b with
        | false => exact ⟨_, rfl, iteT (ret_run (q _ _ s1 rfl))⟩
        | true =>
          refine ⟨_, rfl, iteF (nx_run ?_)⟩
          dsimp only at q ⊢
          refine asg_run ⟨_, rfl, x, dv, _, rfl, s1 _ _ h1, rfl, _, rfl, x, sk, fs, p, pl, rfl, hV0.same s1, hp.same s1, ?_⟩
          cases hn : nodeV sk pl with
          | none => rw [hn] at q; exact q.elim
          | some nd =>
            intro H2 vn s2 hvn
            rw [hn] at q
            have hform : ∃ wd rest, nd = .tup (.str wd :: rest) := by
              split at q
              · rename_i e; injection e with e; exact ⟨_, _, e⟩
              · exact q.elim
            obtain ⟨wd, rest, rfl⟩ := hform
            dsimp only at q
            obtain ⟨b, ws, rfl, hb, hws⟩ := hvn.tup
            obtain ⟨v0, us1, rfl, h0, hl1⟩ := hws.cons
            obtain rfl := h0.str
            refine ⟨_, rfl, b, _, 0, _, rfl, rfl, hb, at_0 _ _, few (by show 2 ≤ 1000; decide), fun A1 nA => ?_⟩
            have sA := same_new (u := .tup [.str "number", .str "text"]) (same_id (H := H2)) nA
            refine ⟨A1, _, rfl, .inr (SqT.of upd_same), rfl, rfl, _, rfl, ?_⟩
            have e2 : (if false = true then !inV (V.str wd) [V.str "number", V.str "text"] else inV (V.str wd) [V.str "number", V.str "text"]) = decide (wd = "number" ∨ wd = "text") := by
              rw [if_neg (by decide), show ([V.str "number", V.str "text"] : List V) = (["number", "text"] : List Str).map V.str from rfl, inV_strs]
              simp
            rw [e2]
            have s3 := s1.trans (s2.trans sA)
            generalize upd H2 A1 _ = H3 at sA s3 ⊢
            by_cases c1 : wd = "number" ∨ wd = "text"
            · rw [if_pos c1] at q
              rw [decide_eq_true c1]
              refine iteT ?_
              refine ⟨_, rfl, x, dv, _, rfl, s3 _ _ h1, rfl, _, rfl, few (by show 1 ≤ 1000; decide), fun A2 nA2 => ?_⟩
              have s4 := s3.trans (same_new (u := .tup [.str "value"]) same_id nA2)
              exact ⟨x, sk, fs, p, .ref A2, pl, _, rfl, hV0.same s4, hp.same s4, pt_tup (SqT.of upd_same) (ptl_cons (pt_str "value") ptl_nil), Askd.up q s4⟩
            rw [if_neg c1] at q
            rw [decide_eq_false c1]
            refine iteF (nx_run ?_)
            dsimp only
            have hb3 := same_seqT sA hb
            refine ⟨_, rfl, b, _, 0, _, rfl, rfl, hb3, at_0 _ _, rfl, _, rfl, ?_⟩
            rw [dec_s]
            by_cases c2 : wd = "leaf"
            · rw [if_pos c2] at q
              rw [decide_eq_true c2]
              cases rest with
              | nil => exact q.elim
              | cons t ts =>
                obtain ⟨v1, us2, rfl, h1', _⟩ := hl1.cons
                dsimp only at q
                by_cases cl : isLf t = true ∧ isLf lf = true
                · rw [if_pos cl] at q
                  refine iteT (ret_run ⟨_, rfl, b, _, 1, v1, rfl, rfl, hb3, atI_nat (j := 1) rfl, _, rfl, v1, t, u, lf, rfl, h1'.same sA, hu.same s3, cl.1, cl.2, fun H4 s4 => q _ _ (s3.trans s4) rfl⟩)
                · rw [if_neg cl] at q
                  exact q.elim
            rw [if_neg c2] at q
            rw [decide_eq_false c2]
            refine iteF (nx_run ?_)
            dsimp only
            by_cases c3 : wd = "among"
            · rw [if_pos c3] at q
              exact q.elim
            rw [if_neg c3] at q
            refine ⟨_, rfl, b, _, 0, _, rfl, rfl, hb3, at_0 _ _, rfl, _, rfl, ?_⟩
            rw [dec_s, decide_eq_false c3]
            exact iteT (iteT (ret_run (q _ _ s3 rfl)))
theorem ok_vk {f fN fI fD : Addr} {fd dN dI dD : FuncData} (F : Fun K "has_key" "View.has_key" sVk f fd) (T : ViewC K CV) (TN : NamC K CN)
    (GI : FnOk P w K mg base CX0 2 fI dI ["node", "step"] (spNi K)) (mI : mg "node_in" = some (.ref fI)) (kI : PySem.W.keepIn K (.ref fI) = true) (bI : Binds K dI ["node", "step"] [])
    (mN : Meth K CV "node" fN) (GN : FnOk P w K mg base CX0 4 fN dN ["self", "place"] (spVn K CV CN)) (bN : Binds K dN ["self", "place"] [])
    (mD : Meth K CV "demand" fD) (GD : FnOk P w K mg base (L2.CX P w) 2 fD dD ["self", "place", "question"] (spVd K CV CN CU)) (bD : Binds K dD ["self", "place", "question"] []) :
    FnOk P w K mg base (L2.CX P w) 5 f fd ["self", "place", "key"] (spVk K CV CN CU) := by
  refine F.okX (k := 4) scVk (fun vs H Q E h => ?_) (fun cdv A outer s H vs Q E hr h => ?_)
  · obtain ⟨x, sk, fs, p, pl, k, rfl, _⟩ := h
    rfl
  · obtain ⟨x, sk, fs, p, pl, k, rfl, hV, hp, q⟩ := h
    have hr2 := hr.mono (show 2 ≤ 4 by decide)
    refine ⟨_, pss_cons (ps_if (pt_cmpR op_notIn_seq (pv 2) (pe_fld (pe_fld (pv 0) rfl) rfl) (by rfl)) pss_nv pss_nil)
      (pss_cons (ps_set (i := 3) scVk.nd rfl (Or.inl rfl) (pe_meth (pv 0) T.cl mN GN hr bN .nil pass0 (pa_cons (pv 1) pa_nil)))
      (pss_cons (ps_if (pt_cmpR op_notIn_seq (pv 2) (pe_lc (own := [("told", 4), ("_", 5)]) (g := gTup K 2 (gCons (gName 4) (gCons (gName 5) gNil))) (te := tVar 4) (by rfl) scVk.nd (pi_tup (pe_ix ix_tup (pv 3) pe_int (fun _ _ => rfl)))
            (blkOk_by (own := [("told", 4), ("_", 5)]) (N := NVk) (sc := defScope sVk) (by decide +kernel)) (fun _ _ _ _ _ => by exact (pg_tup rfl (pgs_cons (by exact (pg_name (i := 4) scVk.nd rfl (Or.inl rfl))) (pgs_cons (by exact (pg_name (i := 5) scVk.nd rfl (Or.inl rfl))) pgs_nil)))) (fun _ _ _ _ _ => pts_nil)
            (fun _ _ _ _ _ => pv 4)) (by rfl))
          (pss_one (ps_expr (pe_meth (E := E) (pv 0) T.cl mD GD hr2 bD .nil (passes_call (takes_of rfl rfl rfl rfl) fun cls d _ H h => h) (pa_cons (pv 1) (pa_cons (pe_tup (pa_cons pe_str (pa_cons (pv 2) pa_nil))) pa_nil))))) pss_nil)
      (pss_one (ps_ret (pe_cmpR op_notN (pe_call GI hr2 (by rfl) mI kI bI .nil pass0 (pa_cons (pv 3) (pa_cons (pv 2) pa_nil))) pe_non (nomark _)))))), ?_⟩
    have hV0 := hV
    obtain ⟨dv, nm, S, T', v, h1, hN, h3, h4, h5⟩ := hV
    obtain ⟨dn, TF, a1, a2, a3, a4, hn1, hn2⟩ := hN
    unfold hasKeyT at q
    by_cases hin : k ∈ fs
    · rw [if_pos hin] at q
      refine ⟨_, rfl, _, rfl, x, CV, dv, _, .ref nm, rfl, h1, T.cl, T.n1, rfl, nm, CN, dn, _, .ref TF, rfl, hn1, TN.cl, TN.n1, rfl, TF, _, rfl, .inr hn2, rfl, flat_strs fs, _, rfl, ?_⟩
      rw [inV_strs, decide_eq_true hin]
      refine iteF (nx_run ?_)
      dsimp only
      refine asg_run ⟨_, rfl, x, dv, _, rfl, h1, rfl, _, rfl, x, sk, fs, p, pl, rfl, hV0, hp, ?_⟩
      cases hn : nodeV sk pl with
      | none => rw [hn] at q; exact q.elim
      | some nd =>
        intro H1 vn s1 hvn
        rw [hn] at q
        have hform : ∃ wd ps gs, nd = .tup [.str wd, .tup ps, .tup gs] := by
          split at q
          · rename_i e; injection e with e; exact ⟨_, _, _, e⟩
          · exact q.elim
        obtain ⟨wd, ps, gs, rfl⟩ := hform
        dsimp only at q
        obtain ⟨b, ws, rfl, hb, hws⟩ := hvn.tup
        obtain ⟨v0, us1, rfl, h0, hl1⟩ := hws.cons
        obtain ⟨v1, us2, rfl, h1', hl2⟩ := hl1.cons
        obtain ⟨c, zs, rfl, hc, hzs⟩ := h1'.tup
        cases hk : keysQ ps with
        | none => rw [hk] at q; exact q.elim
        | some ks =>
          rw [hk] at q
          dsimp only at q
          obtain ⟨hk1, hk2⟩ := keysQ_of hk
          refine ⟨_, rfl, _, rfl, b, _, 1, _, rfl, rfl, hb, atI_nat (j := 1) rfl, c, rfl, ⟨zs, hc⟩, fun D nD => ?_⟩
          refine lc_tup (K := K) (a := c) (xs := zs) (fun j H' => Same H1 H' ∧ H' D = some (.lst ((ks.take j).map V.str))) ⟨same_new same_id nD, upd_same⟩ (fun j H' _ h => same_seqT h.1 hc) ?_ ?_
          · rintro j z H' hz ⟨s7, hD⟩
            obtain ⟨t, ht, hzt⟩ := hzs.get hz
            obtain ⟨kk, part, rfl, hkj⟩ := keysP_get hk1 ht
            obtain ⟨e, u, rfl, he, hu2⟩ := pair_vals hzt
            have hjl := (List.getElem?_eq_some_iff.mp ht).1
            refine ⟨e, _, rfl, same_seqT s7 he, rfl, _, _, rfl, _, _, rfl, rfl, rfl, _, rfl, (ks.take j).map V.str, hD, ?_, ?_, ?_⟩
            · rw [List.length_map, List.length_take]
              exact Nat.lt_of_le_of_lt (Nat.min_le_left _ _) (Nat.lt_of_lt_of_le (Nat.lt_of_lt_of_le hjl hk2) (by rw [sizeLine_eq]; decide))
            · exact fun b' o ho => (upd_ne (ne_of_none ho nD)).trans (s7 _ _ ho)
            · rw [upd_same, List.take_add_one, hkj, List.map_append]
              rfl
          · rintro H2 ⟨s2, hD⟩
            rw [List.take_of_length_le (by rw [keysP_len hk1, hzs.len]; exact Nat.le_refl _)] at hD
            refine ⟨D, _, rfl, .inl (SqL.of hD), rfl, flat_strs ks, _, rfl, ?_⟩
            rw [inV_strs]
            have s3 := s1.trans s2
            by_cases ci : k ∈ ks
            · rw [if_pos ci] at q
              rw [decide_eq_true ci]
              refine iteF (nx_run ?_)
              dsimp only
              refine ⟨_, rfl, _, rfl, .ref b, _, .str k, .str k, rfl, hvn.same s2, pt_str k, ?_⟩
              cases hni : nodeIn (.tup [.str wd, .tup ps, .tup gs]) (.str k) with
              | none => rw [hni] at q; exact q.elim
              | some m =>
                rw [hni] at q
                intro H3 v3 s4 p3
                refine ⟨rfl, ?_⟩
                rw [dec_non p3]
                cases m <;> exact q _ _ (s3.trans s4) rfl
            · rw [if_neg ci] at q
              rw [decide_eq_false ci]
              refine iteT ?_
              refine ⟨_, rfl, x, dv, _, rfl, s3 _ _ h1, rfl, _, rfl, _, rfl, few (by show 2 ≤ 1000; decide), fun A2 nA2 => ?_⟩
              have s4 := s3.trans (same_new (u := .tup [.str "key", .str k]) same_id nA2)
              exact ⟨x, sk, fs, p, .ref A2, pl, _, rfl, hV0.same s4, hp.same s4, pt_tup (SqT.of upd_same) (ptl_cons (pt_str "key") (ptl_cons (pt_str k) ptl_nil)), Askd.up q s4⟩
    · rw [if_neg hin] at q
      exact q.elim
end
end Toy


namespace Toy
open PySem PySem.Spec L2 PyProof.Rows PySem.W
def GPt (K : PySem.W.Frag) : Dt → Hp → V → Prop := fun t H v => Pt K H v t
def spVs (K : PySem.W.Frag) (CV CN CU : Addr) : Sp := fun vs H Q E => ∃ (x : Addr) (sk : Dt) (fs : List Str) (p u : V) (pl st : Dt), vs = [.ref x, p, u] ∧ ViewAt K CV CN H x sk fs ∧ Pt K H p pl ∧ Pt K H u st ∧ fs.length ≤ 1000 ∧ Ans K CU H Q E (GPt K) (behindT fs sk pl st)
abbrev NVs : List Str := ["self", "place", "step", "index", "fields", "number", "is_last", "key"]
theorem scVs : FnScope NVs ["self", "place", "step"] (defScope sVs) := ⟨rfl, rfl, rfl, by decide +kernel, rfl, by decide +kernel, by decide +kernel⟩
theorem gn_run {i : Nat} {v : V} {σ : L2.St} {H : Hp} {Q : L2.St → Hp → Prop} (h : Q (σ.set i (some v)) H) : gName i v σ H Q := h
theorem find_take {ks : List Str} {j : Nat} {k : Str} {p : Str → Bool} (hk : ks[j]? = some k) (hp : p k = true) (hn : (ks.take j).find? p = none) : ks.find? p = some k := by
  have hj := (List.getElem?_eq_some_iff.mp hk).1
  have e : ks = ks.take j ++ (k :: ks.drop (j + 1)) := by
    rw [← (List.getElem?_eq_some_iff.mp hk).2, ← List.drop_eq_getElem_cons hj, List.take_append_drop]
  rw [e, List.find?_append, hn]
  simp [hp]
section
variable {P : Program} {w : World} {K : PySem.W.Frag} {mg : Str → Option Value} {base : Heap} {CV CN CU : Addr}
theorem ok_vg {f fN fD : Addr} {fd dN dD : FuncData} (F : Fun K "gap_keys" "View.gap_keys" sVg f fd) (T : ViewC K CV)
    (mN : Meth K CV "node" fN) (GN : FnOk P w K mg base CX0 4 fN dN ["self", "place"] (spVn K CV CN)) (bN : Binds K dN ["self", "place"] [])
    (mD : Meth K CV "demand" fD) (GD : FnOk P w K mg base (L2.CX P w) 2 fD dD ["self", "place", "question"] (spVd K CV CN CU)) (bD : Binds K dD ["self", "place", "question"] []) :
    FnOk P w K mg base (L2.CX P w) 5 f fd ["self", "place", "number"] (spVg K CV CN CU) := by
  refine F.okX (k := 4) scVg (fun vs H Q E h => ?_) (fun cdv A outer s H vs Q E hr h => ?_)
  · obtain ⟨x, sk, fs, p, pl, k, rfl, _⟩ := h
    rfl
  · obtain ⟨x, sk, fs, p, pl, n, rfl, hV, hp, q⟩ := h
    have hr2 := hr.mono (show 2 ≤ 4 by decide)
    refine ⟨_, pss_cons (ps_set (i := 3) scVg.nd rfl (Or.inl rfl) (pe_ix ix_tup (pe_ix ix_tup (pe_meth (pv 0) T.cl mN GN hr bN .nil pass0 (pa_cons (pv 1) pa_nil)) pe_int (fun _ _ => rfl)) (pv 2) (fun _ _ => rfl)))
      (pss_cons (ps_if (pt_cmpR op_isN (pv 3) pe_non (nomark _)) (pss_one (ps_expr (pe_meth (E := E) (pv 0) T.cl mD GD hr2 bD .nil (passes_call (takes_of rfl rfl rfl rfl) fun cls d _ H h => h) (pa_cons (pv 1) (pa_cons (pe_tup (pa_cons pe_str (pa_cons (pv 2) pa_nil))) pa_nil))))) pss_nil)
      (pss_one (ps_ret (pe_lc (own := [("key", 4), ("_", 5)]) (g := gTup K 2 (gCons (gName 4) (gCons (gName 5) gNil))) (te := tVar 4) (by rfl) scVg.nd (pi_tup (pv 3))
            (blkOk_by (own := [("key", 4), ("_", 5)]) (N := NVg) (sc := defScope sVg) (by decide +kernel)) (fun _ _ _ _ _ => by exact (pg_tup rfl (pgs_cons (by exact (pg_name (i := 4) scVg.nd rfl (Or.inl rfl))) (pgs_cons (by exact (pg_name (i := 5) scVg.nd rfl (Or.inl rfl))) pgs_nil)))) (fun _ _ _ _ _ => pts_nil)
            (fun _ _ _ _ _ => pv 4))))), ?_⟩
    have hV0 := hV
    obtain ⟨dv, nm, S, T', v, h1, hN, h3, h4, h5⟩ := hV
    unfold gapKT at q
    refine asg_run ⟨_, rfl, x, dv, _, rfl, h1, rfl, _, rfl, x, sk, fs, p, pl, rfl, hV0, hp, ?_⟩
    cases hn : nodeV sk pl with
    | none => rw [hn] at q; exact q.elim
    | some nd =>
      intro H1 vn s1 hvn
      rw [hn] at q
      have hform : ∃ wd t2 gs, nd = .tup [.str wd, .tup t2, .tup gs] := by
        split at q
        · rename_i e; injection e with e; exact ⟨_, _, _, e⟩
        · exact q.elim
      obtain ⟨wd, ps0, gs, rfl⟩ := hform
      dsimp only at q
      obtain ⟨b, ws, rfl, hb, hws⟩ := hvn.tup
      obtain ⟨v0, us1, rfl, h0, hl1⟩ := hws.cons
      obtain ⟨v1, us2, rfl, h1', hl2⟩ := hl1.cons
      obtain ⟨v2, us3, rfl, h2', hl3⟩ := hl2.cons
      obtain ⟨g, zs, rfl, hg, hzs⟩ := h2'.tup
      cases hgn : gs[n]? with
      | none => rw [hgn] at q; exact q.elim
      | some t =>
        rw [hgn] at q
        obtain ⟨vg, hvg, hpg⟩ := hzs.get' hgn
        refine ⟨b, _, 2, .ref g, rfl, rfl, hb, atI_nat (j := 2) rfl, _, rfl, g, zs, _, vg, rfl, rfl, hg, atI_nat hvg, ?_⟩
        cases t with
        | non =>
          obtain rfl := hpg.non
          refine ⟨_, rfl, rfl, _, rfl, iteT ?_⟩
          refine ⟨_, rfl, x, dv, _, rfl, s1 _ _ h1, rfl, _, rfl, _, rfl, few (by show 2 ≤ 1000; decide), fun A2 nA2 => ?_⟩
          have s4 := s1.trans (same_new (u := .tup [.str "gap", .int (n : Int)]) same_id nA2)
          exact ⟨x, sk, fs, p, .ref A2, pl, _, rfl, hV0.same s4, hp.same s4, pt_tup (SqT.of upd_same) (ptl_cons (pt_str "gap") (ptl_cons (pt_int n) ptl_nil)), Askd.up q s4⟩
        | tup ps =>
          obtain ⟨c, ys, rfl, hc, hys⟩ := hpg.tup
          dsimp only at q
          cases hk : keysQ ps with
          | none => rw [hk] at q; exact q.elim
          | some ks =>
            rw [hk] at q
            dsimp only at q
            obtain ⟨hk1, hk2⟩ := keysQ_of hk
            refine ⟨_, rfl, rfl, _, rfl, iteF (nx_run ?_)⟩
            dsimp only
            refine ret_run ⟨_, rfl, c, rfl, ⟨ys, hc⟩, fun D nD => ?_⟩
            refine lc_tup (K := K) (a := c) (xs := ys) (fun j H' => Same H1 H' ∧ H' D = some (.lst ((ks.take j).map V.str))) ⟨same_new same_id nD, upd_same⟩ (fun j H' _ h => same_seqT h.1 hc) ?_ ?_
            · rintro j z H' hz ⟨s7, hD⟩
              obtain ⟨t, ht, hzt⟩ := hys.get hz
              obtain ⟨kk, part, rfl, hkj⟩ := keysP_get hk1 ht
              obtain ⟨e, u, rfl, he, hu2⟩ := pair_vals hzt
              have hjl := (List.getElem?_eq_some_iff.mp ht).1
              refine ⟨e, _, rfl, same_seqT s7 he, rfl, _, _, rfl, _, _, rfl, rfl, rfl, _, rfl, (ks.take j).map V.str, hD, ?_, ?_, ?_⟩
              · rw [List.length_map, List.length_take]
                exact Nat.lt_of_le_of_lt (Nat.min_le_left _ _) (Nat.lt_of_lt_of_le (Nat.lt_of_lt_of_le hjl hk2) (by rw [sizeLine_eq]; decide))
              · exact fun b' o ho => (upd_ne (ne_of_none ho nD)).trans (s7 _ _ ho)
              · rw [upd_same, List.take_add_one, hkj, List.map_append]
                rfl
            · rintro H2 ⟨s2, hD⟩
              rw [List.take_of_length_le (by rw [keysP_len hk1, hys.len]; exact Nat.le_refl _)] at hD
              exact q _ _ (s1.trans s2) ⟨D, rfl, hD⟩
        | _ => exact q.elim
theorem ok_vh {f fI fO fX fK : Addr} {fd dI dO dX dK : FuncData} (F : Fun K "has" "View.has" sVh f fd) (T : ViewC K CV)
    (GI : FnOk P w K mg base CX0 1 fI dI ["value"] (spInt K)) (mI : mg "is_integer" = some (.ref fI)) (kI : PySem.W.keepIn K (.ref fI) = true) (bI : Binds K dI ["value"] [])
    (mO : Meth K CV "is_of" fO) (GO : FnOk P w K mg base (L2.CX P w) 5 fO dO ["self", "place", "sort"] (spVo K CV CN CU)) (bO : Binds K dO ["self", "place", "sort"] [])
    (mX : Meth K CV "has_index" fX) (GX : FnOk P w K mg base (L2.CX P w) 5 fX dX ["self", "place", "index"] (spVx K CV CN CU)) (bX : Binds K dX ["self", "place", "index"] [])
    (mK : Meth K CV "has_key" fK) (GK : FnOk P w K mg base (L2.CX P w) 5 fK dK ["self", "place", "key"] (spVk K CV CN CU)) (bK : Binds K dK ["self", "place", "key"] []) :
    FnOk P w K mg base (L2.CX P w) 6 f fd ["self", "place", "step"] (spVh K CV CN CU) := by
  refine F.okX (k := 5) scVh (fun vs H Q E h => ?_) (fun cdv A outer s H vs Q E hr h => ?_)
  · obtain ⟨x, sk, fs, p, u, pl, k, rfl, _⟩ := h
    rfl
  · obtain ⟨x, sk, fs, p, u, pl, st, rfl, hV, hp, hu, q⟩ := h
    have hr1 := hr.mono (show 1 ≤ 5 by decide)
    refine ⟨_, pss_cons (ps_if (pt_val (pe_call GI hr1 (by rfl) mI kI bI .nil pass0 (pa_cons (pv 2) pa_nil)))
        (pss_one (ps_ret (pe_and (pe_meth (E := E) (pv 0) T.cl mO GO hr bO .nil (passes_call (takes_of rfl rfl rfl rfl) fun cls d _ H h => h) (pa_cons (pv 1) (pa_cons pe_str pa_nil))) (pe_one (pe_meth (E := E) (pv 0) T.cl mX GX hr bX .nil (passes_call (takes_of rfl rfl rfl rfl) fun cls d _ H h => h) (pa_cons (pv 1) (pa_cons (pv 2) pa_nil))))))) pss_nil)
      (pss_one (ps_ret (pe_and (pe_meth (E := E) (pv 0) T.cl mO GO hr bO .nil (passes_call (takes_of rfl rfl rfl rfl) fun cls d _ H h => h) (pa_cons (pv 1) (pa_cons pe_str pa_nil))) (pe_one (pe_meth (E := E) (pv 0) T.cl mK GK hr bK .nil (passes_call (takes_of rfl rfl rfl rfl) fun cls d _ H h => h) (pa_cons (pv 1) (pa_cons (pv 2) pa_nil))))))), ?_⟩
    have hV0 := hV
    obtain ⟨dv, nm, S, T', v, h1, hN, h3, h4, h5⟩ := hV
    unfold hasT at q
    refine ⟨_, rfl, u, st, rfl, hu, _, rfl, ?_⟩
    cases st with
    | int i =>
      obtain rfl := hu.int
      refine iteT (ret_run ⟨_, rfl, x, dv, _, rfl, h1, rfl, _, rfl, x, sk, fs, p, pl, "list", rfl, hV0, hp, ?_⟩)
      refine ans_and q _ (fun H1 s1 q1 => ?_) (fun H1 s1 q1 => ?_)
      · exact ⟨_, rfl, iteT ⟨_, rfl, x, dv, _, rfl, s1 _ _ h1, rfl, _, rfl, _, rfl, x, sk, fs, p, pl, i, rfl, hV0.same s1, hp.same s1, q1⟩⟩
      · exact ⟨_, rfl, iteF (q1 _ _ same_id rfl)⟩
    | str k =>
      obtain rfl := hu.str
      refine iteF (nx_run ?_)
      dsimp only
      refine ret_run ⟨_, rfl, x, dv, _, rfl, h1, rfl, _, rfl, x, sk, fs, p, pl, "dict", rfl, hV0, hp, ?_⟩
      refine ans_and q _ (fun H1 s1 q1 => ?_) (fun H1 s1 q1 => ?_)
      · exact ⟨_, rfl, iteT ⟨_, rfl, x, dv, _, rfl, s1 _ _ h1, rfl, _, rfl, _, rfl, x, sk, fs, p, pl, k, rfl, hV0.same s1, hp.same s1, q1⟩⟩
      · exact ⟨_, rfl, iteF (q1 _ _ same_id rfl)⟩
    | _ => exact q.elim
theorem ok_vs {f fO fX fK fG : Addr} {fd dO dX dK dG : FuncData} (F : Fun K "step_behind" "View.step_behind" sVs f fd) (T : ViewC K CV) (TN : NamC K CN)
    (mO : Meth K CV "is_of" fO) (GO : FnOk P w K mg base (L2.CX P w) 5 fO dO ["self", "place", "sort"] (spVo K CV CN CU)) (bO : Binds K dO ["self", "place", "sort"] [])
    (mX : Meth K CV "has_index" fX) (GX : FnOk P w K mg base (L2.CX P w) 5 fX dX ["self", "place", "index"] (spVx K CV CN CU)) (bX : Binds K dX ["self", "place", "index"] [])
    (mK : Meth K CV "has_key" fK) (GK : FnOk P w K mg base (L2.CX P w) 5 fK dK ["self", "place", "key"] (spVk K CV CN CU)) (bK : Binds K dK ["self", "place", "key"] [])
    (mG : Meth K CV "gap_keys" fG) (GG : FnOk P w K mg base (L2.CX P w) 5 fG dG ["self", "place", "number"] (spVg K CV CN CU)) (bG : Binds K dG ["self", "place", "number"] [])
    (mLen : mg "len" = none) (mR : mg "range" = none) :
    FnOk P w K mg base (L2.CX P w) 6 f fd ["self", "place", "step"] (spVs K CV CN CU) := by
  refine F.okX (k := 5) scVs (fun vs H Q E h => ?_) (fun cdv A outer s H vs Q E hr h => ?_)
  · obtain ⟨x, sk, fs, p, u, pl, k, rfl, _⟩ := h
    rfl
  · obtain ⟨x, sk, fs, p, u, pl, st, rfl, hV, hp, hu, hfl, q⟩ := h
    refine ⟨_, pss_cons (ps_if (pt_val (pe_meth (E := E) (pv 0) T.cl mO GO hr bO .nil (passes_call (takes_of rfl rfl rfl rfl) fun cls d _ H h => h) (pa_cons (pv 1) (pa_cons pe_str pa_nil))))
        (pss_cons (ps_set (i := 3) scVs.nd rfl (Or.inl rfl) (pe_ifExp (pt_cmpR op_isN (pv 2) pe_non (nomark _)) pe_int (pe_op op_add (pv 2) pe_int)))
        (pss_one (ps_ret (pe_ifExp (pt_val (pe_meth (E := E) (pv 0) T.cl mX GX hr bX .nil (passes_call (takes_of rfl rfl rfl rfl) fun cls d _ H h => h) (pa_cons (pv 1) (pa_cons (pv 3) pa_nil)))) (pv 3) pe_non)))) pss_nil)
      (pss_cons (ps_set (i := 4) scVs.nd rfl (Or.inl rfl) (pe_fld (pe_fld (pv 0) rfl) rfl))
      (pss_cons (ps_for (passes_of rfl) rfl (pi_range1 (by rfl) mR (pa_cons (pe_op op_add (pe_callB call_len_seq (by rfl) mLen PySem.boot_len (pa_cons (pv 4) pa_nil)) pe_int) pa_nil)) (pg_name (i := 5) scVs.nd rfl (.inl rfl))
        (pss_cons (ps_set (i := 6) scVs.nd rfl (Or.inl rfl) (pe_cmpR op_eq (pv 5) (pe_callB call_len_seq (by rfl) mLen PySem.boot_len (pa_cons (pv 4) pa_nil)) (nomark _)))
        (pss_cons (ps_if (PW.pt (pw_and (pt_cmpR op_notN (pv 2) pe_non (nomark _)) (pw_and (pt_not (pt_truth (pv 6) (by intro _; rfl))) (pw_and1 (pt_cmpR op_le_str (pe_ix ix_tup (pv 4) (pv 5) (fun _ _ => rfl)) (pv 2) (nomark _)))))) (pss_one ps_continue) pss_nil)
        (pss_cons (ps_for (passes_of rfl) rfl (pi_list (pe_meth (E := E) (pv 0) T.cl mG GG hr bG .nil (passes_call (takes_of rfl rfl rfl rfl) fun cls d _ H h => h) (pa_cons (pv 1) (pa_cons (pv 5) pa_nil)))) (pg_name (i := 7) scVs.nd rfl (.inl rfl))
          (pss_one (ps_if (PW.pt (pw_or (pt_cmpR op_isN (pv 2) pe_non (nomark _)) (pw_or1 (pt_cmpR op_gt_str (pv 7) (pv 2) (nomark _))))) (pss_one (ps_ret (pv 7))) pss_nil)))
        (pss_one (ps_if (PW.pt (pw_and (pt_not (pt_truth (pv 6) (by intro _; rfl))) (pw_and1 (pt_val (pe_meth (E := E) (pv 0) T.cl mK GK hr bK .nil (passes_call (takes_of rfl rfl rfl rfl) fun cls d _ H h => h) (pa_cons (pv 1) (pa_cons (pe_ix ix_tup (pv 4) (pv 5) (fun _ _ => rfl)) pa_nil)))))))
          (pss_one (ps_ret (pe_ix ix_tup (pv 4) (pv 5) (fun _ _ => rfl)))) pss_nil))))))
      (pss_one (ps_ret pe_non)))), ?_⟩
    have hV0 := hV
    obtain ⟨dv, nm, S, T', v, h1, hN, h3, h4, h5⟩ := hV
    obtain ⟨dn, TF, a1, a2, a3, a4, hn1, hn2⟩ := hN
    unfold behindT at q
    refine ⟨_, rfl, x, dv, _, rfl, h1, rfl, _, rfl, x, sk, fs, p, pl, "list", rfl, hV0, hp, ?_⟩
    cases ho : isOfT sk pl "list" with
    | none => rw [ho] at q; exact q.elim
    | some an =>
      rw [ho] at q
      cases an with
      | ask a b => exact q
      | ok b =>
        intro H1 v' s1 e
        obtain rfl := e
        cases b with
        | true =>
          dsimp only at q
          refine ⟨_, rfl, iteT ?_⟩
          have fin : ∀ (j : Int) (D : Ends), Ans K CU H Q E (GPt K) (andThen (hasIxT sk pl j) (some (.ok (.int j))) (.ok .non)) → D.rt = Q → tRet (tIf (tB (tMeth CV "has_index" (spVx K CV CN CU) [] E (tVar 0) (tCons (tVar 1) (tCons (tVar 3) tNil)))) (tVar 3) (tC V.non)) D [some (.ref x), some p, some u, some (.int j), none, none, none, none] H1 := by
            intro j D qj hD
            refine ⟨_, rfl, x, dv, _, rfl, s1 _ _ h1, rfl, _, rfl, _, rfl, x, sk, fs, p, pl, j, rfl, hV0.same s1, hp.same s1, ?_⟩
            refine ans_and (qj.up s1) _ (fun H2 s2 q2 => ⟨_, rfl, iteT ⟨_, rfl, ?_⟩⟩) (fun H2 s2 q2 => ⟨_, rfl, iteF ?_⟩)
            · rw [hD]
              exact q2 _ _ same_id (pt_int j)
            · rw [hD]
              exact q2 _ _ same_id pt_non
          cases st with
          | non =>
            obtain rfl := hu.non
            exact asg_run ⟨_, rfl, rfl, _, rfl, iteT (fin 0 _ q rfl)⟩
          | int i =>
            obtain rfl := hu.int
            exact asg_run ⟨_, rfl, rfl, _, rfl, iteF ⟨_, rfl, _, _, rfl, rfl, fin (i + 1) _ q rfl⟩⟩
          | _ => exact q.elim
        | false =>
          dsimp only at q
          have hst : (st = .non ∧ u = .non) ∨ ∃ y, st = .str y ∧ u = .str y := by
            cases st with
            | non => exact .inl ⟨rfl, hu.non⟩
            | str y => exact .inr ⟨y, rfl, hu.str⟩
            | _ => exact q.elim
          have q : Ans K CU H Q E (GPt K) (behindD fs sk pl st 0 fs) := by
            rcases hst with ⟨rfl, _⟩ | ⟨y, rfl, _⟩ <;> exact q
          have q := q.up s1
          refine ⟨_, rfl, iteF (nx_run ?_)⟩
          dsimp only
          refine asg_run ⟨_, rfl, x, CV, dv, _, .ref nm, rfl, s1 _ _ h1, T.cl, T.n1, rfl, nm, CN, dn, _, .ref TF, rfl, s1 _ _ hn1, TN.cl, TN.n1, rfl, ?_⟩
          have hV1 := hV0.same s1
          have hp1 := hp.same s1
          have hu1 := hu.same s1
          have hF := same_seqT s1 hn2
          have h1' := s1 _ _ h1
          clear hV0 hp hu h1 hn1 hn2 h3 h4 h5 s1
          have hlm : (fs.map V.str).length = fs.length := List.length_map _
          refine seq_postS (fun σ' H' => ∃ o3 o5 o6 o7 : Option V, σ' = [some (.ref x), some p, some u, o3, some (.ref TF), o5, o6, o7] ∧ Same H1 H' ∧ behindD fs sk pl st 0 fs = some (.ok .non)) (fun rr kk => ?_) (fun σ' H2 hh => ?_)
          · refine ⟨_, rfl, TF, _, rfl, .inr hF, _, _, rfl, rfl, _, rfl, by rw [hlm]; omega, by rw [hlm]; omega, ?_⟩
            refine for_range (lo := 0) (n := (((fs.map V.str).length : Int) + 1).toNat) (fun i σ' H' => ∃ o3 o5 o6 o7 : Option V, σ' = [some (.ref x), some p, some u, o3, some (.ref TF), o5, o6, o7] ∧ Same H1 H' ∧ (i ≤ fs.length → behindD fs sk pl st i (fs.drop i) = behindD fs sk pl st 0 fs) ∧ (fs.length < i → behindD fs sk pl st 0 fs = some (.ok .non))) ⟨_, _, _, _, rfl, same_id, fun _ => rfl, fun h => absurd h (Nat.not_lt_zero _)⟩ ?_ ?_
            · rintro i σ' H2 hi ⟨o3, o5, o6, o7, rfl, s2, hb, _⟩
              have hi' : i ≤ fs.length := by rw [hlm] at hi; omega
              have hb := hb hi'
              refine gn_run ?_
              dsimp only
              refine asg_run ⟨_, rfl, _, rfl, TF, _, rfl, .inr (same_seqT s2 hF), rfl, ?_⟩
              have e1 : decide (V.int (0 + (i : Int)) = V.int ((fs.map V.str).length : Int)) = decide (i = fs.length) := by
                rw [hlm]
                exact decide_eq_decide.mpr ⟨fun z => by injection z with z; omega, fun z => by rw [z, Int.zero_add]⟩
              rw [e1]
              have hat : ∀ f, fs[i]? = some f → atI (fs.map V.str) (0 + (i : Int)) = some (.str f) := fun f hf => by
                rw [Int.zero_add]
                exact atI_nat (by rw [List.getElem?_map, hf]; rfl)
              obtain ⟨skp, hsk⟩ : ∃ skp : Bool, skp = (match fs[i]? with
                | some f => !(after st f)
                | none => false) := ⟨_, rfl⟩
              have hk1 : (!isNonT st && skp) = skp := by
                rw [hsk]
                rcases hst with ⟨rfl, _⟩ | ⟨y, rfl, _⟩
                · cases fs[i]? <;> rfl
                · rfl
              have hk2 : (!decide (i = fs.length) && skp) = skp := by
                by_cases c : i = fs.length
                · rw [hsk, c, List.getElem?_eq_none (Nat.le_refl _)]
                  simp
                · rw [decide_eq_false c]
                  rfl
              dsimp only
              refine ifl_valS (v := skp) (fun Q' k0 => tand_valS (b := !isNonT st) (c := skp) (fun Q' kk => ?_) (fun hb1 H3 s3 Q' k1 => tand_valS (b := !decide (i = fs.length)) (c := skp) (fun Q' kk => ?_) (fun hb2 H4 s4 Q' k3 => ?_) (by rw [hk2]; exact k1)) (by rw [hk1]; exact k0)) (fun hb1 H3 s3 => ?_) (fun hb1 H3 s3 => nx_run ?_)
              · refine ⟨_, rfl, rfl, _, rfl, ?_⟩
                rw [dec_non (hu1.same s2)]
                exact kk _ same_id
              · exact ⟨_, rfl, _, rfl, kk _ same_id⟩
              · have hil : i < fs.length := by
                  have : ¬ i = fs.length := by simpa using hb2
                  omega
                have hf := List.getElem?_eq_getElem hil
                rcases hst with ⟨rfl, rfl⟩ | ⟨y, rfl, rfl⟩
                · cases hb1
                · refine ⟨_, rfl, _, rfl, TF, _, _, _, rfl, rfl, same_seqT (s2.trans (s3.trans s4)) hF, hat _ hf, _, rfl, _, _, rfl, rfl, _, rfl, ?_⟩
                  have e2 : (!decide (y.cps.toList < fs[i].cps.toList)) = skp := by
                    rw [hsk, hf]
                    rfl
                  rw [e2]
                  exact k3 _ same_id
              · obtain ⟨f, hf⟩ : ∃ f, fs[i]? = some f := by
                  cases hf : fs[i]? with
                  | none => rw [hsk, hf] at hb1; cases hb1
                  | some f => exact ⟨f, rfl⟩
                have hil := (List.getElem?_eq_some_iff.mp hf).1
                have hd : fs.drop i = f :: fs.drop (i + 1) := by
                  rw [List.drop_eq_getElem_cons hil, (List.getElem?_eq_some_iff.mp hf).2]
                rw [hsk, hf] at hb1
                have haf : ¬ after st f = true := by simpa using hb1
                refine ⟨_, _, _, _, rfl, s2.trans s3, fun _ => ?_, fun h => absurd h (by omega)⟩
                rw [← hb, hd, behindD, if_neg haf]
              · dsimp only
                have sA := s2.trans s3
                have q := q.up sA
                rw [← hb] at q
                have hg : ∃ an, gapKT sk pl i = some an := by
                  cases hg : gapKT sk pl i with
                  | some an => exact ⟨an, rfl⟩
                  | none =>
                    exfalso
                    cases hf : fs[i]? with
                    | none =>
                      have : fs.drop i = [] := List.drop_eq_nil_of_le (List.getElem?_eq_none_iff.mp hf)
                      rw [this, behindD, hg] at q
                      exact q
                    | some f =>
                      have hil := (List.getElem?_eq_some_iff.mp hf).1
                      have hd : fs.drop i = f :: fs.drop (i + 1) := by
                        rw [List.drop_eq_getElem_cons hil, (List.getElem?_eq_some_iff.mp hf).2]
                      rw [hsk, hf] at hb1
                      have haf : after st f = true := by simpa using hb1
                      rw [hd, behindD, if_pos haf, hg] at q
                      exact q
                obtain ⟨an, hg⟩ := hg
                -- with the keys of the gap at hand
                have hV3 := hV1.same sA
                have hp3 := hp1.same sA
                have hF3 := same_seqT sA hF
                have h13 := sA _ _ h1'
                have lpd : ∀ r : Option (An Dt), behindD fs sk pl st i (fs.drop i) = r → ∀ a b, gapKT sk pl i = some (.ask a b) → r = some (.ask a b) := by
                  intro r hr' a b hab
                  subst hr'
                  cases hf : fs[i]? with
                  | none => rw [List.drop_eq_nil_of_le (List.getElem?_eq_none_iff.mp hf), behindD, hab]
                  | some f =>
                    have hil := (List.getElem?_eq_some_iff.mp hf).1
                    have hd : fs.drop i = f :: fs.drop (i + 1) := by
                      rw [List.drop_eq_getElem_cons hil, (List.getElem?_eq_some_iff.mp hf).2]
                    rw [hsk, hf] at hb1
                    have haf : after st f = true := by simpa using hb1
                    rw [hd, behindD, if_pos haf, hab]
                have lpk : ∀ ks k, gapKT sk pl i = some (.ok ks) → ks.find? (after st) = some k → behindD fs sk pl st i (fs.drop i) = some (.ok (.str k)) := by
                  intro ks k hab hfd
                  cases hf : fs[i]? with
                  | none => rw [List.drop_eq_nil_of_le (List.getElem?_eq_none_iff.mp hf), behindD, hab]; dsimp only; rw [hfd]
                  | some f =>
                    have hil := (List.getElem?_eq_some_iff.mp hf).1
                    have hd : fs.drop i = f :: fs.drop (i + 1) := by
                      rw [List.drop_eq_getElem_cons hil, (List.getElem?_eq_some_iff.mp hf).2]
                    rw [hsk, hf] at hb1
                    have haf : after st f = true := by simpa using hb1
                    rw [hd, behindD, if_pos haf, hab]
                    dsimp only
                    rw [hfd]
                refine seq_postS (fun σ' H' => ∃ (o7 : Option V) (ks : List Str), σ' = [some (.ref x), some p, some u, o3, some (.ref TF), some (.int (0 + (i : Int))), some (.bl (decide (i = fs.length))), o7] ∧ Same H3 H' ∧ gapKT sk pl i = some (.ok ks) ∧ ks.find? (after st) = none) (fun rr k4 => ?_) (fun σ' H4 hh => ?_)
                · refine ⟨_, rfl, x, dv, _, rfl, h13, rfl, _, rfl, _, rfl, x, sk, fs, p, pl, i, ?_, hV3, hp3, ?_⟩
                  · rw [Int.zero_add]
                    rfl
                  rw [hg]
                  cases an with
                  | ask a b =>
                    rw [lpd _ rfl a b hg] at q
                    exact q
                  | ok ks =>
                    rintro H4 vk s4 ⟨G, rfl, hG⟩
                    refine ⟨G, rfl, ⟨_, SqL.of hG⟩, ?_⟩
                    refine for_list (K := K) (a := G) (xs := ks.map V.str) (fun j σ' H' => ∃ o7 : Option V, σ' = [some (.ref x), some p, some u, o3, some (.ref TF), some (.int (0 + (i : Int))), some (.bl (decide (i = fs.length))), o7] ∧ Same H4 H' ∧ (ks.take j).find? (after st) = none) ?_ (fun j σ' H' _ h => by obtain ⟨_, _, z, _⟩ := h; exact SqL.of (z _ _ hG)) ?_ ?_
                    · exact ⟨_, rfl, same_id, by rw [List.take_zero]; rfl⟩
                    · rintro j z σ' H5 hz ⟨o7', rfl, s5, hfd⟩
                      rw [List.getElem?_map] at hz
                      obtain ⟨k, hk, rfl⟩ : ∃ k, ks[j]? = some k ∧ V.str k = z := by
                        cases hk : ks[j]? with
                        | none => rw [hk] at hz; cases hz
                        | some k => rw [hk] at hz; exact ⟨k, rfl, Option.some.inj hz⟩
                      unfold gName
                      dsimp only
                      refine ifl_valS (v := after st k) (fun Q' k5 => ?_) (fun hb2 H6 s6 => ?_) (fun hb2 H6 s6 => ?_)
                      · refine tor_valS (b := isNonT st) (c := after st k) (fun Q' k6 => ?_) (fun hb2 H6 s6 Q' k6 => ?_) ?_
                        · refine ⟨_, rfl, rfl, _, rfl, ?_⟩
                          rw [dec_non (hu1.same (sA.trans (s4.trans s5)))]
                          exact k6 _ same_id
                        · rcases hst with ⟨e3, _⟩ | ⟨y, e3, e4⟩
                          · rw [e3] at hb2
                            cases hb2
                          · refine ⟨_, rfl, _, rfl, k, y, rfl, e4, _, rfl, ?_⟩
                            rw [e3] at k6
                            exact k6 _ same_id
                        · rcases hst with ⟨e3, _⟩ | ⟨y, e3, e4⟩
                          · rw [e3] at k5 ⊢
                            exact k5
                          · rw [e3] at k5 ⊢
                            exact k5
                      · have hfk := find_take hk hb2 hfd
                        rw [lpk ks k hg hfk] at q
                        exact ret_run ⟨_, rfl, q _ _ (s4.trans (s5.trans s6)) (pt_str k)⟩
                      · refine ⟨_, rfl, s5.trans s6, ?_⟩
                        rw [List.take_add_one, hk, List.find?_append, hfd]
                        simp [hb2]
                    · rintro σ' H5 ⟨o7', rfl, s5, hfd⟩
                      rw [List.length_map, List.take_length] at hfd
                      exact k4 _ _ ⟨_, ks, rfl, s4.trans s5, hg, hfd⟩
                · obtain ⟨o7', ks, rfl, s4, hg2, hfd⟩ := hh
                  have sB := sA.trans s4
                  have q := q.up s4
                  cases hf : fs[i]? with
                  | none =>
                    have hn := List.getElem?_eq_none_iff.mp hf
                    have hil : i = fs.length := by omega
                    have hb' := hb
                    rw [List.drop_eq_nil_of_le hn, behindD, hg2] at hb'
                    dsimp only at hb'
                    rw [hfd] at hb'
                    refine ifl_valS (v := false) (fun Q' k5 => tand_valS (b := false) (c := false) (fun Q' k6 => ?_) (fun hb2 => nomatch hb2) k5) (fun hb2 => nomatch hb2) (fun _ H6 s6 => ?_)
                    · rw [decide_eq_true hil]
                      exact ⟨_, rfl, _, rfl, k6 _ same_id⟩
                    · exact ⟨_, _, _, _, rfl, sB.trans s6, fun h => absurd h (by omega), fun _ => hb'.symm⟩
                  | some f =>
                    have hil := (List.getElem?_eq_some_iff.mp hf).1
                    have hd : fs.drop i = f :: fs.drop (i + 1) := by
                      rw [List.drop_eq_getElem_cons hil, (List.getElem?_eq_some_iff.mp hf).2]
                    have hb2 := hb1
                    rw [hsk, hf] at hb2
                    have haf : after st f = true := by simpa using hb2
                    have hb' := hb
                    rw [hd, behindD, if_pos haf, hg2] at hb'
                    dsimp only at hb'
                    rw [hfd] at hb'
                    dsimp only at hb'
                    rw [hb, ← hb'] at q
                    have hne : decide (i = fs.length) = false := decide_eq_false (by omega)
                    rw [hne]
                    have hat4 := hat f hf
                    refine ⟨_, rfl, _, rfl, iteT ?_⟩
                    refine ⟨_, rfl, x, dv, _, rfl, s4 _ _ h13, rfl, _, rfl, ⟨_, rfl, _, rfl, TF, _, _, _, rfl, rfl, same_seqT s4 hF3, hat4, x, sk, fs, p, pl, f, rfl, hV3.same s4, hp3.same s4, ?_⟩⟩
                    cases hk : hasKeyT fs sk pl f with
                    | none => rw [hk] at q; exact q.elim
                    | some an2 =>
                      rw [hk] at q hb'
                      cases an2 with
                      | ask a b => exact q
                      | ok c =>
                        intro H6 v6 s6 e6
                        obtain rfl := e6
                        cases c with
                        | true => exact ⟨_, rfl, iteT ⟨_, rfl, _, rfl, TF, _, _, _, rfl, rfl, same_seqT (s4.trans s6) hF3, hat4, q _ _ s6 (pt_str f)⟩⟩
                        | false => exact ⟨_, rfl, iteF ⟨_, _, _, _, rfl, sB.trans s6, fun _ => hb', fun h => absurd h (by omega)⟩⟩
            · rintro σ' H2 ⟨o3, o5, o6, o7, rfl, s2, _, hb⟩
              exact kk _ _ ⟨_, _, _, _, rfl, s2, hb (by rw [hlm]; omega)⟩
          · obtain ⟨o3, o5, o6, o7, rfl, s2, hb⟩ := hh
            rw [hb] at q
            exact ret_run (q _ _ s2 pt_non)
end
end Toy


namespace Toy
open PySem PySem.Spec L2 PyProof.Rows PySem.W
/-! ### tests and walks on a view, by fuel -/
structure Dn (P : Program) (w : World) (K : PySem.W.Frag) (mg : Str → Option Value) (base : Heap) (CX : CXT) (lvl : Nat) (n : Str) (ps : List Str) (sp : Sp) (f : Addr) (fd : FuncData) : Prop where
  G : FnOk P w K mg base CX lvl f fd ps sp
  m : mg n = some (.ref f)
  k : PySem.W.keepIn K (.ref f) = true
  b : Binds K fd ps []
structure Mn (P : Program) (w : World) (K : PySem.W.Frag) (mg : Str → Option Value) (base : Heap) (CX : CXT) (lvl : Nat) (C : Addr) (n : Str) (ps : List Str) (sp : Sp) (f : Addr) (fd : FuncData) : Prop where
  c : Cls K C
  m : Meth K C n f
  G : FnOk P w K mg base CX lvl f fd ps sp
  b : Binds K fd ps []
/-- what stands for a def beside its promise -/
structure Kn (K : PySem.W.Frag) (mg : Str → Option Value) (n : Str) (ps : List Str) (f : Addr) (fd : FuncData) : Prop where
  m : mg n = some (.ref f)
  k : PySem.W.keepIn K (.ref f) = true
  b : Binds K fd ps []
/-- the methods of a view -/
structure VwM (P : Program) (w : World) (K : PySem.W.Frag) (mg : Str → Option Value) (base : Heap) (CV CN CU : Addr) (fO fE fH fS : Addr) (dO dE dH dS : FuncData) : Prop where
  T : ViewC K CV
  vo : Mn P w K mg base (L2.CX P w) 5 CV "is_of" ["self", "place", "sort"] (spVo K CV CN CU) fO dO
  ve : Mn P w K mg base (L2.CX P w) 6 CV "is_equal" ["self", "place", "leaf"] (spVe K CV CN CU) fE dE
  vh : Mn P w K mg base (L2.CX P w) 6 CV "has" ["self", "place", "step"] (spVh K CV CN CU) fH dH
  vs : Mn P w K mg base (L2.CX P w) 6 CV "step_behind" ["self", "place", "step"] (spVs K CV CN CU) fS dS
structure GSt (mg : Str → Option Value) (u1 u2 u3 : Value) : Prop where
  g1 : mg "GIVES" = some u1
  r1 : RelV (.str "gives") u1
  g2 : mg "NONE" = some u2
  r2 : RelV (.str "none") u2
  g3 : mg "FAILS" = some u3
  r3 : RelV (.str "fails") u3
def GW (K : PySem.W.Frag) : Str × Dt → Hp → V → Prop := fun r H v => ∃ a y, v = .ref a ∧ SqT K H a [.str r.1, y] ∧ Pt K H y r.2
def spW (K : PySem.W.Frag) (CV CN CU : Addr) (n : Nat) : Sp := fun vs H Q E => ∃ (x : Addr) (sk : Dt) (fs : List Str) (u p : V) (t pl : Dt), vs = [.ref x, u, p] ∧ ViewAt K CV CN H x sk fs ∧ Pt K H u t ∧ Pt K H p pl ∧ Ans K CU H Q E (GW K) (walkT fs sk n t pl)
def spT (K : PySem.W.Frag) (CV CN CU : Addr) (n : Nat) : Sp := fun vs H Q E => ∃ (x : Addr) (sk : Dt) (fs : List Str) (u p : V) (t pl : Dt), vs = [.ref x, u, p] ∧ ViewAt K CV CN H x sk fs ∧ Pt K H u t ∧ Pt K H p pl ∧ Ans K CU H Q E (GPt K) (takeT fs sk n t pl)
def spH (K : PySem.W.Frag) (CV CN CU : Addr) (n : Nat) : Sp := fun vs H Q E => ∃ (x : Addr) (sk : Dt) (fs : List Str) (u p : V) (t pl : Dt), vs = [.ref x, u, p] ∧ ViewAt K CV CN H x sk fs ∧ Pt K H u t ∧ Pt K H p pl ∧ Ans K CU H Q E GB (holdT fs sk n t pl)
abbrev NWk : List Str := ["view", "walk", "place", "word", "told", "between"]
theorem scWk : FnScope NWk ["view", "walk", "place"] (defScope sWk) := ⟨rfl, rfl, rfl, by decide +kernel, rfl, by decide +kernel, by decide +kernel⟩
abbrev NHi : List Str := ["view", "test", "place", "word", "told", "end"]
theorem scHi : FnScope NHi ["view", "test", "place"] (defScope sHi) := ⟨rfl, rfl, rfl, by decide +kernel, rfl, by decide +kernel, by decide +kernel⟩
abbrev NTb : List Str := ["view", "term", "place"]
theorem scTb : FnScope NTb ["view", "term", "place"] (defScope sTb) := ⟨rfl, rfl, rfl, by decide +kernel, rfl, by decide +kernel, by decide +kernel⟩
theorem catA_run {K : PySem.W.Frag} {H : Hp} {a b : Addr} {xs ys : List V} {ts rs : List Dt} {Q : VK} (ha : SqT K H a xs) (hb : SqT K H b ys) (hx : PtL K H xs ts) (hy : PtL K H ys rs) (hl : ts.length + rs.length ≤ 3000) (q : ∀ H' T, Same H H' → Pt K H' (.ref T) (.tup (ts ++ rs)) → Q (.ref T) H') : rCatA K (.ref a) (.ref b) H Q := by
  refine ⟨a, b, xs, ys, rfl, rfl, ha, hb, ?_, fun e => ?_, fun _ e => ?_, fun _ _ p np => ?_⟩
  · rw [hx.len, hy.len, sizeLine_eq]
    omega
  · subst e
    have : ts = [] := List.eq_nil_of_length_eq_zero (by rw [← hx.len]; rfl)
    subst this
    exact q H b same_id (pt_tup hb hy)
  · subst e
    have : rs = [] := List.eq_nil_of_length_eq_zero (by rw [← hy.len]; rfl)
    subst this
    rw [List.append_nil] at q
    exact q H a same_id (pt_tup ha hx)
  · have s1 := same_new (u := .tup (xs ++ ys)) (same_id (H := H)) np
    exact q _ p s1 (pt_tup (SqT.of upd_same) ((hx.same s1).app (hy.same s1)))
theorem walkT_s (fs : List Str) (sk : Dt) (n : Nat) (w : Str) (a : List Dt) (pl : Dt) : walkT fs sk (n + 1) (.tup (.str w :: a)) pl = (if w = "same" then some (.ok ("gives", pl)) else if w = "none" then some (.ok ("none", .non)) else if w = "pipe" then (match a with
      | [t1, t2] => (match walkT fs sk n t1 pl with
        | some (.ok (told, b)) => if told = "gives" then walkT fs sk n t2 b else some (.ok (told, .non))
        | x => x)
      | _ => none) else if w = "if" then (match takeT fs sk n (.tup (.str w :: a)) pl with
      | some (.ok t) => walkT fs sk n t pl
      | some (.ask p q) => some (.ask p q)
      | none => none) else if w = "fail" then some (.ok ("fails", .non)) else (match a with
      | s :: _ => (match hasT fs sk pl s with
        | some (.ok true) => (match pl with
          | .tup st => if st.length ≤ 1000 then some (.ok ("gives", .tup (st ++ [s]))) else none
          | _ => none)
        | some (.ok false) => some (.ok ("fails", .non))
        | some (.ask p q) => some (.ask p q)
        | none => none)
      | [] => none)) := rfl
theorem holdT_s (fs : List Str) (sk : Dt) (n : Nat) (w : Str) (a : List Dt) (pl : Dt) : holdT fs sk (n + 1) (.tup (.str w :: a)) pl = (if w = "is" then (match a with
      | [.str s] => isOfT sk pl s
      | _ => none) else if w = "equal" then (match a with
      | [v] => isEqT sk pl v
      | _ => none) else if w = "and" then (match a with
      | [t1, t2] => andThen (holdT fs sk n t1 pl) (holdT fs sk n t2 pl) (.ok false)
      | _ => none) else if w = "or" then (match a with
      | [t1, t2] => (match holdT fs sk n t1 pl with
        | some (.ok false) => holdT fs sk n t2 pl
        | x => x)
      | _ => none) else if w = "not" then (match a with
      | [t1] => (match holdT fs sk n t1 pl with
        | some (.ok b) => some (.ok (!b))
        | x => x)
      | _ => none) else (match a with
      | [wk, t2] => (match walkT fs sk n wk pl with
        | some (.ok (told, b)) => if told = "gives" then holdT fs sk n t2 b else some (.ok false)
        | some (.ask p q) => some (.ask p q)
        | none => none)
      | _ => none)) := rfl
theorem takeT_s (fs : List Str) (sk : Dt) (n : Nat) (w : Str) (t x y pl : Dt) : takeT fs sk (n + 1) (.tup [.str w, t, x, y]) pl = ((match holdT fs sk n t pl with
    | some (.ok b) => some (.ok (if b = true then x else y))
    | some (.ask p q) => some (.ask p q)
    | none => none)) := rfl
theorem walkT_0 (fs : List Str) (sk : Dt) (t pl : Dt) : walkT fs sk 0 t pl = none := rfl
theorem holdT_0 (fs : List Str) (sk : Dt) (t pl : Dt) : holdT fs sk 0 t pl = none := rfl
theorem takeT_0 (fs : List Str) (sk : Dt) (t pl : Dt) : takeT fs sk 0 t pl = none := rfl
section
variable {P : Program} {w : World} {K : PySem.W.Frag} {mg : Str → Option Value} {base : Heap} {CV CN CU : Addr} {fO fE fH fS : Addr} {dO dE dH dS : FuncData} {u1 u2 u3 : Value}
theorem ok_wk_step {n : Nat} {fW fT : Addr} {dW dT : FuncData} (M : VwM P w K mg base CV CN CU fO fE fH fS dO dE dH dS) (S : GSt mg u1 u2 u3) (F : Fun K "_walked" "_walked" sWk fW dW)
    (DW : Dn P w K mg base (L2.CX P w) (7 + n) "_walked" ["view", "walk", "place"] (spW K CV CN CU n) fW dW) (DT : Dn P w K mg base (L2.CX P w) (7 + n) "taken_by" ["view", "term", "place"] (spT K CV CN CU n) fT dT) :
    FnOk P w K mg base (L2.CX P w) (7 + n + 1) fW dW ["view", "walk", "place"] (spW K CV CN CU (n + 1)) := by
  refine F.okX (k := 7 + n) scWk (fun vs H Q E h => ?_) (fun cdv A outer s H vs Q E hr h => ?_)
  · obtain ⟨x, sk, fs, u, p, t, pl, rfl, _⟩ := h
    rfl
  · obtain ⟨x, sk, fs, u, p, t, pl, rfl, hV, hu, hp, q⟩ := h
    have hr6 := hr.mono (show 6 ≤ 7 + n by omega)
    refine ⟨_, pss_cons (ps_set (i := 3) scWk.nd rfl (Or.inl rfl) (pe_ix ix_tup (pv 1) pe_int (fun _ _ => rfl)))
      (pss_cons (ps_if (pt_cmpR op_eq (pv 3) pe_str (nomark _)) (pss_one (ps_ret (pe_tup (pa_cons (pe_glob (v := .str "gives") (by rfl) S.g1 S.r1) (pa_cons (pv 2) pa_nil))))) pss_nil)
      (pss_cons (ps_if (pt_cmpR op_eq (pv 3) pe_str (nomark _)) (pss_one (ps_ret (pe_tup (pa_cons (pe_glob (v := .str "none") (by rfl) S.g2 S.r2) (pa_cons pe_non pa_nil))))) pss_nil)
      (pss_cons (ps_if (pt_cmpR op_eq (pv 3) pe_str (nomark _)) (pss_cons (ps_asg (pe_call (E := E) DW.G hr (by rfl) DW.m DW.k DW.b .nil (passes_call (takes_of rfl rfl rfl rfl) fun cls d _ H h => h) (pa_cons (pv 0) (pa_cons (pe_ix ix_tup (pv 1) pe_int (fun _ _ => rfl)) (pa_cons (pv 2) pa_nil)))) (pg_tup rfl (pgs_cons (pg_name (i := 4) scWk.nd rfl (.inl rfl)) (pgs_cons (pg_name (i := 5) scWk.nd rfl (.inl rfl)) pgs_nil))))
      (pss_one (ps_ret (pe_ifExp (pt_cmpR op_eq (pv 4) (pe_glob (v := .str "gives") (by rfl) S.g1 S.r1) (nomark _)) (pe_call (E := E) DW.G hr (by rfl) DW.m DW.k DW.b .nil (passes_call (takes_of rfl rfl rfl rfl) fun cls d _ H h => h) (pa_cons (pv 0) (pa_cons (pe_ix ix_tup (pv 1) pe_int (fun _ _ => rfl)) (pa_cons (pv 5) pa_nil)))) (pe_tup (pa_cons (pv 4) (pa_cons pe_non pa_nil))))))) pss_nil)
      (pss_cons (ps_if (pt_cmpR op_eq (pv 3) pe_str (nomark _)) (pss_one (ps_ret (pe_call (E := E) DW.G hr (by rfl) DW.m DW.k DW.b .nil (passes_call (takes_of rfl rfl rfl rfl) fun cls d _ H h => h) (pa_cons (pv 0) (pa_cons (pe_call (E := E) DT.G hr (by rfl) DT.m DT.k DT.b .nil (passes_call (takes_of rfl rfl rfl rfl) fun cls d _ H h => h) (pa_cons (pv 0) (pa_cons (pv 1) (pa_cons (pv 2) pa_nil)))) (pa_cons (pv 2) pa_nil)))))) pss_nil)
      (pss_cons (ps_if (PW.pt (pw_or (pt_cmpR op_eq (pv 3) pe_str (nomark _)) (pw_or1 (pt_not (pt_val (pe_meth (E := E) (pv 0) M.vh.c M.vh.m M.vh.G hr6 M.vh.b .nil (passes_call (takes_of rfl rfl rfl rfl) fun cls d _ H h => h) (pa_cons (pv 2) (pa_cons (pe_ix ix_tup (pv 1) pe_int (fun _ _ => rfl)) pa_nil)))))))) (pss_one (ps_ret (pe_tup (pa_cons (pe_glob (v := .str "fails") (by rfl) S.g3 S.r3) (pa_cons pe_non pa_nil))))) pss_nil)
      (pss_one (ps_ret (pe_tup (pa_cons (pe_glob (v := .str "gives") (by rfl) S.g1 S.r1) (pa_cons (pe_op op_catA (pv 2) (pe_tup (pa_cons (pe_ix ix_tup (pv 1) pe_int (fun _ _ => rfl)) pa_nil))) pa_nil)))))))))), ?_⟩
    have hV0 := hV
    obtain ⟨dv, nm, SK, T', v, h1, hN, h3, h4, h5⟩ := hV
    have hform : ∃ wd a, t = .tup (.str wd :: a) := by
      unfold walkT at q
      split at q
      · cases ‹_ = _›
      · exact ⟨_, _, rfl⟩
      · exact q.elim
    obtain ⟨wd, a, rfl⟩ := hform
    rw [walkT_s] at q
    obtain ⟨ua, us, rfl, hs, hl⟩ := hu.tup
    obtain ⟨v0, us1, rfl, h0, hl1⟩ := hl.cons
    obtain rfl := h0.str
    refine asg_run ⟨_, rfl, ua, _, 0, _, rfl, rfl, hs, at_0 _ _, ?_⟩
    refine ⟨_, rfl, rfl, _, rfl, ?_⟩
    rw [dec_s]
    by_cases c1 : wd = "same"
    · rw [if_pos c1] at q
      rw [decide_eq_true c1]
      exact iteT (ret_run ⟨_, rfl, few (by show 2 ≤ 1000; decide), fun A1 nA => q _ _ (same_new same_id nA) ⟨A1, p, rfl, SqT.of upd_same, hp.same (same_new same_id nA)⟩⟩)
    rw [if_neg c1] at q
    rw [decide_eq_false c1]
    refine iteF (nx_run ?_)
    dsimp only
    refine ⟨_, rfl, rfl, _, rfl, ?_⟩
    rw [dec_s]
    by_cases c2 : wd = "none"
    · rw [if_pos c2] at q
      rw [decide_eq_true c2]
      exact iteT (ret_run ⟨few (by show 2 ≤ 1000; decide), fun A1 nA => q _ _ (same_new same_id nA) ⟨A1, .non, rfl, SqT.of upd_same, pt_non⟩⟩)
    rw [if_neg c2] at q
    rw [decide_eq_false c2]
    refine iteF (nx_run ?_)
    dsimp only
    refine ⟨_, rfl, rfl, _, rfl, ?_⟩
    rw [dec_s]
    by_cases c3 : wd = "pipe"
    · rw [if_pos c3] at q
      rw [decide_eq_true c3]
      have hform : ∃ t1 t2, a = [t1, t2] := by
        split at q
        · exact ⟨_, _, rfl⟩
        · exact q.elim
      obtain ⟨t1, t2, rfl⟩ := hform
      obtain ⟨v1, us2, rfl, hv1, hl2⟩ := hl1.cons
      obtain ⟨v2, us3, rfl, hv2, hl3⟩ := hl2.cons
      dsimp only at q
      refine iteT ?_
      refine ⟨_, rfl, _, rfl, ua, _, 1, v1, rfl, rfl, hs, atI_nat (j := 1) rfl, _, rfl, x, sk, fs, v1, p, t1, pl, rfl, hV0, hv1, hp, ?_⟩
      cases ho : walkT fs sk n t1 pl with
      | none => rw [ho] at q; exact q.elim
      | some an =>
        rw [ho] at q
        cases an with
        | ask b c => exact q
        | ok r =>
          obtain ⟨told, b⟩ := r
          dsimp only at q
          rintro H1 w1 s1 ⟨A1, y, rfl, hA, hy⟩
          refine ⟨A1, _, rfl, hA, rfl, _, _, rfl, _, _, rfl, rfl, ?_⟩
          dsimp only at hy
          refine ⟨_, rfl, rfl, _, rfl, ?_⟩
          rw [dec_s]
          by_cases c4 : told = "gives"
          · rw [if_pos c4] at q
            rw [decide_eq_true c4]
            exact iteT ⟨_, rfl, _, rfl, ua, _, 2, v2, rfl, rfl, same_seqT s1 hs, atI_nat (j := 2) rfl, _, rfl, x, sk, fs, v2, y, t2, b, rfl, hV0.same s1, hv2.same s1, hy, q.up s1⟩
          · rw [if_neg c4] at q
            rw [decide_eq_false c4]
            exact iteF ⟨_, rfl, few (by show 2 ≤ 1000; decide), fun A2 nA => q _ _ (s1.trans (same_new same_id nA)) ⟨A2, .non, rfl, SqT.of upd_same, pt_non⟩⟩
    rw [if_neg c3] at q
    rw [decide_eq_false c3]
    refine iteF (nx_run ?_)
    dsimp only
    refine ⟨_, rfl, rfl, _, rfl, ?_⟩
    rw [dec_s]
    by_cases c4 : wd = "if"
    · rw [if_pos c4] at q
      rw [decide_eq_true c4]
      refine iteT (ret_run ⟨_, rfl, _, rfl, _, rfl, _, rfl, x, sk, fs, .ref ua, p, _, pl, rfl, hV0, hu, hp, ?_⟩)
      cases ho : takeT fs sk n (.tup (.str wd :: a)) pl with
      | none => rw [ho] at q; exact q.elim
      | some an =>
        rw [ho] at q
        cases an with
        | ask b c => exact q
        | ok r =>
          intro H1 w1 s1 hw1
          exact ⟨_, rfl, x, sk, fs, w1, p, r, pl, rfl, hV0.same s1, hw1, hp.same s1, q.up s1⟩
    rw [if_neg c4] at q
    rw [decide_eq_false c4]
    refine iteF (nx_run ?_)
    dsimp only
    refine ⟨_, rfl, rfl, _, rfl, ?_⟩
    rw [dec_s]
    by_cases c5 : wd = "fail"
    · rw [if_pos c5] at q
      rw [decide_eq_true c5]
      exact iteT (iteT (ret_run ⟨few (by show 2 ≤ 1000; decide), fun A1 nA => q _ _ (same_new same_id nA) ⟨A1, .non, rfl, SqT.of upd_same, pt_non⟩⟩))
    rw [if_neg c5] at q
    rw [decide_eq_false c5]
    refine iteF ?_
    cases a with
    | nil => exact q.elim
    | cons s1 rest =>
      obtain ⟨v1, us2, rfl, hv1, hl2⟩ := hl1.cons
      dsimp only at q
      refine ⟨_, rfl, x, dv, _, rfl, h1, rfl, _, rfl, _, rfl, ua, _, 1, v1, rfl, rfl, hs, atI_nat (j := 1) rfl, x, sk, fs, p, v1, pl, s1, rfl, hV0, hp, hv1, ?_⟩
      cases ho : hasT fs sk pl s1 with
      | none => rw [ho] at q; exact q.elim
      | some an =>
        rw [ho] at q
        cases an with
        | ask b c => exact q
        | ok c =>
          intro H1 w1 z1 e
          obtain rfl := e
          cases c with
          | false =>
            exact ⟨_, rfl, iteT (ret_run ⟨few (by show 2 ≤ 1000; decide), fun A1 nA => q _ _ (z1.trans (same_new same_id nA)) ⟨A1, .non, rfl, SqT.of upd_same, pt_non⟩⟩)⟩
          | true =>
            refine ⟨_, rfl, iteF (nx_run ?_)⟩
            dsimp only
            cases pl with
            | tup st =>
              dsimp only at q
              by_cases c6 : st.length ≤ 1000
              · rw [if_pos c6] at q
                obtain ⟨pa, ps, rfl, hpa, hps⟩ := hp.tup
                refine ⟨_, rfl, _, rfl, ua, _, 1, v1, rfl, rfl, same_seqT z1 hs, atI_nat (j := 1) rfl, few (by show 1 ≤ 1000; decide), fun A1 nA => ?_⟩
                have z2 := z1.trans (same_new (u := .tup [v1]) same_id nA)
                refine catA_run (same_seqT z2 hpa) (SqT.of upd_same) (hps.same z2) (ptl_cons (hv1.same z2) ptl_nil) (by show st.length + 1 ≤ 3000; omega) fun H2 T2 s2 hT => ?_
                refine ⟨few (by show 2 ≤ 1000; decide), fun A2 nA2 => ?_⟩
                have s3 := same_new (u := .tup [.str "gives", .ref T2]) (same_id (H := H2)) nA2
                exact q _ _ (z2.trans (s2.trans s3)) ⟨A2, .ref T2, rfl, SqT.of upd_same, hT.same s3⟩
              · rw [if_neg c6] at q
                exact q.elim
            | _ => exact q.elim
theorem ok_hi_step {n : Nat} {fW fI : Addr} {dW dI : FuncData} (M : VwM P w K mg base CV CN CU fO fE fH fS dO dE dH dS) (S : GSt mg u1 u2 u3) (F : Fun K "holds_in" "holds_in" sHi fI dI)
    (DW : Dn P w K mg base (L2.CX P w) (7 + n) "_walked" ["view", "walk", "place"] (spW K CV CN CU n) fW dW) (DH : Dn P w K mg base (L2.CX P w) (7 + n) "holds_in" ["view", "test", "place"] (spH K CV CN CU n) fI dI) :
    FnOk P w K mg base (L2.CX P w) (7 + n + 1) fI dI ["view", "test", "place"] (spH K CV CN CU (n + 1)) := by
  refine F.okX (k := 7 + n) scHi (fun vs H Q E h => ?_) (fun cdv A outer s H vs Q E hr h => ?_)
  · obtain ⟨x, sk, fs, u, p, t, pl, rfl, _⟩ := h
    rfl
  · obtain ⟨x, sk, fs, u, p, t, pl, rfl, hV, hu, hp, q⟩ := h
    have hr5 := hr.mono (show 5 ≤ 7 + n by omega)
    have hr6 := hr.mono (show 6 ≤ 7 + n by omega)
    refine ⟨_, pss_cons (ps_set (i := 3) scHi.nd rfl (Or.inl rfl) (pe_ix ix_tup (pv 1) pe_int (fun _ _ => rfl)))
      (pss_cons (ps_if (pt_cmpR op_eq (pv 3) pe_str (nomark _)) (pss_one (ps_ret (pe_meth (E := E) (pv 0) M.vo.c M.vo.m M.vo.G hr5 M.vo.b .nil (passes_call (takes_of rfl rfl rfl rfl) fun cls d _ H h => h) (pa_cons (pv 2) (pa_cons (pe_ix ix_tup (pv 1) pe_int (fun _ _ => rfl)) pa_nil))))) pss_nil)
      (pss_cons (ps_if (pt_cmpR op_eq (pv 3) pe_str (nomark _)) (pss_one (ps_ret (pe_meth (E := E) (pv 0) M.ve.c M.ve.m M.ve.G hr6 M.ve.b .nil (passes_call (takes_of rfl rfl rfl rfl) fun cls d _ H h => h) (pa_cons (pv 2) (pa_cons (pe_ix ix_tup (pv 1) pe_int (fun _ _ => rfl)) pa_nil))))) pss_nil)
      (pss_cons (ps_if (pt_cmpR op_eq (pv 3) pe_str (nomark _)) (pss_one (ps_ret (pe_and (pe_call (E := E) DH.G hr (by rfl) DH.m DH.k DH.b .nil (passes_call (takes_of rfl rfl rfl rfl) fun cls d _ H h => h) (pa_cons (pv 0) (pa_cons (pe_ix ix_tup (pv 1) pe_int (fun _ _ => rfl)) (pa_cons (pv 2) pa_nil)))) (pe_one (pe_call (E := E) DH.G hr (by rfl) DH.m DH.k DH.b .nil (passes_call (takes_of rfl rfl rfl rfl) fun cls d _ H h => h) (pa_cons (pv 0) (pa_cons (pe_ix ix_tup (pv 1) pe_int (fun _ _ => rfl)) (pa_cons (pv 2) pa_nil)))))))) pss_nil)
      (pss_cons (ps_if (pt_cmpR op_eq (pv 3) pe_str (nomark _)) (pss_one (ps_ret (pe_or (pe_call (E := E) DH.G hr (by rfl) DH.m DH.k DH.b .nil (passes_call (takes_of rfl rfl rfl rfl) fun cls d _ H h => h) (pa_cons (pv 0) (pa_cons (pe_ix ix_tup (pv 1) pe_int (fun _ _ => rfl)) (pa_cons (pv 2) pa_nil)))) (pe_one (pe_call (E := E) DH.G hr (by rfl) DH.m DH.k DH.b .nil (passes_call (takes_of rfl rfl rfl rfl) fun cls d _ H h => h) (pa_cons (pv 0) (pa_cons (pe_ix ix_tup (pv 1) pe_int (fun _ _ => rfl)) (pa_cons (pv 2) pa_nil)))))))) pss_nil)
      (pss_cons (ps_if (pt_cmpR op_eq (pv 3) pe_str (nomark _)) (pss_one (ps_ret (pe_not (pe_call (E := E) DH.G hr (by rfl) DH.m DH.k DH.b .nil (passes_call (takes_of rfl rfl rfl rfl) fun cls d _ H h => h) (pa_cons (pv 0) (pa_cons (pe_ix ix_tup (pv 1) pe_int (fun _ _ => rfl)) (pa_cons (pv 2) pa_nil))))))) pss_nil)
      (pss_cons (ps_asg (pe_call (E := E) DW.G hr (by rfl) DW.m DW.k DW.b .nil (passes_call (takes_of rfl rfl rfl rfl) fun cls d _ H h => h) (pa_cons (pv 0) (pa_cons (pe_ix ix_tup (pv 1) pe_int (fun _ _ => rfl)) (pa_cons (pv 2) pa_nil)))) (pg_tup rfl (pgs_cons (pg_name (i := 4) scHi.nd rfl (.inl rfl)) (pgs_cons (pg_name (i := 5) scHi.nd rfl (.inl rfl)) pgs_nil))))
      (pss_one (ps_ret (pe_and (pe_cmpR op_eq (pv 4) (pe_glob (v := .str "gives") (by rfl) S.g1 S.r1) (nomark _)) (pe_one (pe_call (E := E) DH.G hr (by rfl) DH.m DH.k DH.b .nil (passes_call (takes_of rfl rfl rfl rfl) fun cls d _ H h => h) (pa_cons (pv 0) (pa_cons (pe_ix ix_tup (pv 1) pe_int (fun _ _ => rfl)) (pa_cons (pv 5) pa_nil)))))))))))))), ?_⟩
    have hV0 := hV
    obtain ⟨dv, nm, SK, T', v, h1, hN, h3, h4, h5⟩ := hV
    have hform : ∃ wd a, t = .tup (.str wd :: a) := by
      unfold holdT at q
      split at q
      · cases ‹_ = _›
      · exact ⟨_, _, rfl⟩
      · exact q.elim
    obtain ⟨wd, a, rfl⟩ := hform
    rw [holdT_s] at q
    obtain ⟨ua, us, rfl, hs, hl⟩ := hu.tup
    obtain ⟨v0, us1, rfl, h0, hl1⟩ := hl.cons
    obtain rfl := h0.str
    refine asg_run ⟨_, rfl, ua, _, 0, _, rfl, rfl, hs, at_0 _ _, ?_⟩
    refine ⟨_, rfl, rfl, _, rfl, ?_⟩
    rw [dec_s]
    by_cases c1 : wd = "is"
    · rw [if_pos c1] at q
      rw [decide_eq_true c1]
      have hform : ∃ s1, a = [.str s1] := by
        split at q
        · exact ⟨_, rfl⟩
        · exact q.elim
      obtain ⟨s1, rfl⟩ := hform
      obtain ⟨v1, us2, rfl, hv1, hl2⟩ := hl1.cons
      obtain rfl := hv1.str
      exact iteT (ret_run ⟨_, rfl, x, dv, _, rfl, h1, rfl, _, rfl, _, rfl, ua, _, 1, _, rfl, rfl, hs, atI_nat (j := 1) rfl, x, sk, fs, p, pl, s1, rfl, hV0, hp, q⟩)
    rw [if_neg c1] at q
    rw [decide_eq_false c1]
    refine iteF (nx_run ?_)
    dsimp only
    refine ⟨_, rfl, rfl, _, rfl, ?_⟩
    rw [dec_s]
    by_cases c2 : wd = "equal"
    · rw [if_pos c2] at q
      rw [decide_eq_true c2]
      have hform : ∃ s1, a = [s1] := by
        split at q
        · exact ⟨_, rfl⟩
        · exact q.elim
      obtain ⟨t1, rfl⟩ := hform
      obtain ⟨v1, us2, rfl, hv1, hl2⟩ := hl1.cons
      exact iteT (ret_run ⟨_, rfl, x, dv, _, rfl, h1, rfl, _, rfl, _, rfl, ua, _, 1, _, rfl, rfl, hs, atI_nat (j := 1) rfl, x, sk, fs, p, v1, pl, t1, rfl, hV0, hp, hv1, q⟩)
    rw [if_neg c2] at q
    rw [decide_eq_false c2]
    refine iteF (nx_run ?_)
    dsimp only
    refine ⟨_, rfl, rfl, _, rfl, ?_⟩
    rw [dec_s]
    by_cases c3 : wd = "and"
    · rw [if_pos c3] at q
      rw [decide_eq_true c3]
      have hform : ∃ t1 t2, a = [t1, t2] := by
        split at q
        · exact ⟨_, _, rfl⟩
        · exact q.elim
      obtain ⟨t1, t2, rfl⟩ := hform
      obtain ⟨v1, us2, rfl, hv1, hl2⟩ := hl1.cons
      obtain ⟨v2, us3, rfl, hv2, hl3⟩ := hl2.cons
      dsimp only at q
      refine iteT (ret_run ⟨_, rfl, _, rfl, ua, _, 1, v1, rfl, rfl, hs, atI_nat (j := 1) rfl, _, rfl, x, sk, fs, v1, p, t1, pl, rfl, hV0, hv1, hp, ?_⟩)
      refine ans_and q _ (fun H1 s1 q1 => ?_) (fun H1 s1 q1 => ?_)
      · exact ⟨_, rfl, iteT ⟨_, rfl, _, rfl, ua, _, 2, v2, rfl, rfl, same_seqT s1 hs, atI_nat (j := 2) rfl, _, rfl, x, sk, fs, v2, p, t2, pl, rfl, hV0.same s1, hv2.same s1, hp.same s1, q1⟩⟩
      · exact ⟨_, rfl, iteF (q1 _ _ same_id rfl)⟩
    rw [if_neg c3] at q
    rw [decide_eq_false c3]
    refine iteF (nx_run ?_)
    dsimp only
    refine ⟨_, rfl, rfl, _, rfl, ?_⟩
    rw [dec_s]
    by_cases c4 : wd = "or"
    · rw [if_pos c4] at q
      rw [decide_eq_true c4]
      have hform : ∃ t1 t2, a = [t1, t2] := by
        split at q
        · exact ⟨_, _, rfl⟩
        · exact q.elim
      obtain ⟨t1, t2, rfl⟩ := hform
      obtain ⟨v1, us2, rfl, hv1, hl2⟩ := hl1.cons
      obtain ⟨v2, us3, rfl, hv2, hl3⟩ := hl2.cons
      dsimp only at q
      refine iteT (ret_run ⟨_, rfl, _, rfl, ua, _, 1, v1, rfl, rfl, hs, atI_nat (j := 1) rfl, _, rfl, x, sk, fs, v1, p, t1, pl, rfl, hV0, hv1, hp, ?_⟩)
      refine ans_or q _ (fun H1 s1 q1 => ?_) (fun H1 s1 q1 => ?_)
      · exact ⟨_, rfl, iteF ⟨_, rfl, _, rfl, ua, _, 2, v2, rfl, rfl, same_seqT s1 hs, atI_nat (j := 2) rfl, _, rfl, x, sk, fs, v2, p, t2, pl, rfl, hV0.same s1, hv2.same s1, hp.same s1, q1⟩⟩
      · exact ⟨_, rfl, iteT q1⟩
    rw [if_neg c4] at q
    rw [decide_eq_false c4]
    refine iteF (nx_run ?_)
    dsimp only
    refine ⟨_, rfl, rfl, _, rfl, ?_⟩
    rw [dec_s]
    by_cases c5 : wd = "not"
    · rw [if_pos c5] at q
      rw [decide_eq_true c5]
      have hform : ∃ t1, a = [t1] := by
        split at q
        · exact ⟨_, rfl⟩
        · exact q.elim
      obtain ⟨t1, rfl⟩ := hform
      obtain ⟨v1, us2, rfl, hv1, hl2⟩ := hl1.cons
      dsimp only at q
      refine iteT (ret_run ⟨_, rfl, _, rfl, ua, _, 1, v1, rfl, rfl, hs, atI_nat (j := 1) rfl, _, rfl, x, sk, fs, v1, p, t1, pl, rfl, hV0, hv1, hp, ?_⟩)
      cases ho : holdT fs sk n t1 pl with
      | none => rw [ho] at q; exact q.elim
      | some an =>
        rw [ho] at q
        cases an with
        | ask b c => exact q
        | ok c =>
          intro H1 w1 z1 e
          obtain rfl := e
          exact ⟨_, rfl, q _ _ z1 rfl⟩
    rw [if_neg c5] at q
    rw [decide_eq_false c5]
    refine iteF (nx_run ?_)
    dsimp only
    have hform : ∃ t1 t2, a = [t1, t2] := by
      split at q
      · exact ⟨_, _, rfl⟩
      · exact q.elim
    obtain ⟨t1, t2, rfl⟩ := hform
    obtain ⟨v1, us2, rfl, hv1, hl2⟩ := hl1.cons
    obtain ⟨v2, us3, rfl, hv2, hl3⟩ := hl2.cons
    dsimp only at q
    refine ⟨_, rfl, _, rfl, ua, _, 1, v1, rfl, rfl, hs, atI_nat (j := 1) rfl, _, rfl, x, sk, fs, v1, p, t1, pl, rfl, hV0, hv1, hp, ?_⟩
    cases ho : walkT fs sk n t1 pl with
    | none => rw [ho] at q; exact q.elim
    | some an =>
      rw [ho] at q
      cases an with
      | ask b c => exact q
      | ok r =>
        obtain ⟨told, b⟩ := r
        dsimp only at q
        rintro H1 w1 s1 ⟨A1, y, rfl, hA, hy⟩
        refine ⟨A1, _, rfl, hA, rfl, _, _, rfl, _, _, rfl, rfl, ?_⟩
        dsimp only at hy
        refine ⟨_, rfl, rfl, _, rfl, ?_⟩
        rw [dec_s]
        by_cases c4 : told = "gives"
        · rw [if_pos c4] at q
          rw [decide_eq_true c4]
          exact iteT ⟨_, rfl, _, rfl, ua, _, 2, v2, rfl, rfl, same_seqT s1 hs, atI_nat (j := 2) rfl, _, rfl, x, sk, fs, v2, y, t2, b, rfl, hV0.same s1, hv2.same s1, hy, q.up s1⟩
        · rw [if_neg c4] at q
          rw [decide_eq_false c4]
          exact iteF (q _ _ s1 rfl)
theorem ok_tb_step {n : Nat} {fT fI : Addr} {dT dI : FuncData} (F : Fun K "taken_by" "taken_by" sTb fT dT)
    (DH : Dn P w K mg base (L2.CX P w) (7 + n) "holds_in" ["view", "test", "place"] (spH K CV CN CU n) fI dI) :
    FnOk P w K mg base (L2.CX P w) (7 + n + 1) fT dT ["view", "term", "place"] (spT K CV CN CU (n + 1)) := by
  refine F.okX (k := 7 + n) scTb (fun vs H Q E h => ?_) (fun cdv A outer s H vs Q E hr h => ?_)
  · obtain ⟨x, sk, fs, u, p, t, pl, rfl, _⟩ := h
    rfl
  · obtain ⟨x, sk, fs, u, p, t, pl, rfl, hV, hu, hp, q⟩ := h
    refine ⟨_, pss_one (ps_ret (pe_ifExp (pt_val (pe_call (E := E) DH.G hr (by rfl) DH.m DH.k DH.b .nil (passes_call (takes_of rfl rfl rfl rfl) fun cls d _ H h => h) (pa_cons (pv 0) (pa_cons (pe_ix ix_tup (pv 1) pe_int (fun _ _ => rfl)) (pa_cons (pv 2) pa_nil))))) (pe_ix ix_tup (pv 1) pe_int (fun _ _ => rfl)) (pe_ix ix_tup (pv 1) pe_int (fun _ _ => rfl)))), ?_⟩
    have hform : ∃ wd t1 t2 t3, t = .tup [.str wd, t1, t2, t3] := by
      unfold takeT at q
      split at q
      · cases ‹_ = _›
      · exact ⟨_, _, _, _, rfl⟩
      · exact q.elim
    obtain ⟨wd, t1, t2, t3, rfl⟩ := hform
    rw [takeT_s] at q
    obtain ⟨ua, us, rfl, hs, hl⟩ := hu.tup
    obtain ⟨v0, us1, rfl, h0, hl1⟩ := hl.cons
    obtain ⟨v1, us2, rfl, hv1, hl2⟩ := hl1.cons
    obtain ⟨v2, us3, rfl, hv2, hl3⟩ := hl2.cons
    obtain ⟨v3, us4, rfl, hv3, hl4⟩ := hl3.cons
    refine ⟨_, rfl, _, rfl, ua, _, 1, v1, rfl, rfl, hs, atI_nat (j := 1) rfl, _, rfl, x, sk, fs, v1, p, t1, pl, rfl, hV, hv1, hp, ?_⟩
    cases ho : holdT fs sk n t1 pl with
    | none => rw [ho] at q; exact q.elim
    | some an =>
      rw [ho] at q
      cases an with
      | ask b c => exact q
      | ok c =>
        intro H1 w1 z1 e
        obtain rfl := e
        cases c with
        | true => exact ⟨_, rfl, iteT ⟨_, rfl, ua, _, 2, v2, rfl, rfl, same_seqT z1 hs, atI_nat (j := 2) rfl, q _ _ z1 (hv2.same z1)⟩⟩
        | false => exact ⟨_, rfl, iteF ⟨_, rfl, ua, _, 3, v3, rfl, rfl, same_seqT z1 hs, atI_nat (j := 3) rfl, q _ _ z1 (hv3.same z1)⟩⟩
/-- all three, by fuel -/
theorem ok_wk0 {fW : Addr} {dW : FuncData} (F : Fun K "_walked" "_walked" sWk fW dW) : FnOk P w K mg base (L2.CX P w) 7 fW dW ["view", "walk", "place"] (spW K CV CN CU 0) := by
  refine F.okX (k := 6) scWk (fun vs H Q E h => ?_) (fun cdv A outer s H vs Q E hr h => ?_)
  all_goals
    obtain ⟨x, sk, fs, u, p, t, pl, _, _, _, _, q⟩ := h
    rw [walkT_0] at q
    exact q.elim
theorem ok_hi0 {fW : Addr} {dW : FuncData} (F : Fun K "holds_in" "holds_in" sHi fW dW) : FnOk P w K mg base (L2.CX P w) 7 fW dW ["view", "test", "place"] (spH K CV CN CU 0) := by
  refine F.okX (k := 6) scHi (fun vs H Q E h => ?_) (fun cdv A outer s H vs Q E hr h => ?_)
  all_goals
    obtain ⟨x, sk, fs, u, p, t, pl, _, _, _, _, q⟩ := h
    rw [holdT_0] at q
    exact q.elim
theorem ok_tb0 {fW : Addr} {dW : FuncData} (F : Fun K "taken_by" "taken_by" sTb fW dW) : FnOk P w K mg base (L2.CX P w) 7 fW dW ["view", "term", "place"] (spT K CV CN CU 0) := by
  refine F.okX (k := 6) scTb (fun vs H Q E h => ?_) (fun cdv A outer s H vs Q E hr h => ?_)
  all_goals
    obtain ⟨x, sk, fs, u, p, t, pl, _, _, _, _, q⟩ := h
    rw [takeT_0] at q
    exact q.elim
theorem ok_whole {fW fT fI : Addr} {dW dT dI : FuncData} (M : VwM P w K mg base CV CN CU fO fE fH fS dO dE dH dS) (S : GSt mg u1 u2 u3) (FW : Fun K "_walked" "_walked" sWk fW dW) (FH : Fun K "holds_in" "holds_in" sHi fI dI) (FT : Fun K "taken_by" "taken_by" sTb fT dT)
    (KW : Kn K mg "_walked" ["view", "walk", "place"] fW dW) (KH : Kn K mg "holds_in" ["view", "test", "place"] fI dI) (KT : Kn K mg "taken_by" ["view", "term", "place"] fT dT) : ∀ n, Dn P w K mg base (L2.CX P w) (7 + n) "_walked" ["view", "walk", "place"] (spW K CV CN CU n) fW dW ∧ Dn P w K mg base (L2.CX P w) (7 + n) "holds_in" ["view", "test", "place"] (spH K CV CN CU n) fI dI ∧ Dn P w K mg base (L2.CX P w) (7 + n) "taken_by" ["view", "term", "place"] (spT K CV CN CU n) fT dT
  | 0 => ⟨⟨ok_wk0 FW, KW.m, KW.k, KW.b⟩, ⟨ok_hi0 FH, KH.m, KH.k, KH.b⟩, ⟨ok_tb0 FT, KT.m, KT.k, KT.b⟩⟩
  | n + 1 => by
    obtain ⟨a, b, c⟩ := ok_whole M S FW FH FT KW KH KT n
    exact ⟨⟨ok_wk_step M S FW a c, KW.m, KW.k, KW.b⟩, ⟨ok_hi_step M S FH a b, KH.m, KH.k, KH.b⟩, ⟨ok_tb_step FT b, KT.m, KT.k, KT.b⟩⟩
end
end Toy


namespace Toy
open PySem PySem.Spec L2 PyProof.Rows PySem.W
/-! ### expressions that stand for a datum -/
def Gv (K : PySem.W.Frag) (te : TE) (σ : L2.St) (H : Hp) (r : Dt) : Prop := ∀ H1, Same H H1 → ∀ Q : VK, (∀ H' v, Same H1 H' → Pt K H' v r → Q v H') → te σ H1 Q
def GvA (K : PySem.W.Frag) (ta : TA) (σ : L2.St) (H : Hp) (rs : List Dt) : Prop := ∀ H1, Same H H1 → ∀ Q : List V → Hp → Prop, (∀ H' vs, Same H1 H' → PtL K H' vs rs → Q vs H') → ta σ H1 Q
section
variable {K : PySem.W.Frag} {te tf : TE} {ta : TA} {σ : L2.St} {H H1 : Hp} {r : Dt} {rs ts : List Dt} {Q : VK}
theorem Gv.run (h : Gv K te σ H r) (s : Same H H1) (q : ∀ H' v, Same H1 H' → Pt K H' v r → Q v H') : te σ H1 Q := h H1 s Q q
theorem gv_var {i : Nat} {v : V} (e : σ[i]? = some (some v)) (h : Pt K H v r) : Gv K (tVar i) σ H r := fun H1 s Q q => ⟨v, e, q H1 v same_id (h.same s)⟩
theorem gv_str (x : Str) : Gv K (tC (.str x)) σ H (.str x) := fun H1 s Q q => q H1 _ same_id (pt_str x)
theorem gv_int (x : Int) : Gv K (tC (.int x)) σ H (.int x) := fun H1 s Q q => q H1 _ same_id (pt_int x)
theorem gv_bl (x : Bool) : Gv K (tC (.bl x)) σ H (.bl x) := fun H1 s Q q => q H1 _ same_id (pt_bl x)
theorem gv_non : Gv K (tC .non) σ H .non := fun H1 s Q q => q H1 _ same_id pt_non
theorem gv_nil : GvA K tNil σ H [] := fun H1 s Q q => q H1 _ same_id ptl_nil
theorem gv_cons (h : Gv K te σ H r) (k : GvA K ta σ H rs) : GvA K (tCons te ta) σ H (r :: rs) := fun H1 s Q q => h H1 s _ fun H2 v s2 hv => k H2 (s.trans s2) _ fun H3 vs s3 hvs => q H3 _ (s2.trans s3) (ptl_cons (hv.same s3) hvs)
theorem gv_tup (h : GvA K ta σ H rs) (hl : rs.length ≤ 3000) : Gv K (tTup ta) σ H (.tup rs) := fun H1 s Q q => h H1 s _ fun H2 vs s2 hvs => ⟨by rw [hvs.len, sizeLine_eq]; omega, fun p np => q _ _ (s2.trans (same_new same_id np)) (pt_tup (SqT.of upd_same) (hvs.same (same_new same_id np)))⟩
theorem gv_ix {j : Nat} (h : Gv K te σ H (.tup ts)) (e : ts[j]? = some r) : Gv K (tOp (rIxT K) te (tC (.int (j : Int)))) σ H r := fun H1 s Q q => h H1 s _ fun H2 v s2 hv => by
  obtain ⟨a, us, rfl, ha, hus⟩ := hv.tup
  obtain ⟨y, hy, hp⟩ := hus.get' e
  exact ⟨a, us, (j : Int), y, rfl, rfl, ha, atI_nat hy, q H2 y s2 hp⟩
theorem gv_ix0 (h : Gv K te σ H (.tup ts)) (e : ts[0]? = some r) : Gv K (tOp (rIxT K) te (tC (.int 0))) σ H r := gv_ix (j := 0) h e
theorem gv_ix1 (h : Gv K te σ H (.tup ts)) (e : ts[1]? = some r) : Gv K (tOp (rIxT K) te (tC (.int 1))) σ H r := gv_ix (j := 1) h e
theorem gv_ix2 (h : Gv K te σ H (.tup ts)) (e : ts[2]? = some r) : Gv K (tOp (rIxT K) te (tC (.int 2))) σ H r := gv_ix (j := 2) h e
theorem gv_ix3 (h : Gv K te σ H (.tup ts)) (e : ts[3]? = some r) : Gv K (tOp (rIxT K) te (tC (.int 3))) σ H r := gv_ix (j := 3) h e
theorem gv_cat (h : Gv K te σ H (.tup ts)) (k : Gv K tf σ H (.tup rs)) (hl : ts.length + rs.length ≤ 3000) : Gv K (tOp (rCatA K) te tf) σ H (.tup (ts ++ rs)) := fun H1 s Q q => h H1 s _ fun H2 v s2 hv => k H2 (s.trans s2) _ fun H3 u s3 hu => by
  obtain ⟨a, xs, rfl, ha, hx⟩ := (hv.same s3).tup
  obtain ⟨b, ys, rfl, hb, hy⟩ := hu.tup
  exact catA_run ha hb hx hy hl fun H' T s' hT => q H' _ (s2.trans (s3.trans s')) hT
theorem gv_star (h : Gv K te σ H (.tup ts)) (k : GvA K ta σ H rs) : GvA K (StX.tStar K te ta) σ H (ts ++ rs) := fun H1 s Q q => h H1 s _ fun H2 v s2 hv => by
  obtain ⟨a, xs, rfl, ha, hx⟩ := hv.tup
  exact ⟨a, xs, rfl, .inl ha, k H2 (s.trans s2) _ fun H3 vs s3 hvs => q H3 _ (s2.trans s3) ((hx.same s3).app hvs)⟩
theorem gv_star1 (h : Gv K te σ H (.tup ts)) : GvA K (StX.tStar K te tNil) σ H ts := fun H1 s Q q => h H1 s _ fun H2 v s2 hv => by
  obtain ⟨a, xs, rfl, ha, hx⟩ := hv.tup
  exact ⟨a, xs, rfl, .inl ha, q H2 _ s2 (by rw [List.append_nil]; exact hx)⟩
theorem gv_ixv {i j : Nat} {v : V} (e : σ[i]? = some (some v)) (h : Pt K H v (.tup ts)) (e2 : ts[j]? = some r) : Gv K (tOp (rIxT K) (tVar i) (tC (.int (j : Int)))) σ H r := gv_ix (gv_var e h) e2
theorem gv_ixv0 {i : Nat} {v : V} (e : σ[i]? = some (some v)) (h : Pt K H v (.tup ts)) (e2 : ts[0]? = some r) : Gv K (tOp (rIxT K) (tVar i) (tC (.int 0))) σ H r := gv_ixv (j := 0) e h e2
theorem gv_ixv1 {i : Nat} {v : V} (e : σ[i]? = some (some v)) (h : Pt K H v (.tup ts)) (e2 : ts[1]? = some r) : Gv K (tOp (rIxT K) (tVar i) (tC (.int 1))) σ H r := gv_ixv (j := 1) e h e2
theorem gv_ixv2 {i : Nat} {v : V} (e : σ[i]? = some (some v)) (h : Pt K H v (.tup ts)) (e2 : ts[2]? = some r) : Gv K (tOp (rIxT K) (tVar i) (tC (.int 2))) σ H r := gv_ixv (j := 2) e h e2
theorem gv_ixv3 {i : Nat} {v : V} (e : σ[i]? = some (some v)) (h : Pt K H v (.tup ts)) (e2 : ts[3]? = some r) : Gv K (tOp (rIxT K) (tVar i) (tC (.int 3))) σ H r := gv_ixv (j := 3) e h e2
/-- a value told of -/
theorem gv_of {v : V} (h : ∀ H1, Same H H1 → ∀ Q : VK, Q v H1 → te σ H1 Q) (hv : Pt K H v r) : Gv K te σ H r := fun H1 s Q q => h H1 s Q (q H1 v same_id (hv.same s))
end
section
variable {K : PySem.W.Frag} {te tf : TE} {ta : TA} {σ : L2.St} {H H1 : Hp} {r : Dt} {rs ts : List Dt} {Q : VK}
theorem cut_whole {xs : List V} {lo hi : Option Int} (h : HT.sIx xs.length 0 lo = 0 ∧ HT.sIx xs.length xs.length hi = xs.length) : cutV xs lo hi = xs := by
  unfold cutV
  rw [h.1, h.2]
  simp
theorem sl_run {a : Addr} {xs : List V} {lo hi : Option Int} (h : SqT K H a xs) (q : ∀ H' c, Same H H' → SqT K H' c (cutV xs lo hi) → Q (.ref c) H') : rSlA K (.ref a) lo hi H Q :=
  ⟨a, xs, rfl, h, fun hw => q H a same_id (by rw [cut_whole hw]; exact h), fun _ p np => q _ p (same_new same_id np) (SqT.of upd_same)⟩
theorem cut_d1 (xs : List V) : cutV xs (some 1) none = xs.drop 1 := by
  cases xs with
  | nil => rfl
  | cons a xs => rw [cut_1]; rfl
theorem cut_dl (xs : List V) : cutV xs none (some (-1)) = xs.dropLast := by
  unfold cutV HT.sIx
  simp only [List.drop_zero, Nat.sub_zero]
  rw [List.dropLast_eq_take]
  congr 1
  rw [if_pos (by decide)]
  omega
theorem gv_d1 (h : Gv K te σ H (.tup ts)) : Gv K (tSl (rSlA K) te (tPart (tC (.int 1))) tNoPart) σ H (.tup (ts.drop 1)) := fun H1 s Q q => h H1 s _ fun H2 v s2 hv => by
  obtain ⟨a, xs, rfl, ha, hx⟩ := hv.tup
  exact ⟨1, rfl, sl_run (hi := none) ha fun H' c s' hc => q H' _ (s2.trans s') (pt_tup (by rw [cut_d1] at hc; exact hc) ((hx.same s').drop 1))⟩
theorem gv_dl (h : Gv K te σ H (.tup ts)) : Gv K (tSl (rSlA K) te tNoPart (tPart (tUn (rU fun i => .int (-i)) (tC (.int 1))))) σ H (.tup ts.dropLast) := fun H1 s Q q => h H1 s _ fun H2 v s2 hv => by
  obtain ⟨a, xs, rfl, ha, hx⟩ := hv.tup
  refine ⟨1, rfl, -1, rfl, sl_run (lo := none) (hi := some (-1)) ha fun H' c s' hc => q H' _ (s2.trans s') (pt_tup (by rw [cut_dl] at hc; exact hc) ?_)⟩
  have := (hx.same s').take (ts.length - 1)
  rw [List.dropLast_eq_take, List.dropLast_eq_take, hx.len]
  exact this
end
end Toy


namespace Toy
open PySem PySem.Spec L2 PyProof.Rows PySem.W
/-! ### a chooser followed on a view -/
abbrev NFp : List Str := ["view", "place", "terms", "step", "given"]
theorem scFp : FnScope NFp ["view", "place", "terms", "step"] (defScope sFp) := ⟨rfl, rfl, rfl, by decide +kernel, rfl, by decide +kernel, by decide +kernel⟩
abbrev NFu : List Str := ["view", "place", "terms", "step", "term", "behind", "word", "told", "end"]
theorem scFu : FnScope NFu ["view", "place", "terms", "step"] (defScope sFu) := ⟨rfl, rfl, rfl, by decide +kernel, rfl, by decide +kernel, by decide +kernel⟩
abbrev NFo : List Str := ["view", "run", "tasks", "places", "_", "place", "terms", "step", "waiting", "further"]
theorem scFo : FnScope NFo ["view", "run"] (defScope sFo) := ⟨rfl, rfl, rfl, by decide +kernel, rfl, by decide +kernel, by decide +kernel⟩
theorem scBe : FnScope ["term"] ["term"] (defScope sBe) := ⟨rfl, rfl, rfl, by decide +kernel, rfl, by decide +kernel, by decide +kernel⟩
abbrev NRo : List Str := ["view", "term", "run"]
theorem scRo : FnScope NRo ["view", "term"] (defScope sRo) := ⟨rfl, rfl, rfl, by decide +kernel, rfl, by decide +kernel, by decide +kernel⟩
def spFp (K : PySem.W.Frag) (CV CN CU : Addr) : Sp := fun vs H Q E => ∃ (x : Addr) (sk : Dt) (fs : List Str) (p u s : V) (pl st : Dt) (ts : List Dt), vs = [.ref x, p, u, s] ∧ ViewAt K CV CN H x sk fs ∧ Pt K H p pl ∧ Pt K H u (.tup ts) ∧ Pt K H s st ∧ fs.length ≤ 1000 ∧ Ans K CU H Q E (GPt K) (partsT fs sk pl ts st)
def spFu (K : PySem.W.Frag) (CV CN CU : Addr) : Sp := fun vs H Q E => ∃ (x : Addr) (sk : Dt) (fs : List Str) (p u s : V) (pl st : Dt) (ts : List Dt), vs = [.ref x, p, u, s] ∧ ViewAt K CV CN H x sk fs ∧ Pt K H p pl ∧ Pt K H u (.tup ts) ∧ Pt K H s st ∧ fs.length ≤ 1000 ∧ Ans K CU H Q E (GPt K) (furtherT fs sk pl ts st)
def spFo (K : PySem.W.Frag) (CV CN CU : Addr) : Sp := fun vs H Q E => ∃ (x : Addr) (sk : Dt) (fs : List Str) (u : V) (t : Dt), vs = [.ref x, u] ∧ ViewAt K CV CN H x sk fs ∧ Pt K H u t ∧ fs.length ≤ 1000 ∧ Ans K CU H Q E (GPt K) (followT fs sk t)
def spBe (K : PySem.W.Frag) : Sp := fun vs H Q _ => ∃ (u : V) (t : Dt), vs = [u] ∧ Pt K H u t ∧ ∀ H' v, Same H H' → Pt K H' v (begunT t) → Q v H'
def spRo (K : PySem.W.Frag) (CV CN CU : Addr) : Sp := fun vs H Q E => ∃ (x : Addr) (sk : Dt) (fs : List Str) (u : V) (t : Dt), vs = [.ref x, u] ∧ ViewAt K CV CN H x sk fs ∧ Pt K H u t ∧ fs.length ≤ 1000 ∧ Ans K CU H Q E (GPt K) (rowT fs sk fuelR (begunT t))
def goT (fs : List Str) (sk pl : Dt) (terms : List Dt) (step : Dt) : Option (An Dt) := match behindT fs sk pl step, pl with
    | some (.ok .non), _ => some (.ok (.tup []))
    | some (.ok g), .tup st => if st.length ≤ 1000 then some (.ok (.tup [tripT pl terms g, tripT (.tup (st ++ [g])) (terms.drop 1) .non])) else none
    | some (.ask p q), _ => some (.ask p q)
    | _, _ => none
theorem partsT_n (fs : List Str) (sk pl : Dt) (terms : List Dt) : partsT fs sk pl terms .non = andThen (isOdT sk pl) (goT fs sk pl terms .non) (.ok .non) := rfl
theorem partsT_s (fs : List Str) (sk pl : Dt) (terms : List Dt) (st : Dt) (h : isNonT st = false) : partsT fs sk pl terms st = goT fs sk pl terms st := by
  cases st <;> first | rfl | cases h
def bindA {α β : Type} (a : Option (An α)) (f : α → Option (An β)) : Option (An β) := match a with
  | some (.ok r) => f r
  | some (.ask p q) => some (.ask p q)
  | none => none
theorem ans_bind {α β : Type} {K : PySem.W.Frag} {CU : Addr} {H : Hp} {Q : VK} {E : XK} {G : β → Hp → V → Prop} {G1 : α → Hp → V → Prop} {a : Option (An α)} {f : α → Option (An β)} (q : Ans K CU H Q E G (bindA a f)) (Q1 : VK)
    (h : ∀ r H' v, Same H H' → G1 r H' v → Ans K CU H' Q E G (f r) → Q1 v H') : Ans K CU H Q1 E G1 a := by
  cases a with
  | none => exact q.elim
  | some a =>
    cases a with
    | ask x y => exact q
    | ok r => exact fun H' v s g => h r H' v s g (Ans.up q s)
def RR (wd : Str) (a behind : List Dt) (pl : Dt) : Str × Dt → Option (An Dt) := fun r => if r.1 = "gives" then some (.ok (.tup [tripT r.2 behind .non])) else if wd = "other" ∧ r.1 = "none" then (match a.drop 1 with
    | t2 :: _ => some (.ok (.tup [tripT pl (t2 :: behind) .non]))
    | [] => none) else some (.ok (if wd = "try" then .tup [] else .non))
section
variable {P : Program} {w : World} {K : PySem.W.Frag} {mg : Str → Option Value} {base : Heap} {CV CN CU : Addr} {fO fE fH fS : Addr} {dO dE dH dS : FuncData} {u1 u2 u3 : Value}
theorem ok_fp {f : Addr} {fd : FuncData} (M : VwM P w K mg base CV CN CU fO fE fH fS dO dE dH dS) (F : Fun K "_further_parts" "_further_parts" sFp f fd) : FnOk P w K mg base (L2.CX P w) 7 f fd ["view", "place", "terms", "step"] (spFp K CV CN CU) := by
  refine F.okX (k := 6) scFp (fun vs H Q E h => ?_) (fun cdv A outer s H vs Q E hr h => ?_)
  · obtain ⟨x, sk, fs, p, u, s, pl, st, ts, rfl, _⟩ := h
    rfl
  · obtain ⟨x, sk, fs, p, u, s, pl, st, ts, rfl, hV, hp, hu, hs, hfl, q⟩ := h
    have hr5 := hr.mono (show 5 ≤ 6 by omega)
    have hr6 := hr
    refine ⟨_, pss_cons (ps_if (PW.pt (pw_and (pt_cmpR op_isN (pv 3) pe_non (nomark _)) (pw_and (pt_not (pt_val (pe_meth (E := E) (pv 0) M.vo.c M.vo.m M.vo.G hr5 M.vo.b .nil (passes_call (takes_of rfl rfl rfl rfl) fun cls d _ H h => h) (pa_cons (pv 1) (pa_cons pe_str pa_nil))))) (pw_and1 (pt_not (pt_val (pe_meth (E := E) (pv 0) M.vo.c M.vo.m M.vo.G hr5 M.vo.b .nil (passes_call (takes_of rfl rfl rfl rfl) fun cls d _ H h => h) (pa_cons (pv 1) (pa_cons pe_str pa_nil))))))))) (pss_one (ps_ret pe_non)) pss_nil)
      (pss_cons (ps_set (i := 4) scFp.nd rfl (Or.inl rfl) (pe_meth (E := E) (pv 0) M.vs.c M.vs.m M.vs.G hr6 M.vs.b .nil (passes_call (takes_of rfl rfl rfl rfl) fun cls d _ H h => h) (pa_cons (pv 1) (pa_cons (pv 3) pa_nil))))
      (pss_cons (ps_if (pt_cmpR op_isN (pv 4) pe_non (nomark _)) (pss_one (ps_ret (pe_tup pa_nil))) pss_nil)
      (pss_one (ps_ret (pe_tup (pa_cons (pe_tup (pa_cons (pv 1) (pa_cons (pv 2) (pa_cons (pv 4) pa_nil)))) (pa_cons (pe_tup (pa_cons (pe_op op_catA (pv 1) (pe_tup (pa_cons (pv 4) pa_nil))) (pa_cons (pe_slice sl_tupA (pv 2) (po_some pe_int) po_none) (pa_cons pe_non pa_nil)))) pa_nil))))))), ?_⟩
    have hV0 := hV
    obtain ⟨dv, nm, SK, T', v, h1, hN, h3, h4, h5⟩ := hV
    refine seq_postS (fun σ' H' => σ' = [some (.ref x), some p, some u, some s, none] ∧ Same H H' ∧ Ans K CU H' Q E (GPt K) (goT fs sk pl ts st)) (fun rr kk => ?_) (fun σ' H2 hh => ?_)
    · refine ⟨_, rfl, rfl, _, rfl, ?_⟩
      rw [dec_non hs]
      cases hn : isNonT st with
      | false =>
        rw [partsT_s _ _ _ _ _ hn] at q
        exact iteF (iteF (kk _ _ ⟨rfl, same_id, q⟩))
      | true =>
        have : st = .non := by cases st <;> first | rfl | cases hn
        subst this
        rw [partsT_n] at q
        refine iteT ⟨_, rfl, x, dv, _, rfl, h1, rfl, _, rfl, x, sk, fs, p, pl, "list", rfl, hV0, hp, ?_⟩
        unfold isOdT at q
        cases ho : isOfT sk pl "list" with
        | none => rw [ho] at q; exact q.elim
        | some an =>
          rw [ho] at q
          cases an with
          | ask a b => exact q
          | ok b =>
            intro H1 v' s1 e
            obtain rfl := e
            cases b with
            | true => exact ⟨_, rfl, iteF (iteF (kk _ _ ⟨rfl, s1, q.up s1⟩))⟩
            | false =>
              refine ⟨_, rfl, iteT ⟨_, rfl, x, dv, _, rfl, s1 _ _ h1, rfl, _, rfl, x, sk, fs, p, pl, "dict", rfl, hV0.same s1, hp.same s1, ?_⟩⟩
              dsimp only at q
              cases ho : isOfT sk pl "dict" with
              | none => rw [ho] at q; exact q.elim
              | some an =>
                rw [ho] at q
                cases an with
                | ask a b => exact Askd.up q s1
                | ok b =>
                  intro H2 v' s2 e
                  obtain rfl := e
                  cases b with
                  | true => exact ⟨_, rfl, iteF (kk _ _ ⟨rfl, s1.trans s2, q.up (s1.trans s2)⟩)⟩
                  | false => exact ⟨_, rfl, iteT (ret_run (q _ _ (s1.trans s2) pt_non))⟩
    · obtain ⟨rfl, s2, q⟩ := hh
      have hV := hV0.same s2
      have hp := hp.same s2
      have hu := hu.same s2
      have hs := hs.same s2
      have h1 := s2 _ _ h1
      refine asg_run ⟨_, rfl, x, dv, _, rfl, h1, rfl, _, rfl, _, rfl, x, sk, fs, p, s, pl, st, rfl, hV, hp, hs, hfl, ?_⟩
      unfold goT at q
      cases hb : behindT fs sk pl st with
      | none =>
        rw [hb] at q
        cases pl <;> exact q.elim
      | some an =>
        rw [hb] at q
        cases an with
        | ask a b => cases pl <;> exact q
        | ok g =>
          intro H3 vg s3 hg
          refine ⟨_, rfl, rfl, _, rfl, ?_⟩
          rw [dec_non hg]
          cases hn : isNonT g with
          | true =>
            have : g = .non := by cases g <;> first | rfl | cases hn
            subst this
            have q : Ans K CU H2 Q E (GPt K) (some (.ok (.tup []))) := by cases pl <;> exact q
            exact iteT (ret_run (Gv.run (K := K) (r := .tup []) (H := H3) (by (repeat' (first | exact gv_nil | exact gv_str _ | exact gv_int _ | exact gv_bl _ | exact gv_non | exact gv_var rfl (by assumption) | refine gv_tup ?_ (by simp <;> omega) | refine gv_cons ?_ ?_ | exact gv_ixv0 (by rfl) (by assumption) (by rfl) | exact gv_ixv1 (by rfl) (by assumption) (by rfl) | exact gv_ixv2 (by rfl) (by assumption) (by rfl) | exact gv_ixv3 (by rfl) (by assumption) (by rfl) | refine gv_star1 ?_ | refine gv_star ?_ ?_ | refine gv_d1 ?_ | refine gv_dl ?_ | refine gv_cat ?_ ?_ (by simp <;> omega)))) same_id fun H4 v4 s4 h4' => q _ _ (s3.trans s4) h4'))
          | false =>
            cases pl with
            | tup st' =>
              have q : Ans K CU H2 Q E (GPt K) (if st'.length ≤ 1000 then some (.ok (.tup [tripT (.tup st') ts g, tripT (.tup (st' ++ [g])) (ts.drop 1) .non])) else none) := by
                cases g <;> first | exact q | cases hn
              by_cases c : st'.length ≤ 1000
              · rw [if_pos c] at q
                refine iteF (nx_run ?_)
                dsimp only
                have hp3 := hp.same s3
                have hu3 := hu.same s3
                exact ret_run (Gv.run (K := K) (r := .tup [tripT (.tup st') ts g, tripT (.tup (st' ++ [g])) (ts.drop 1) .non]) (H := H3) (by unfold tripT; (repeat' (first | exact gv_nil | exact gv_str _ | exact gv_int _ | exact gv_bl _ | exact gv_non | exact gv_var rfl (by assumption) | refine gv_tup ?_ (by simp <;> omega) | refine gv_cons ?_ ?_ | exact gv_ixv0 (by rfl) (by assumption) (by rfl) | exact gv_ixv1 (by rfl) (by assumption) (by rfl) | exact gv_ixv2 (by rfl) (by assumption) (by rfl) | exact gv_ixv3 (by rfl) (by assumption) (by rfl) | refine gv_star1 ?_ | refine gv_star ?_ ?_ | refine gv_d1 ?_ | refine gv_dl ?_ | refine gv_cat ?_ ?_ (by simp <;> omega)))) same_id fun H4 v4 s4 h4' => q _ _ (s3.trans s4) h4')
              · rw [if_neg c] at q
                exact q.elim
            | _ => cases g <;> first | exact q.elim | cases hn
theorem ok_fu {f fP fW fT : Addr} {fd dP dW dT : FuncData} (S : GSt mg u1 u2 u3) (F : Fun K "_further" "_further" sFu f fd) (DP : Dn P w K mg base (L2.CX P w) 7 "_further_parts" ["view", "place", "terms", "step"] (spFp K CV CN CU) fP dP)
    (DW : Dn P w K mg base (L2.CX P w) (7 + fuelW) "_walked" ["view", "walk", "place"] (spW K CV CN CU fuelW) fW dW) (DT : Dn P w K mg base (L2.CX P w) (7 + fuelW) "taken_by" ["view", "term", "place"] (spT K CV CN CU fuelW) fT dT) : FnOk P w K mg base (L2.CX P w) (7 + fuelW + 1) f fd ["view", "place", "terms", "step"] (spFu K CV CN CU) := by
  refine F.okX (k := 7 + fuelW) scFu (fun vs H Q E h => ?_) (fun cdv A outer s H vs Q E hr h => ?_)
  · obtain ⟨x, sk, fs, p, u, s, pl, st, ts, rfl, _⟩ := h
    rfl
  · obtain ⟨x, sk, fs, p, u, s, pl, st, ts, rfl, hV, hp, hu, hs, hfl, q⟩ := h
    have hr7 := hr.mono (show 7 ≤ 7 + fuelW by omega)
    refine ⟨_, pss_cons (ps_set (i := 4) scFu.nd rfl (Or.inl rfl) (pe_ix ix_tup (pv 2) pe_int (fun _ _ => rfl)))
      (pss_cons (ps_set (i := 5) scFu.nd rfl (Or.inl rfl) (pe_slice sl_tupA (pv 2) (po_some pe_int) po_none))
      (pss_cons (ps_set (i := 6) scFu.nd rfl (Or.inl rfl) (pe_ix ix_tup (pv 4) pe_int (fun _ _ => rfl)))
      (pss_cons (ps_if (pt_cmpR op_eq (pv 6) pe_str (nomark _)) (pss_one (ps_ret (pe_tup pa_nil))) pss_nil)
      (pss_cons (ps_if (pt_cmpR op_eq (pv 6) pe_str (nomark _)) (pss_one (ps_ret (pe_call (E := E) DP.G hr7 (by rfl) DP.m DP.k DP.b .nil (passes_call (takes_of rfl rfl rfl rfl) fun cls d _ H h => h) (pa_cons (pv 0) (pa_cons (pv 1) (pa_cons (pv 2) (pa_cons (pv 3) pa_nil))))))) pss_nil)
      (pss_cons (ps_if (pt_cmpR op_eq (pv 6) pe_str (nomark _)) (pss_one (ps_ret (pe_tup (pa_cons (pe_tup (pa_cons (pv 1) (pa_cons (pe_tup (pa_cons (pe_ix ix_tup (pv 4) pe_int (fun _ _ => rfl)) (pa_cons (pe_ix ix_tup (pv 4) pe_int (fun _ _ => rfl)) (StX.pa_star (pv 5) pa_nil)))) (pa_cons pe_non pa_nil)))) pa_nil)))) pss_nil)
      (pss_cons (ps_if (pt_cmpR op_eq (pv 6) pe_str (nomark _)) (pss_one (ps_ret (pe_tup (pa_cons (pe_tup (pa_cons (pv 1) (pa_cons (pe_tup (pa_cons (pe_ix ix_tup (pv 4) pe_int (fun _ _ => rfl)) (StX.pa_star (pv 5) pa_nil))) (pa_cons pe_non pa_nil)))) (pa_cons (pe_tup (pa_cons (pv 1) (pa_cons (pe_tup (pa_cons (pe_ix ix_tup (pv 4) pe_int (fun _ _ => rfl)) (StX.pa_star (pv 5) pa_nil))) (pa_cons pe_non pa_nil)))) pa_nil))))) pss_nil)
      (pss_cons (ps_if (pt_cmpR op_eq (pv 6) pe_str (nomark _)) (pss_one (ps_ret (pe_tup (pa_cons (pe_tup (pa_cons (pv 1) (pa_cons (pe_tup (pa_cons (pe_call (E := E) DT.G hr (by rfl) DT.m DT.k DT.b .nil (passes_call (takes_of rfl rfl rfl rfl) fun cls d _ H h => h) (pa_cons (pv 0) (pa_cons (pv 4) (pa_cons (pv 1) pa_nil)))) (StX.pa_star (pv 5) pa_nil))) (pa_cons pe_non pa_nil)))) pa_nil)))) pss_nil)
      (pss_cons (ps_asg (pe_call (E := E) DW.G hr (by rfl) DW.m DW.k DW.b .nil (passes_call (takes_of rfl rfl rfl rfl) fun cls d _ H h => h) (pa_cons (pv 0) (pa_cons (pe_ifExp (pt_cmpR op_in_seq (pv 6) (pe_tup (pa_cons pe_str (pa_cons pe_str pa_nil))) (by rfl)) (pe_ix ix_tup (pv 4) pe_int (fun _ _ => rfl)) (pv 4)) (pa_cons (pv 1) pa_nil)))) (pg_tup rfl (pgs_cons (pg_name (i := 7) scFu.nd rfl (.inl rfl)) (pgs_cons (pg_name (i := 8) scFu.nd rfl (.inl rfl)) pgs_nil))))
      (pss_cons (ps_if (pt_cmpR op_eq (pv 7) (pe_glob (v := .str "gives") (by rfl) S.g1 S.r1) (nomark _)) (pss_one (ps_ret (pe_tup (pa_cons (pe_tup (pa_cons (pv 8) (pa_cons (pv 5) (pa_cons pe_non pa_nil)))) pa_nil)))) pss_nil)
      (pss_cons (ps_if (PW.pt (pw_and (pt_cmpR op_eq (pv 6) pe_str (nomark _)) (pw_and1 (pt_cmpR op_eq (pv 7) (pe_glob (v := .str "none") (by rfl) S.g2 S.r2) (nomark _))))) (pss_one (ps_ret (pe_tup (pa_cons (pe_tup (pa_cons (pv 1) (pa_cons (pe_tup (pa_cons (pe_ix ix_tup (pv 4) pe_int (fun _ _ => rfl)) (StX.pa_star (pv 5) pa_nil))) (pa_cons pe_non pa_nil)))) pa_nil)))) pss_nil)
      (pss_one (ps_ret (pe_ifExp (pt_cmpR op_eq (pv 6) pe_str (nomark _)) (pe_tup pa_nil) pe_non))))))))))))), ?_⟩
    have hform : ∃ wd a behind, ts = .tup (.str wd :: a) :: behind := by
      unfold furtherT at q
      split at q
      · exact ⟨_, _, _, rfl⟩
      · exact q.elim
    obtain ⟨wd, a, behind, rfl⟩ := hform
    unfold furtherT at q
    dsimp only at q
    by_cases hbl : 1000 < behind.length
    · rw [if_pos hbl] at q
      exact q.elim
    rw [if_neg hbl] at q
    have hu0 := hu
    obtain ⟨ut, us, rfl, hut, hus⟩ := hu.tup
    obtain ⟨va, us1, rfl, hvt, hus1⟩ := hus.cons
    have hvt0 := hvt
    obtain ⟨va', ws, hve, hva, hws⟩ := hvt.tup
    obtain ⟨w0, ws1, rfl, hw0, hws1⟩ := hws.cons
    obtain rfl := hw0.str
    refine asg_run ⟨_, rfl, ut, _, 0, _, rfl, rfl, hut, at_0 _ _, ?_⟩
    refine asg_run (Gv.run (K := K) (r := .tup behind) (H := H) ?_ same_id fun H1 B s1 hB => ?_)
    · refine gv_d1 (ts := .tup (.str wd :: a) :: behind) ?_
      (repeat' (first | exact gv_nil | exact gv_str _ | exact gv_int _ | exact gv_bl _ | exact gv_non | exact gv_var rfl (by assumption) | refine gv_tup ?_ (by simp <;> omega) | refine gv_cons ?_ ?_ | exact gv_ixv0 (by rfl) (by assumption) (by rfl) | exact gv_ixv1 (by rfl) (by assumption) (by rfl) | exact gv_ixv2 (by rfl) (by assumption) (by rfl) | exact gv_ixv3 (by rfl) (by assumption) (by rfl) | refine gv_star1 ?_ | refine gv_star ?_ ?_ | refine gv_d1 ?_ | refine gv_dl ?_ | refine gv_cat ?_ ?_ (by simp <;> omega)))
    refine asg_run ⟨_, rfl, va', _, 0, _, hve, rfl, same_seqT s1 hva, at_0 _ _, ?_⟩
    have q := q.up s1
    have hV := hV.same s1
    have hp := hp.same s1
    have hs := hs.same s1
    have hu0 := hu0.same s1
    have hvt0 := hvt0.same s1
    have hva := same_seqT s1 hva
    have hws1 := hws1.same s1
    clear hut hus hus1 hvt hws hu
    refine ⟨_, rfl, rfl, _, rfl, ?_⟩
    rw [dec_s]
    by_cases c1 : wd = "none"
    · rw [if_pos c1] at q
      rw [decide_eq_true c1]
      exact iteT (ret_run (Gv.run (K := K) (r := .tup []) (H := H1) (by (repeat' (first | exact gv_nil | exact gv_str _ | exact gv_int _ | exact gv_bl _ | exact gv_non | exact gv_var rfl (by assumption) | refine gv_tup ?_ (by simp <;> omega) | refine gv_cons ?_ ?_ | exact gv_ixv0 (by rfl) (by assumption) (by rfl) | exact gv_ixv1 (by rfl) (by assumption) (by rfl) | exact gv_ixv2 (by rfl) (by assumption) (by rfl) | exact gv_ixv3 (by rfl) (by assumption) (by rfl) | refine gv_star1 ?_ | refine gv_star ?_ ?_ | refine gv_d1 ?_ | refine gv_dl ?_ | refine gv_cat ?_ ?_ (by simp <;> omega)))) same_id fun H4 v4 s4 h4' => q _ _ s4 h4'))
    rw [if_neg c1] at q
    rw [decide_eq_false c1]
    refine iteF (nx_run ?_)
    dsimp only
    refine ⟨_, rfl, rfl, _, rfl, ?_⟩
    rw [dec_s]
    by_cases c2 : wd = "every"
    · rw [if_pos c2] at q
      rw [decide_eq_true c2]
      exact iteT (ret_run ⟨_, rfl, _, rfl, _, rfl, _, rfl, x, sk, fs, p, .ref ut, s, pl, st, _, rfl, hV, hp, hu0, hs, hfl, q⟩)
    rw [if_neg c2] at q
    rw [decide_eq_false c2]
    refine iteF (nx_run ?_)
    dsimp only
    refine ⟨_, rfl, rfl, _, rfl, ?_⟩
    rw [dec_s]
    by_cases c3 : wd = "pipe"
    · rw [if_pos c3] at q
      rw [decide_eq_true c3]
      have hform : ∃ t1 t2, a = [t1, t2] := by
        split at q
        · exact ⟨_, _, rfl⟩
        · exact q.elim
      obtain ⟨t1, t2, rfl⟩ := hform
      obtain ⟨v1, ws2, rfl, hv1, hws2⟩ := hws1.cons
      obtain ⟨v2, ws3, rfl, hv2, hws3⟩ := hws2.cons
      dsimp only at q
      exact iteT (ret_run (Gv.run (K := K) (r := .tup [tripT pl (t1 :: t2 :: behind) .non]) (H := H1) (by unfold tripT; (repeat' (first | exact gv_nil | exact gv_str _ | exact gv_int _ | exact gv_bl _ | exact gv_non | exact gv_var rfl (by assumption) | refine gv_tup ?_ (by simp <;> omega) | refine gv_cons ?_ ?_ | exact gv_ixv0 (by rfl) (by assumption) (by rfl) | exact gv_ixv1 (by rfl) (by assumption) (by rfl) | exact gv_ixv2 (by rfl) (by assumption) (by rfl) | exact gv_ixv3 (by rfl) (by assumption) (by rfl) | refine gv_star1 ?_ | refine gv_star ?_ ?_ | refine gv_d1 ?_ | refine gv_dl ?_ | refine gv_cat ?_ ?_ (by simp <;> omega)))) same_id fun H4 v4 s4 h4' => q _ _ s4 h4'))
    rw [if_neg c3] at q
    rw [decide_eq_false c3]
    refine iteF (nx_run ?_)
    dsimp only
    refine ⟨_, rfl, rfl, _, rfl, ?_⟩
    rw [dec_s]
    by_cases c4 : wd = "both"
    · rw [if_pos c4] at q
      rw [decide_eq_true c4]
      have hform : ∃ t1 t2, a = [t1, t2] := by
        split at q
        · exact ⟨_, _, rfl⟩
        · exact q.elim
      obtain ⟨t1, t2, rfl⟩ := hform
      obtain ⟨v1, ws2, rfl, hv1, hws2⟩ := hws1.cons
      obtain ⟨v2, ws3, rfl, hv2, hws3⟩ := hws2.cons
      dsimp only at q
      exact iteT (ret_run (Gv.run (K := K) (r := .tup [tripT pl (t2 :: behind) .non, tripT pl (t1 :: behind) .non]) (H := H1) (by unfold tripT; (repeat' (first | exact gv_nil | exact gv_str _ | exact gv_int _ | exact gv_bl _ | exact gv_non | exact gv_var rfl (by assumption) | refine gv_tup ?_ (by simp <;> omega) | refine gv_cons ?_ ?_ | exact gv_ixv0 (by rfl) (by assumption) (by rfl) | exact gv_ixv1 (by rfl) (by assumption) (by rfl) | exact gv_ixv2 (by rfl) (by assumption) (by rfl) | exact gv_ixv3 (by rfl) (by assumption) (by rfl) | refine gv_star1 ?_ | refine gv_star ?_ ?_ | refine gv_d1 ?_ | refine gv_dl ?_ | refine gv_cat ?_ ?_ (by simp <;> omega)))) same_id fun H4 v4 s4 h4' => q _ _ s4 h4'))
    rw [if_neg c4] at q
    rw [decide_eq_false c4]
    refine iteF (nx_run ?_)
    dsimp only
    refine ⟨_, rfl, rfl, _, rfl, ?_⟩
    rw [dec_s]
    by_cases c5 : wd = "if"
    · rw [if_pos c5] at q
      rw [decide_eq_true c5]
      cases ho : takeT fs sk fuelW (.tup (.str wd :: a)) pl with
      | none => rw [ho] at q; exact q.elim
      | some an =>
        rw [ho] at q
        refine iteT (ret_run ⟨_, rfl, _, rfl, _, rfl, _, rfl, x, sk, fs, va, p, _, pl, rfl, hV, hvt0, hp, ?_⟩)
        rw [ho]
        cases an with
        | ask b c => exact q
        | ok r =>
          intro H2 w1 s2 hw1
          have hB2 := hB.same s2
          have hp2 := hp.same s2
          have gB : GvA K (StX.tStar K (tVar 5) tNil) [some (.ref x), some p, some (.ref ut), some s, some va, some B, some (.str wd), none, none] H2 behind := by (repeat' (first | exact gv_nil | exact gv_str _ | exact gv_int _ | exact gv_bl _ | exact gv_non | exact gv_var rfl (by assumption) | refine gv_tup ?_ (by simp <;> omega) | refine gv_cons ?_ ?_ | exact gv_ixv0 (by rfl) (by assumption) (by rfl) | exact gv_ixv1 (by rfl) (by assumption) (by rfl) | exact gv_ixv2 (by rfl) (by assumption) (by rfl) | exact gv_ixv3 (by rfl) (by assumption) (by rfl) | refine gv_star1 ?_ | refine gv_star ?_ ?_ | refine gv_d1 ?_ | refine gv_dl ?_ | refine gv_cat ?_ ?_ (by simp <;> omega)))
          refine gB H2 same_id _ fun H3 bs s3 hbs => ?_
          have hw3 := hw1.same s3
          have hp3 := hp2.same s3
          refine ⟨by rw [List.length_cons, hbs.len, sizeLine_eq]; omega, fun T1 n1 => ?_⟩
          have s4 := same_new (u := .tup (w1 :: bs)) (same_id (H := H3)) n1
          have hT1 : Pt K _ (.ref T1) (.tup (r :: behind)) := pt_tup (SqT.of upd_same) ((ptl_cons hw3 hbs).same s4)
          refine ⟨few (by show 3 ≤ 1000; decide), fun T2 n2 => ?_⟩
          have s5 := same_new (u := .tup [p, .ref T1, .non]) s4 n2
          refine ⟨few (by show 1 ≤ 1000; decide), fun T3 n3 => ?_⟩
          have s6 := same_new (u := .tup [.ref T2]) s5 n3
          exact q _ _ (s2.trans (s3.trans s6)) (pt_tup (SqT.of upd_same) (ptl_cons ((pt_tup (SqT.of upd_same) (ptl_cons (hp3.same s5) (ptl_cons (hT1.same (same_new same_id n2)) (ptl_cons pt_non ptl_nil)))).same (same_new same_id n3)) ptl_nil))
    rw [if_neg c5] at q
    rw [decide_eq_false c5]
    refine iteF (nx_run ?_)
    dsimp only
    have e2 : (if false = true then !inV (V.str wd) [V.str "try", V.str "other"] else inV (V.str wd) [V.str "try", V.str "other"]) = decide (wd = "try" ∨ wd = "other") := by
      rw [if_neg (by decide), show ([V.str "try", V.str "other"] : List V) = (["try", "other"] : List Str).map V.str from rfl, inV_strs]
      simp
    refine seq_postS (fun σ' H' => ∃ (told : Str) (ve : V) (e : Dt), σ' = [some (.ref x), some p, some (.ref ut), some s, some va, some B, some (.str wd), some (.str told), some ve] ∧ Same H1 H' ∧ Pt K H' ve e ∧ Ans K CU H' Q E (GPt K) (RR wd a behind pl (told, e))) (fun rr kk => ?_) (fun σ' H2 hh => ?_)
    · refine ⟨_, rfl, _, rfl, few (by show 2 ≤ 1000; decide), fun T nT => ?_⟩
      have s7 := same_new (u := .tup [.str "try", .str "other"]) (same_id (H := H1)) nT
      refine ⟨T, _, rfl, .inr (SqT.of upd_same), rfl, rfl, _, rfl, ?_⟩
      rw [e2]
      by_cases c6 : wd = "try" ∨ wd = "other"
      · rw [if_pos c6] at q
        rw [decide_eq_true c6]
        cases a with
        | nil => exact q.elim
        | cons wk more =>
          obtain ⟨v1, ws2, rfl, hv1, hws2⟩ := hws1.cons
          have q : Ans K CU H1 Q E (GPt K) (bindA (walkT fs sk fuelW wk pl) (RR wd (wk :: more) behind pl)) := by
            dsimp only at q
            cases hw : walkT fs sk fuelW wk pl with
            | none => rw [hw] at q; exact q.elim
            | some an =>
              rw [hw] at q
              cases an with
              | ask b c => exact q
              | ok r => exact q
          refine iteT ⟨_, rfl, va', _, 1, v1, hve, rfl, same_seqT s7 hva, atI_nat (j := 1) rfl, _, rfl, x, sk, fs, v1, p, wk, pl, rfl, hV.same s7, hv1.same s7, hp.same s7, ans_bind (q.up s7) _ ?_⟩
          rintro ⟨told, e⟩ H3 w1 s3 ⟨A1, ve, rfl, hA, hve⟩ q3
          exact ⟨A1, _, rfl, hA, rfl, _, _, rfl, _, _, rfl, rfl, kk _ _ ⟨told, ve, e, rfl, s7.trans s3, hve, q3⟩⟩
      · rw [if_neg c6] at q
        rw [decide_eq_false c6]
        have n1 : ¬ wd = "try" := fun z => c6 (.inl z)
        have n2 : ¬ wd = "other" := fun z => c6 (.inr z)
        have q : Ans K CU H1 Q E (GPt K) (bindA (walkT fs sk fuelW (.tup (.str wd :: a)) pl) (RR wd a behind pl)) := by
          cases hw : walkT fs sk fuelW (.tup (.str wd :: a)) pl with
          | none => rw [hw] at q; exact q.elim
          | some an =>
            rw [hw] at q
            cases an with
            | ask b c => exact q
            | ok r =>
              obtain ⟨told, e⟩ := r
              unfold bindA RR
              dsimp only at q ⊢
              rw [if_neg (fun z => n2 z.1 : ¬ (wd = "other" ∧ told = "none")), if_neg n1]
              exact q
        refine iteF ⟨_, rfl, _, rfl, x, sk, fs, va, p, _, pl, rfl, hV.same s7, hvt0.same s7, hp.same s7, ans_bind (q.up s7) _ ?_⟩
        rintro ⟨told, e⟩ H3 w1 s3 ⟨A1, ve, rfl, hA, hve⟩ q3
        exact ⟨A1, _, rfl, hA, rfl, _, _, rfl, _, _, rfl, rfl, kk _ _ ⟨told, ve, e, rfl, s7.trans s3, hve, q3⟩⟩
    · obtain ⟨told, ve, e, rfl, s2, hve2, q⟩ := hh
      have hB := hB.same s2
      have hp := hp.same s2
      have hvt0 := hvt0.same s2
      unfold RR at q
      dsimp only at q
      refine ⟨_, rfl, rfl, _, rfl, ?_⟩
      rw [dec_s]
      by_cases c7 : told = "gives"
      · rw [if_pos c7] at q
        rw [decide_eq_true c7]
        exact iteT (ret_run (Gv.run (K := K) (r := .tup [tripT e behind .non]) (H := H2) (by unfold tripT; (repeat' (first | exact gv_nil | exact gv_str _ | exact gv_int _ | exact gv_bl _ | exact gv_non | exact gv_var rfl (by assumption) | refine gv_tup ?_ (by simp <;> omega) | refine gv_cons ?_ ?_ | exact gv_ixv0 (by rfl) (by assumption) (by rfl) | exact gv_ixv1 (by rfl) (by assumption) (by rfl) | exact gv_ixv2 (by rfl) (by assumption) (by rfl) | exact gv_ixv3 (by rfl) (by assumption) (by rfl) | refine gv_star1 ?_ | refine gv_star ?_ ?_ | refine gv_d1 ?_ | refine gv_dl ?_ | refine gv_cat ?_ ?_ (by simp <;> omega)))) same_id fun H4 v4 s4 h4' => q _ _ s4 h4'))
      rw [if_neg c7] at q
      rw [decide_eq_false c7]
      refine iteF (nx_run ?_)
      dsimp only
      by_cases c8 : wd = "other" ∧ told = "none"
      · rw [if_pos c8] at q
        refine ifl_valS (v := true) (fun Q' kk => tand_valS (b := true) (c := true) (fun Q' k1 => ⟨_, rfl, rfl, _, rfl, ?_⟩) (fun _ H4 s4 Q' k1 => ⟨_, rfl, rfl, _, rfl, ?_⟩) kk) (fun _ H4 s4 => ?_) (fun hb => nomatch hb)
        · rw [dec_s, decide_eq_true c8.1]
          exact k1 _ same_id
        · rw [dec_s, decide_eq_true c8.2]
          exact k1 _ same_id
        · cases a with
          | nil => exact q.elim
          | cons t1 more =>
            cases more with
            | nil => exact q.elim
            | cons t2 more =>
              have hB := hB.same s4
              have hp := hp.same s4
              have hvt0 := hvt0.same s4
              exact ret_run (Gv.run (K := K) (r := .tup [tripT pl (t2 :: behind) .non]) (H := H4) (by unfold tripT; (repeat' (first | exact gv_nil | exact gv_str _ | exact gv_int _ | exact gv_bl _ | exact gv_non | exact gv_var rfl (by assumption) | refine gv_tup ?_ (by simp <;> omega) | refine gv_cons ?_ ?_ | exact gv_ixv0 (by rfl) (by assumption) (by rfl) | exact gv_ixv1 (by rfl) (by assumption) (by rfl) | exact gv_ixv2 (by rfl) (by assumption) (by rfl) | exact gv_ixv3 (by rfl) (by assumption) (by rfl) | refine gv_star1 ?_ | refine gv_star ?_ ?_ | refine gv_d1 ?_ | refine gv_dl ?_ | refine gv_cat ?_ ?_ (by simp <;> omega)))) same_id fun H5 v5 s5 h5' => q _ _ (s4.trans s5) h5')
      · rw [if_neg c8] at q
        refine ifl_valS (v := false) (fun Q' kk => tand_valS (b := decide (wd = "other")) (c := false) (fun Q' k1 => ⟨_, rfl, rfl, _, rfl, ?_⟩) (fun hb H4 s4 Q' k1 => ⟨_, rfl, rfl, _, rfl, ?_⟩) (by rw [Bool.and_false]; exact kk)) (fun hb => nomatch hb) (fun _ H4 s4 => nx_run ?_)
        · rw [dec_s]
          exact k1 _ same_id
        · rw [dec_s, decide_eq_false (fun z => c8 ⟨of_decide_eq_true hb, z⟩)]
          exact k1 _ same_id
        · dsimp only
          refine ⟨_, rfl, rfl, _, rfl, ?_⟩
          rw [dec_s]
          by_cases c9 : wd = "try"
          · rw [if_pos c9] at q
            rw [decide_eq_true c9]
            exact iteT (Gv.run (K := K) (r := .tup []) (H := H4) (by (repeat' (first | exact gv_nil | exact gv_str _ | exact gv_int _ | exact gv_bl _ | exact gv_non | exact gv_var rfl (by assumption) | refine gv_tup ?_ (by simp <;> omega) | refine gv_cons ?_ ?_ | exact gv_ixv0 (by rfl) (by assumption) (by rfl) | exact gv_ixv1 (by rfl) (by assumption) (by rfl) | exact gv_ixv2 (by rfl) (by assumption) (by rfl) | exact gv_ixv3 (by rfl) (by assumption) (by rfl) | refine gv_star1 ?_ | refine gv_star ?_ ?_ | refine gv_d1 ?_ | refine gv_dl ?_ | refine gv_cat ?_ ?_ (by simp <;> omega)))) same_id fun H5 v5 s5 h5' => q _ _ (s4.trans s5) h5')
          · rw [if_neg c9] at q
            rw [decide_eq_false c9]
            exact iteF (q _ _ s4 pt_non)
theorem ok_fo {f fF : Addr} {fd dF : FuncData} (F : Fun K "followed" "followed" sFo f fd) (DF : Dn P w K mg base (L2.CX P w) 14 "_further" ["view", "place", "terms", "step"] (spFu K CV CN CU) fF dF) : FnOk P w K mg base (L2.CX P w) 15 f fd ["view", "run"] (spFo K CV CN CU) := by
  refine F.okX (k := 14) scFo (fun vs H Q E h => ?_) (fun cdv A outer s H vs Q E hr h => ?_)
  · obtain ⟨x, sk, fs, u, t, rfl, _⟩ := h
    rfl
  · obtain ⟨x, sk, fs, u, t, rfl, hV, hu, hfl, q⟩ := h
    refine ⟨_, pss_cons (ps_asg (pv 1) (pg_tup rfl (pgs_cons (pg_name (i := 2) scFo.nd rfl (.inl rfl)) (pgs_cons (pg_name (i := 3) scFo.nd rfl (.inl rfl)) (pgs_cons (pg_name (i := 4) scFo.nd rfl (.inl rfl)) pgs_nil)))))
      (pss_cons (ps_if (pt_not (pt_truth (pv 2) (by intro _; rfl))) (pss_one (ps_ret (pe_tup (pa_cons (pe_tup pa_nil) (pa_cons (pv 3) (pa_cons pe_bl pa_nil)))))) pss_nil)
      (pss_cons (ps_asg (pe_ix ix_tup (pv 2) (pe_un un_neg pe_int) (fun _ _ => rfl)) (pg_tup rfl (pgs_cons (pg_name (i := 5) scFo.nd rfl (.inl rfl)) (pgs_cons (pg_name (i := 6) scFo.nd rfl (.inl rfl)) (pgs_cons (pg_name (i := 7) scFo.nd rfl (.inl rfl)) pgs_nil)))))
      (pss_cons (ps_set (i := 8) scFo.nd rfl (Or.inl rfl) (pe_slice sl_tupA (pv 2) po_none (po_some (pe_un un_neg pe_int))))
      (pss_cons (ps_if (pt_not (pt_truth (pv 6) (by intro _; rfl))) (pss_one (ps_ret (pe_tup (pa_cons (pv 8) (pa_cons (pe_op op_catA (pv 3) (pe_tup (pa_cons (pv 5) pa_nil))) (pa_cons pe_non pa_nil)))))) pss_nil)
      (pss_cons (ps_set (i := 9) scFo.nd rfl (Or.inl rfl) (pe_call (E := E) DF.G hr (by rfl) DF.m DF.k DF.b .nil (passes_call (takes_of rfl rfl rfl rfl) fun cls d _ H h => h) (pa_cons (pv 0) (pa_cons (pv 5) (pa_cons (pv 6) (pa_cons (pv 7) pa_nil))))))
      (pss_cons (ps_if (pt_cmpR op_isN (pv 9) pe_non (nomark _)) (pss_one (ps_ret (pe_tup (pa_cons (pe_tup pa_nil) (pa_cons (pv 3) (pa_cons pe_bl pa_nil)))))) pss_nil)
      (pss_one (ps_ret (pe_tup (pa_cons (pe_op op_catA (pv 8) (pv 9)) (pa_cons (pv 3) (pa_cons pe_non pa_nil)))))))))))), ?_⟩
    have hform : ∃ tasks places e, t = .tup [.tup tasks, .tup places, e] := by
      unfold followT at q
      split at q
      · exact ⟨_, _, _, rfl⟩
      · exact q.elim
    obtain ⟨tasks, places, e0, rfl⟩ := hform
    unfold followT at q
    dsimp only at q
    obtain ⟨ua, us, rfl, hua, hus⟩ := hu.tup
    obtain ⟨vk, us1, rfl, hvk, hus1⟩ := hus.cons
    obtain ⟨vp, us2, rfl, hvp, hus2⟩ := hus1.cons
    obtain ⟨ve, us3, rfl, hve, hus3⟩ := hus2.cons
    obtain rfl := hus3.nil
    refine ⟨_, rfl, ua, _, rfl, hua, rfl, _, _, rfl, _, _, rfl, _, _, rfl, rfl, ?_⟩
    dsimp only
    have hvk0 := hvk
    obtain ⟨ka, ks, rfl, hka, hks⟩ := hvk.tup
    cases hl : tasks.getLast? with
    | none =>
      rw [hl] at q
      have ht : tasks = [] := List.getLast?_eq_none_iff.mp hl
      subst ht
      obtain rfl := hks.nil
      refine ⟨_, rfl, _, .inr (.inl ⟨_, hka, rfl⟩), iteT ?_⟩
      exact ret_run (Gv.run (K := K) (r := .tup [.tup [], .tup places, .bl true]) (H := H) (by (repeat' (first | exact gv_nil | exact gv_str _ | exact gv_int _ | exact gv_bl _ | exact gv_non | exact gv_var rfl (by assumption) | refine gv_tup ?_ (by simp <;> omega) | refine gv_cons ?_ ?_ | exact gv_ixv0 (by rfl) (by assumption) (by rfl) | exact gv_ixv1 (by rfl) (by assumption) (by rfl) | exact gv_ixv2 (by rfl) (by assumption) (by rfl) | exact gv_ixv3 (by rfl) (by assumption) (by rfl) | refine gv_star1 ?_ | refine gv_star ?_ ?_ | refine gv_d1 ?_ | refine gv_dl ?_ | refine gv_cat ?_ ?_ (by simp <;> omega)))) same_id fun H4 v4 s4 h4' => q _ _ s4 h4')
    | some tk =>
      rw [hl] at q
      have hform : ∃ pl terms step, tk = .tup [pl, .tup terms, step] := by
        split at q
        · rename_i e; cases e
        · rename_i e; injection e with e; exact ⟨_, _, _, e⟩
        · exact q.elim
      obtain ⟨pl, terms, step, rfl⟩ := hform
      dsimp only at q
      obtain ⟨ini, rfl⟩ : ∃ ini, tasks = ini ++ [.tup [pl, .tup terms, step]] := by
        obtain ⟨ini, h⟩ := List.getLast?_eq_some_iff.mp hl
        exact ⟨ini, h⟩
      have hkl : ∃ k1 kz, ks = k1 ++ [kz] ∧ Pt K H kz (.tup [pl, .tup terms, step]) := by
        obtain ⟨y, hy, hp⟩ := hks.get' (i := ini.length) (t := .tup [pl, .tup terms, step]) (by simp)
        refine ⟨ks.take ini.length, y, ?_, hp⟩
        have hlen := hks.len
        rw [List.length_append, List.length_singleton] at hlen
        have hi := (List.getElem?_eq_some_iff.mp hy).1
        conv => lhs; rw [← List.take_append_drop ini.length ks]
        rw [List.drop_eq_getElem_cons hi, (List.getElem?_eq_some_iff.mp hy).2, List.drop_eq_nil_of_le (by omega)]
      obtain ⟨k1, kz, rfl, hkz⟩ := hkl
      refine ⟨_, rfl, true, .inr (.inl ⟨_, hka, by simp⟩), iteF (nx_run ?_)⟩
      dsimp only
      obtain ⟨za, zs, rfl, hza, hzs⟩ := hkz.tup
      obtain ⟨z0, zs1, rfl, hz0, hzs1⟩ := hzs.cons
      obtain ⟨z1, zs2, rfl, hz1, hzs2⟩ := hzs1.cons
      obtain ⟨z2, zs3, rfl, hz2, hzs3⟩ := hzs2.cons
      obtain rfl := hzs3.nil
      refine ⟨_, rfl, _, rfl, ka, _, -1, .ref za, rfl, rfl, hka, atI_last k1 (.ref za), za, _, rfl, hza, rfl, _, _, rfl, _, _, rfl, _, _, rfl, rfl, ?_⟩
      dsimp only
      refine asg_run (Gv.run (K := K) (r := .tup (ini ++ [Dt.tup [pl, .tup terms, step]]).dropLast) (H := H) (gv_dl (by (repeat' (first | exact gv_nil | exact gv_str _ | exact gv_int _ | exact gv_bl _ | exact gv_non | exact gv_var rfl (by assumption) | refine gv_tup ?_ (by simp <;> omega) | refine gv_cons ?_ ?_ | exact gv_ixv0 (by rfl) (by assumption) (by rfl) | exact gv_ixv1 (by rfl) (by assumption) (by rfl) | exact gv_ixv2 (by rfl) (by assumption) (by rfl) | exact gv_ixv3 (by rfl) (by assumption) (by rfl) | refine gv_star1 ?_ | refine gv_star ?_ ?_ | refine gv_d1 ?_ | refine gv_dl ?_ | refine gv_cat ?_ ?_ (by simp <;> omega))))) same_id fun H1 vw s1 hvw => ?_)
      rw [List.dropLast_concat] at hvw q
      have hz0 := hz0.same s1
      have hz1 := hz1.same s1
      have hz2 := hz2.same s1
      have hvp := hvp.same s1
      have hV := hV.same s1
      have q := q.up s1
      have hz10 := hz1
      obtain ⟨ta, tv, rfl, hta, htv⟩ := hz1.tup
      cases terms with
      | nil =>
        obtain rfl := htv.nil
        refine ⟨_, rfl, _, .inr (.inl ⟨_, hta, rfl⟩), iteT ?_⟩
        dsimp only at q
        by_cases c : places.length ≤ 1000
        · rw [if_pos c] at q
          exact ret_run (Gv.run (K := K) (r := .tup [.tup ini, .tup (places ++ [pl]), .non]) (H := H1) (by (repeat' (first | exact gv_nil | exact gv_str _ | exact gv_int _ | exact gv_bl _ | exact gv_non | exact gv_var rfl (by assumption) | refine gv_tup ?_ (by simp <;> omega) | refine gv_cons ?_ ?_ | exact gv_ixv0 (by rfl) (by assumption) (by rfl) | exact gv_ixv1 (by rfl) (by assumption) (by rfl) | exact gv_ixv2 (by rfl) (by assumption) (by rfl) | exact gv_ixv3 (by rfl) (by assumption) (by rfl) | refine gv_star1 ?_ | refine gv_star ?_ ?_ | refine gv_d1 ?_ | refine gv_dl ?_ | refine gv_cat ?_ ?_ (by simp <;> omega)))) same_id fun H4 v4 s4 h4' => q _ _ s4 h4')
        · rw [if_neg c] at q
          exact q.elim
      | cons t0 tr =>
        obtain ⟨tv0, tvr, rfl, _, _⟩ := htv.cons
        refine ⟨_, rfl, _, .inr (.inl ⟨_, hta, rfl⟩), iteF (nx_run ?_)⟩
        dsimp only at q ⊢
        have q : Ans K CU H1 Q E (GPt K) (bindA (furtherT fs sk pl (t0 :: tr) step) fun r => match r with
          | .non => some (.ok (.tup [.tup [], .tup places, .bl false]))
          | .tup fr => if (ini ++ [Dt.tup [pl, .tup (t0 :: tr), step]]).length + fr.length ≤ 1000 then some (.ok (.tup [.tup (ini ++ fr), .tup places, .non])) else none
          | _ => none) := by
          cases hw : furtherT fs sk pl (t0 :: tr) step with
          | none => rw [hw] at q; exact q.elim
          | some an =>
            rw [hw] at q
            cases an with
            | ask b c => exact q
            | ok r => cases r <;> exact q
        refine asg_run ⟨_, rfl, _, rfl, _, rfl, _, rfl, x, sk, fs, z0, .ref ta, z2, pl, step, t0 :: tr, rfl, hV, hz0, hz10, hz2, hfl, ans_bind q _ ?_⟩
        intro r H3 vr s3 hvr q3
        have hvr : Pt K H3 vr r := hvr
        have hvp := hvp.same s3
        have hvw := hvw.same s3
        refine ⟨_, rfl, rfl, _, rfl, ?_⟩
        rw [dec_non hvr]
        cases r with
        | non => exact iteT (ret_run (Gv.run (K := K) (r := .tup [.tup [], .tup places, .bl false]) (H := H3) (by (repeat' (first | exact gv_nil | exact gv_str _ | exact gv_int _ | exact gv_bl _ | exact gv_non | exact gv_var rfl (by assumption) | refine gv_tup ?_ (by simp <;> omega) | refine gv_cons ?_ ?_ | exact gv_ixv0 (by rfl) (by assumption) (by rfl) | exact gv_ixv1 (by rfl) (by assumption) (by rfl) | exact gv_ixv2 (by rfl) (by assumption) (by rfl) | exact gv_ixv3 (by rfl) (by assumption) (by rfl) | refine gv_star1 ?_ | refine gv_star ?_ ?_ | refine gv_d1 ?_ | refine gv_dl ?_ | refine gv_cat ?_ ?_ (by simp <;> omega)))) same_id fun H4 v4 s4 h4' => q3 _ _ s4 h4'))
        | tup fr =>
          dsimp only at q3
          by_cases c : (ini ++ [Dt.tup [pl, .tup (t0 :: tr), step]]).length + fr.length ≤ 1000
          · rw [if_pos c] at q3
            rw [List.length_append, List.length_singleton] at c
            refine iteF (nx_run ?_)
            dsimp only
            exact ret_run (Gv.run (K := K) (r := .tup [.tup (ini ++ fr), .tup places, .non]) (H := H3) (gv_tup (gv_cons (gv_cat (by (repeat' (first | exact gv_nil | exact gv_str _ | exact gv_int _ | exact gv_bl _ | exact gv_non | exact gv_var rfl (by assumption) | refine gv_tup ?_ (by simp <;> omega) | refine gv_cons ?_ ?_ | exact gv_ixv0 (by rfl) (by assumption) (by rfl) | exact gv_ixv1 (by rfl) (by assumption) (by rfl) | exact gv_ixv2 (by rfl) (by assumption) (by rfl) | exact gv_ixv3 (by rfl) (by assumption) (by rfl) | refine gv_star1 ?_ | refine gv_star ?_ ?_ | refine gv_d1 ?_ | refine gv_dl ?_ | refine gv_cat ?_ ?_ (by simp <;> omega)))) (by (repeat' (first | exact gv_nil | exact gv_str _ | exact gv_int _ | exact gv_bl _ | exact gv_non | exact gv_var rfl (by assumption) | refine gv_tup ?_ (by simp <;> omega) | refine gv_cons ?_ ?_ | exact gv_ixv0 (by rfl) (by assumption) (by rfl) | exact gv_ixv1 (by rfl) (by assumption) (by rfl) | exact gv_ixv2 (by rfl) (by assumption) (by rfl) | exact gv_ixv3 (by rfl) (by assumption) (by rfl) | refine gv_star1 ?_ | refine gv_star ?_ ?_ | refine gv_d1 ?_ | refine gv_dl ?_ | refine gv_cat ?_ ?_ (by simp <;> omega)))) (by omega)) (by (repeat' (first | exact gv_nil | exact gv_str _ | exact gv_int _ | exact gv_bl _ | exact gv_non | exact gv_var rfl (by assumption) | refine gv_tup ?_ (by simp <;> omega) | refine gv_cons ?_ ?_ | exact gv_ixv0 (by rfl) (by assumption) (by rfl) | exact gv_ixv1 (by rfl) (by assumption) (by rfl) | exact gv_ixv2 (by rfl) (by assumption) (by rfl) | exact gv_ixv3 (by rfl) (by assumption) (by rfl) | refine gv_star1 ?_ | refine gv_star ?_ ?_ | refine gv_d1 ?_ | refine gv_dl ?_ | refine gv_cat ?_ ?_ (by simp <;> omega))))) (by simp)) same_id fun H4 v4 s4 h4' => q3 _ _ s4 h4')
          · rw [if_neg c] at q3
            exact q3.elim
        | _ => exact q3.elim
theorem ok_be {f : Addr} {fd : FuncData} (F : Fun K "begun" "begun" sBe f fd) : FnOk P w K mg base CX0 1 f fd ["term"] (spBe K) := by
  refine F.ok (k := 0) scBe (fun vs H Q E h => ?_) (fun cdv A outer s H vs Q E hr h => ?_)
  · obtain ⟨u, t, rfl, _⟩ := h
    rfl
  · obtain ⟨u, t, rfl, hu, q⟩ := h
    refine ⟨_, pss_one (ps_ret (pe_tup (pa_cons (pe_tup (pa_cons (pe_tup (pa_cons (pe_tup pa_nil) (pa_cons (pe_tup (pa_cons (pv 0) pa_nil)) (pa_cons pe_non pa_nil)))) pa_nil)) (pa_cons (pe_tup pa_nil) (pa_cons pe_non pa_nil))))), ?_⟩
    exact ret_run (Gv.run (K := K) (r := begunT t) (H := H) (by unfold begunT tripT; (repeat' (first | exact gv_nil | exact gv_str _ | exact gv_int _ | exact gv_bl _ | exact gv_non | exact gv_var rfl (by assumption) | refine gv_tup ?_ (by simp <;> omega) | refine gv_cons ?_ ?_ | exact gv_ixv0 (by rfl) (by assumption) (by rfl) | exact gv_ixv1 (by rfl) (by assumption) (by rfl) | exact gv_ixv2 (by rfl) (by assumption) (by rfl) | exact gv_ixv3 (by rfl) (by assumption) (by rfl) | refine gv_star1 ?_ | refine gv_star ?_ ?_ | refine gv_d1 ?_ | refine gv_dl ?_ | refine gv_cat ?_ ?_ (by simp <;> omega)))) same_id fun H4 v4 s4 h4' => q _ _ s4 h4')
theorem ok_ro {f fB fO : Addr} {fd dB dO : FuncData} (F : Fun K "row_in" "row_in" sRo f fd) (DB : Dn P w K mg base CX0 1 "begun" ["term"] (spBe K) fB dB) (DO : Dn P w K mg base (L2.CX P w) 15 "followed" ["view", "run"] (spFo K CV CN CU) fO dO) : FnOk P w K mg base (L2.CX P w) 16 f fd ["view", "term"] (spRo K CV CN CU) := by
  refine F.okX (k := 15) scRo (fun vs H Q E h => ?_) (fun cdv A outer s H vs Q E hr h => ?_)
  · obtain ⟨x, sk, fs, u, t, rfl, _⟩ := h
    rfl
  · obtain ⟨x, sk, fs, u, t, rfl, hV, hu, hfl, q⟩ := h
    have hr1 := hr.mono (show 1 ≤ 15 by omega)
    refine ⟨_, pss_cons (ps_set (i := 2) scRo.nd rfl (Or.inl rfl) (pe_call DB.G hr1 (by rfl) DB.m DB.k DB.b .nil pass0 (pa_cons (pv 1) pa_nil)))
      (pss_cons (ps_while (passes_of rfl) (pt_cmpR op_isN (pe_ix ix_tup (pv 2) pe_int (fun _ _ => rfl)) pe_non (nomark _)) (pss_one (ps_set (i := 2) scRo.nd rfl (Or.inl rfl) (pe_call (E := E) DO.G hr (by rfl) DO.m DO.k DO.b .nil (passes_call (takes_of rfl rfl rfl rfl) fun cls d _ H h => h) (pa_cons (pv 0) (pa_cons (pv 2) pa_nil))))))
      (pss_one (ps_ret (pe_tup (pa_cons (pe_ix ix_tup (pv 2) pe_int (fun _ _ => rfl)) (pa_cons (pe_ix ix_tup (pv 2) pe_int (fun _ _ => rfl)) pa_nil)))))), ?_⟩
    refine asg_run ⟨_, rfl, u, t, rfl, hu, fun H1 v1 s1 hv1 => ?_⟩
    have hV := hV.same s1
    have q := q.up s1
    refine seq_postS (fun σ' H' => ∃ (rv : V) (pls e : Dt) (e0 : Dt), σ' = [some (.ref x), some u, some rv] ∧ Same H1 H' ∧ Pt K H' rv (.tup [e0, pls, e]) ∧ rowT fs sk fuelR (begunT t) = some (.ok (.tup [pls, e]))) (fun rr kk => ?_) (fun σ' H2 hh => ?_)
    · refine ⟨fun m σ' H' => ∃ (rv : V) (r : Dt), σ' = [some (.ref x), some u, some rv] ∧ Same H1 H' ∧ Pt K H' rv r ∧ rowT fs sk m r = rowT fs sk fuelR (begunT t), ⟨fuelR, v1, begunT t, rfl, same_id, hv1, rfl⟩, ?_⟩
      rintro m σ' H2 ⟨rv, r, rfl, s2, hrv, hm⟩
      have q2 := q.up s2
      rw [← hm] at q2
      cases m with
      | zero => exact q2.elim
      | succ m =>
        have hform : ∃ e0 pls e, r = .tup [e0, pls, e] := by
          unfold rowT at q2
          split at q2
          · exact ⟨_, _, _, rfl⟩
          · exact q2.elim
        obtain ⟨e0, pls, e, rfl⟩ := hform
        have em : rowT fs sk (m + 1) (.tup [e0, pls, e]) = if isNonT e = true then (match followT fs sk (.tup [e0, pls, e]) with
          | some (.ok r) => rowT fs sk m r
          | x => x) else some (.ok (.tup [pls, e])) := rfl
        have hrv0 := hrv
        obtain ⟨ra, rs, rfl, hra, hrs⟩ := hrv.tup
        obtain ⟨r0, rs1, rfl, hr0, hrs1⟩ := hrs.cons
        obtain ⟨r1, rs2, rfl, hr1, hrs2⟩ := hrs1.cons
        obtain ⟨r2, rs3, rfl, hr2, hrs3⟩ := hrs2.cons
        refine ⟨_, rfl, ra, _, 2, r2, rfl, rfl, hra, atI_nat (j := 2) rfl, rfl, _, rfl, ?_⟩
        rw [dec_non hr2]
        rw [em] at q2 hm
        cases hn : isNonT e with
        | true =>
          rw [hn, if_pos rfl] at q2 hm
          refine iteT ⟨fun σ' H' => ∃ (rv : V) (r : Dt), σ' = [some (.ref x), some u, some rv] ∧ Same H1 H' ∧ Pt K H' rv r ∧ rowT fs sk m r = rowT fs sk fuelR (begunT t), fun σ' H' h => ⟨m, Nat.lt_succ_self m, h⟩, ?_⟩
          have q3 : Ans K CU H2 Q E (GPt K) (bindA (followT fs sk (.tup [e0, pls, e])) fun r => rowT fs sk m r) := by
            cases hw : followT fs sk (.tup [e0, pls, e]) with
            | none => rw [hw] at q2; exact q2.elim
            | some an =>
              rw [hw] at q2
              cases an with
              | ask b c => exact q2
              | ok r => exact q2
          refine ⟨_, rfl, _, rfl, x, sk, fs, .ref ra, _, rfl, hV.same s2, hrv0, hfl, ?_⟩
          cases hw : followT fs sk (.tup [e0, pls, e]) with
          | none => rw [hw] at q3; exact q3.elim
          | some an =>
            rw [hw] at q3 hm
            cases an with
            | ask b c => exact q3
            | ok r =>
              intro H4 v4 s4 hv4
              exact ⟨v4, r, rfl, s2.trans s4, hv4, hm⟩
        | false =>
          rw [hn, if_neg (by decide)] at q2 hm
          exact iteF (kk _ _ ⟨.ref ra, pls, e, e0, rfl, s2, hrv0, hm.symm⟩)
    · obtain ⟨rv, pls, e, e0, rfl, s2, hrv, hR⟩ := hh
      rw [hR] at q
      have q := q.up s2
      exact ret_run (Gv.run (K := K) (r := .tup [pls, e]) (H := H2) (by (repeat' (first | exact gv_nil | exact gv_str _ | exact gv_int _ | exact gv_bl _ | exact gv_non | exact gv_var rfl (by assumption) | refine gv_tup ?_ (by simp <;> omega) | refine gv_cons ?_ ?_ | exact gv_ixv0 (by rfl) (by assumption) (by rfl) | exact gv_ixv1 (by rfl) (by assumption) (by rfl) | exact gv_ixv2 (by rfl) (by assumption) (by rfl) | exact gv_ixv3 (by rfl) (by assumption) (by rfl) | refine gv_star1 ?_ | refine gv_star ?_ ?_ | refine gv_d1 ?_ | refine gv_dl ?_ | refine gv_cat ?_ ?_ (by simp <;> omega)))) same_id fun H4 v4 s4 h4' => q _ _ s4 h4')
end
end Toy


namespace Toy
open PySem PySem.Spec PyProof.Rows L2 RZ
section
variable {prog : Program} {w : World} {A : Around} {E : Value → Shared → Prop} {s : Shared}
theorem drawsTuple (hh : A.handled = none) (it l : Addr) (hne : l ≠ it) (items : Array Value) :
    Draws prog w A it [it, l] items.size (fun i v => items[i]? = some v) (fun i h => h.IsTupleIter it l i ∧ h.IsTuple l items) where
  live := fun _ _ st => let ⟨o, ho, _⟩ := st.1; ⟨o, ho⟩
  frame := fun _ _ _ st hk => ⟨st.1.at fun o e => hk it (by simp) o e, by obtain ⟨o, e, r⟩ := st.2; exact ⟨o, hk l (by simp) o e, r⟩⟩
  item := fun i s Q E hi st hQ => by
    refine nextOf_tuple_item st.1 st.2 (x := items[i]) (by simp [hi]) fun h' hit' hs' => ?_
    exact hQ _ h' s.toks (by simp [hi]) ⟨hit', st.2.extBut hs'.extBut hne⟩ hs'
  done := fun s Q E st hE => nextOf_tuple_end hh st.1 st.2 (by simp) hE
abbrev zipSH1 (h : Heap) (x : Str) (t : Tok) : Heap := h.push { cls := .type "str_ascii_iterator", data := .fields #[.str x t, .int 0 0] }
abbrev zipSH2 (h : Heap) (x : Str) (t : Tok) (l2 : Addr) : Heap := (zipSH1 h x t).push { cls := .type "tuple_iterator", data := .fields #[.ref l2, .int 0 0] }
abbrev zipSH3 (h : Heap) (x : Str) (t : Tok) (l2 : Addr) : Heap := (zipSH2 h x t l2).push { cls := .type "tuple", data := .seq #[.ref h.objs.size, .ref (zipSH1 h x t).objs.size] }
abbrev zipSH4 (h : Heap) (x : Str) (t : Tok) (l2 : Addr) : Heap := (zipSH3 h x t l2).push { cls := .type "tuple", data := .seq #[.none, .none] }
abbrev zipSH5 (h : Heap) (x : Str) (t : Tok) (l2 : Addr) : Heap := (zipSH4 h x t l2).push { cls := .type "zip", data := .fields #[.none, .bool false, .bool false, .ref (zipSH2 h x t l2).objs.size, .ref (zipSH3 h x t l2).objs.size] }
theorem meets_zipS_new (x : Str) (t : Tok) (ha : x.cps.all (· < 128) = true) (l2 : Addr) (ys : Array Value) :
    Meets (Builtin.«zip.__new__» ⟨[.type "zip", .str x t, .ref l2], []⟩) (fun _ R s => s.heap.IsTuple l2 ys ∧
      R (.ok (.ret (.ref (zipSH4 s.heap x t l2).objs.size))) { s with heap := zipSH5 s.heap x t l2 }) :=
  .of_wp fun prog w A R s h => by
    obtain ⟨hp, g, d, tk, os⟩ := s; obtain ⟨hl2, h⟩ := h
    have hsub := sub_zip
    have hL2 : Heap.IsTuple (Shared.heap ⟨hp.push { cls := .type "str_ascii_iterator", data := .fields #[.str x t, .int 0 0] }, g, d, tk, os⟩) l2 ys := Heap.IsTuple.push hl2 _
    wp_walk using wpAny_pyIter_ascii ha, wpAny_pyIter_tuple hL2
    exact ⟨_, rfl, h⟩
theorem call_zipS {x : Str} {t : Tok} (ha : x.cps.all (· < 128) = true) {l2 : Addr} {ys : Array Value} {Q : Value → Shared → Prop} (hl2 : s.heap.IsTuple l2 ys)
    (h : ∀ h', IsZip h' (s.heap.objs.size + 4) (s.heap.objs.size + 2) (s.heap.objs.size + 3) .none → IsPair h' (s.heap.objs.size + 2) (.ref s.heap.objs.size) (.ref (s.heap.objs.size + 1)) →
      IsPair h' (s.heap.objs.size + 3) .none .none → h'.IsStrIter s.heap.objs.size "str_ascii_iterator" x t 0 → h'.IsTupleIter (s.heap.objs.size + 1) l2 0 → h'.objs.size = s.heap.objs.size + 5 →
      (∀ c o, s.heap.get? c = some o → h'.get? c = some o) → Q (.ref (s.heap.objs.size + 4)) { s with heap := h' }) :
    wpAny (model prog w) A (call (.type "zip") [.str x t, .ref l2]) Q E s := by
  refine callType_new F.called_zip (by decide) (F.typeCall_zip_2 _ _) (F.newCall_zip_2 _ _) (fun obj => F.args_object_init_3 obj _ _) F.entry_zip_new
    (meets_zipS_new x t ha l2 ys) ⟨hl2, ?_⟩
  have z1 : (zipSH1 s.heap x t).objs.size = s.heap.objs.size + 1 := Heap.size_push ..
  have z2 : (zipSH2 s.heap x t l2).objs.size = s.heap.objs.size + 2 := by rw [Heap.size_push, z1]
  have z3 : (zipSH3 s.heap x t l2).objs.size = s.heap.objs.size + 3 := by rw [Heap.size_push, z2]
  have z4 : (zipSH4 s.heap x t l2).objs.size = s.heap.objs.size + 4 := by rw [Heap.size_push, z3]
  have z5 : (zipSH5 s.heap x t l2).objs.size = s.heap.objs.size + 5 := by rw [Heap.size_push, z4]
  have g5 : (zipSH5 s.heap x t l2).get? (zipSH4 s.heap x t l2).objs.size = some _ := Heap.get?_push_size _ rfl
  have g4 : (zipSH5 s.heap x t l2).get? (zipSH3 s.heap x t l2).objs.size = some _ := Heap.get?_push_of_some _ (Heap.get?_push_size _ rfl)
  have g3 : (zipSH5 s.heap x t l2).get? (zipSH2 s.heap x t l2).objs.size = some _ := Heap.get?_push_of_some _ (Heap.get?_push_of_some _ (Heap.get?_push_size _ rfl))
  have g2 : (zipSH5 s.heap x t l2).get? (zipSH1 s.heap x t).objs.size = some _ := Heap.get?_push_of_some _ (Heap.get?_push_of_some _ (Heap.get?_push_of_some _ (Heap.get?_push_size _ rfl)))
  have g1 : (zipSH5 s.heap x t l2).get? s.heap.objs.size = some _ := Heap.get?_push_of_some _ (Heap.get?_push_of_some _ (Heap.get?_push_of_some _ (Heap.get?_push_of_some _ (Heap.get?_push_size _ rfl))))
  show _ ∧ _
  rw [z2, z3, z4] at g5
  rw [z1, z2] at g3
  rw [z3] at g4
  rw [z1] at g2
  rw [z4]
  exact ⟨⟨_, g5, rfl⟩, h _ g5 g3 g4 ⟨_, g1, rfl, rfl⟩ ⟨_, g2, rfl, rfl⟩ z5 fun c o x =>
    Heap.get?_push_of_some _ (Heap.get?_push_of_some _ (Heap.get?_push_of_some _ (Heap.get?_push_of_some _ (Heap.get?_push_of_some _ x))))⟩
end
/-- the letters of x and the tuple at b -/
def ItzS (K : PySem.W.Frag) (x : Str) (b : Addr) : It :=
  ⟨fun i H => ∃ (ys : List V), SqT K H b ys ∧ i < ys.length ∧ i < x.cps.size,
    fun i H v H' => ∃ T c y, v = .ref T ∧ H T = none ∧ x.cps[i]? = some c ∧ H' = upd H T (.tup [.str ⟨#[c]⟩, y]) ∧ ∀ ys, SqT K H b ys → ys[i]? = some y,
    fun i H => ∃ ys : List V, SqT K H b ys ∧ i ≤ ys.length ∧ i ≤ x.cps.size ∧ (i = x.cps.size ∨ i = ys.length)⟩
theorem turn_zipS {P : Program} {w : World} {K : PySem.W.Frag} {elts : List Expr} {kk : Nat} {tpos : Pos} {x : Str} {t : Tok} {b z TI TO i1 i2 : Addr} (D : ZipApart z TI TO i1 i2 b b) :
    Turn P w K (.Tuple elts kk tpos) (ItzS K x b) [z, TI, TO, i1, i2] z (fun i h => IsZip h z TI TO .none ∧ IsPair h TI (.ref i1) (.ref i2) ∧ (∃ x y, IsPair h TO x y) ∧ h.IsStrIter i1 "str_ascii_iterator" x t i ∧ h.IsTupleIter i2 b i) where
  mem := by simp
  obj := fun i h st c hc => by
    obtain ⟨hz, hTI, ⟨x, y, hTO⟩, ⟨o1, e1, _, d1⟩, ⟨o2, e2, _, d2⟩⟩ := st
    have e' : c = z ∨ c = TI ∨ c = TO ∨ c = i1 ∨ c = i2 := by simpa using hc
    rcases e' with q | q | q | q | q
    · rw [q]; exact ⟨_, hz, fun v q => nomatch q⟩
    · rw [q]; exact ⟨_, hTI, fun v q => nomatch q⟩
    · rw [q]; exact ⟨_, hTO, fun v q => nomatch q⟩
    · rw [q]; exact ⟨o1, e1, fun v q => by rw [d1] at q; cases q⟩
    · rw [q]; exact ⟨o2, e2, fun v q => by rw [d2] at q; cases q⟩
  keep := fun i h h' st k => by
    obtain ⟨hz, hTI, ⟨x, y, hTO⟩, ⟨o1, e1, r1⟩, h2⟩ := st
    exact ⟨k z (by simp) _ hz, k TI (by simp) _ hTI, ⟨x, y, k TO (by simp) _ hTO⟩, ⟨o1, k i1 (by simp) _ e1, r1⟩, h2.at fun o q => k i2 (by simp) o q⟩
  item := by
    intro X hP hw hK hc i pins s σ H E I hf st hg
    subst hP hw hK
    obtain ⟨hz, hTI, ⟨x0, y0, hTO⟩, h1, h2⟩ := st
    obtain ⟨ys, hqy, hiy, hix⟩ := hg
    obtain ⟨its2, rv2, p2, _⟩ := I.tuple hqy
    have hl2 := rv2.length
    have hzl : z < s.heap.objs.size := Heap.lt_size hz
    have hh : X.A.in1.handled = none := I.ok.hd hc
    refine wpAny_pyNext_zipD2_item (a1 := x0) (a2 := y0) (St1 := fun i h => h.IsStrIter i1 "str_ascii_iterator" x t i) (St2 := fun i h => h.IsTupleIter i2 b i ∧ h.IsTuple b its2.toArray)
      ⟨D.TIz, D.TOz, D.TITO, D.TIi1, by simp, by simp [D.i1z.symm], by simp [D.TOi1], D.TIi2, by simp, by simp [D.i2z.symm, D.l2z.symm], by simp [D.TOi2, D.l2TO.symm], by simp [D.i12, D.l2i1.symm], by simp [D.i12.symm]⟩
      (Draws.strAscii hh i1 x t) (drawsTuple hh i2 b D.l2i2 its2.toArray) hz hTI hTO h1 ⟨h2, p2⟩ hix (by simp; omega) fun u1 u2 h' tk P1 P2 z' TO' h1' h2' hT hsz hk => ?_
    obtain ⟨c, t1, ec, eu⟩ := P1
    subst eu
    have hy : ys[i]? = some ys[i] := List.getElem?_eq_getElem hiy
    obtain ⟨u, hu, ru⟩ := rv2.get hy
    obtain rfl : u = u2 := by
      have : its2.toArray[i]? = some u2 := P2
      rw [show its2.toArray[i]? = its2[i]? by simp] at this
      rw [hu] at this
      exact Option.some.inj this
    refine ⟨_, rfl, wpAny_letOwnedTupleGo_zip (s := { s with heap := h', toks := tk }) z' fun h'' z'' sb => ?_⟩
    have hT2 : h''.get? s.heap.objs.size = some { cls := .type "tuple", data := .seq #[.str ⟨#[c]⟩ t1, u] } := (sb.2 _ (Nat.ne_of_gt hzl)).trans hT
    have new : ObjOk X.prog X.w (upd H s.heap.objs.size (.tup [.str ⟨#[c]⟩, ys[i]])) h'' s.heap.objs.size (.tup [.str ⟨#[c]⟩, ys[i]]) :=
      ⟨by show 2 ≤ sizeLine; decide, [.str ⟨#[c]⟩ t1, u], .cons ⟨t1, rfl⟩ (.cons ru .nil), ⟨_, hT2, rfl, _, rfl⟩⟩
    have I1 : Inv X pins σ (upd H s.heap.objs.size (.tup [.str ⟨#[c]⟩, ys[i]])) { s with heap := h'', toks := tk } :=
      I.turnedNew (t' := tk) (ch := [z, TI, TO, i1, i2]) (fun c o hb q => (sb.2 c (fun q' => hb (by simp [q']))).trans (hk c o (fun q' => hb (by simp [q'])) (fun q' => hb (by simp [q'])) (fun q' => hb (by simp [q'])) (fun q' => hb (by simp [q'])) q)) hf (Nat.le_refl _) new
    refine ⟨.ref s.heap.objs.size, _, I1, rfl, ⟨_, c, ys[i], rfl, I.hok.fresh (Nat.le_refl _), ec, rfl, fun l hl => by rw [I.tuple_inj hl hqy]; exact hy⟩, ⟨z'', ?_, ⟨.str ⟨#[c]⟩ t1, u, ?_⟩, ?_, ?_⟩, fun c hcm => ?_⟩
    · exact (sb.2 _ D.TIz).trans (hk _ _ D.TIz D.TITO D.TIi1 D.TIi2 hTI)
    · exact (sb.2 _ D.TOz).trans TO'
    · obtain ⟨o1, e1, r1⟩ := h1'
      exact ⟨o1, (sb.2 _ D.i1z).trans e1, r1⟩
    · exact h2'.1.at fun o q => (sb.2 _ D.i2z).trans q
    · have hlt : c < s.heap.objs.size := by
        have e' : c = z ∨ c = TI ∨ c = TO ∨ c = i1 ∨ c = i2 := by simpa using hcm
        rcases e' with q | q | q | q | q
        · rw [q]; exact hzl
        · rw [q]; exact Heap.lt_size hTI
        · rw [q]; exact Heap.lt_size hTO
        · rw [q]; obtain ⟨_, e1, _⟩ := h1; exact Heap.lt_size e1
        · rw [q]; obtain ⟨_, e2, _⟩ := h2; exact Heap.lt_size e2
      rw [upd_ne (Nat.ne_of_lt hlt)]
      exact (hf c hcm).1
  done := by
    intro X hP hw hK hc i pins s σ H E I hf st hg
    subst hP hw hK
    obtain ⟨hz, hTI, ⟨x0, y0, hTO⟩, h1, h2⟩ := st
    obtain ⟨ys, hqy, hly, hlx, hend⟩ := hg
    obtain ⟨its2, rv2, p2, _⟩ := I.tuple hqy
    have hl2 := rv2.length
    have hh : X.A.in1.handled = none := I.ok.hd hc
    refine wpAny_pyNext_zipD2_end (a1 := x0) (a2 := y0) (St1 := fun i h => h.IsStrIter i1 "str_ascii_iterator" x t i) (St2 := fun i h => h.IsTupleIter i2 b i ∧ h.IsTuple b its2.toArray)
      ⟨D.TIz, D.TOz, D.TITO, D.TIi1, by simp, by simp [D.i1z.symm], by simp [D.TOi1], D.TIi2, by simp, by simp [D.i2z.symm, D.l2z.symm], by simp [D.TOi2, D.l2TO.symm], by simp [D.i12, D.l2i1.symm], by simp [D.i12.symm]⟩
      (Draws.strAscii hh i1 x t) (drawsTuple hh i2 b D.l2i2 its2.toArray) hz hTI hTO h1 ⟨h2, p2⟩ hlx (by simp; omega) (by simp; omega) fun h' tk hk => ?_
    exact ⟨rfl, I.turnedL (t' := tk) (ch := [z, TI, TO, i1, i2]) (fun c o hb q =>
      hk c o (fun q' => hb (by simp [q'])) (fun q' => hb (by simp [q'])) (fun q' => hb (by simp [q'])) (fun q' => hb (by simp [q'])) q) hf⟩
  self := fun A i s Q E st h => wpAny_pyIter_zip st.1 h
def iZipS (K : PySem.W.Frag) (ta : TA) : TI := fun σ H R => ta σ H fun vs H1 => ∃ (x : Str) (b : Addr) (ys : List V), vs = [.str x, .ref b] ∧ x.cps.all (· < 128) = true ∧ SqT K H1 b ys ∧ R (ItzS K x b) H1
theorem pi_zipS {X : Cx} {e e2 : Expr} {ta : TA} {p pos tpos : Pos} {elts : List Expr} {kk : Nat} (hg : Gl X "zip") (hm : X.mg "zip" = none) (ha : PA X [e, e2] ta)
    (hs : starEach [e, e2] X.env = (false, eval e X.env) :: starEach [e2] X.env := by rfl) (hpl : (backTo pos (starEach [e2] X.env)).any (·.1) = false := by rfl) :
    PI X (.Tuple elts kk tpos) (.Call (.Name "zip" p) [e, e2] [] pos) (iZipS X.K ta) := by
  refine ⟨fun pins s σ H R I h => ?_⟩
  refine Call_ (ld_blt I hg hm PyProof.Rows.boot_zip (PyProof.Rows.callWith_type1 (thn (ha.run pos pins s σ H _ I h) fun us s1 ⟨vs, H1, I1, r1, q1⟩ => ?_) hs hpl))
  obtain ⟨x, b, ys, ex, hx, hqy, q⟩ := q1
  subst ex
  cases r1 with
  | cons r rr =>
    cases rr with
    | cons r' rr =>
      cases rr
      obtain ⟨t, rfl⟩ := r
      cases r'
      have fresh5 : ∀ c, c ∈ [s1.heap.objs.size + 4, s1.heap.objs.size + 2, s1.heap.objs.size + 3, s1.heap.objs.size, s1.heap.objs.size + 1] → FpOk X pins H1 c := fun c hcm => by
        have e' : c = s1.heap.objs.size + 4 ∨ c = s1.heap.objs.size + 2 ∨ c = s1.heap.objs.size + 3 ∨ c = s1.heap.objs.size ∨ c = s1.heap.objs.size + 1 := by simpa using hcm
        have hle : s1.heap.objs.size ≤ c := by
          rcases e' with z | z | z | z | z
          · rw [z]; exact Nat.le_add_right _ _
          · rw [z]; exact Nat.le_add_right _ _
          · rw [z]; exact Nat.le_add_right _ _
          · rw [z]; exact Nat.le_refl _
          · rw [z]; exact Nat.le_add_right _ _
        exact I1.fpOk hle (I1.hok.fresh hle)
      obtain ⟨its2, rv2, p2, _⟩ := I1.tuple hqy
      obtain ⟨o2, ho2, _⟩ := id p2
      refine call_zipS hx (show s1.heap.IsTuple b its2.toArray from p2) fun h' hz hTI hTO h1 h2 hsz hk => wpAny_pyIter_zip hz ?_
      have I2 : Inv X pins σ H1 { s1 with heap := h' } := I1.kept (t' := s1.toks) hk
      exact ⟨s1.heap.objs.size + 4, [s1.heap.objs.size + 4, s1.heap.objs.size + 2, s1.heap.objs.size + 3, s1.heap.objs.size, s1.heap.objs.size + 1], _, _, H1, rfl, I2, turn_zipS (PySem.W.ktu_apart s1.heap.objs.size b b (Heap.lt_size ho2) (Heap.lt_size ho2)), ⟨hz, hTI, ⟨_, _, hTO⟩, h1, h2⟩, fresh5, q⟩
end Toy


/-! list(zip(x, y)) of any two that are drawn from, of one length -/
namespace PySem
open Sem (wp)
section
variable {prog : Program} {w : World} {A : Around} {E : Value → Shared → Prop} {s : Shared}
theorem alive_rule {a : Addr} {o : Obj} {Q : Option Obj → Shared → Prop} (ho : s.heap.get? a = some o) (h : Q (some o) s) : wpAny (model prog w) A (loadIfAlive a) Q E s := fun Γ p _ => by
  show Sem.wp _ Γ (.loadIfAlive a .pure) _ _ p s
  rw [Sem.wp_loadIfAlive, ho]
  exact h
abbrev ZipAt (h : Heap) (z TI TO T : Addr) (b : Bool) : Prop := h.get? z = some { cls := .type "zip", dict := none, data := .fields #[rawInt T, .bool b, .bool false, .ref TI, .ref TO], slots := #[] }
/-- h' keeps all of h but at z, and is as large -/
def ButAt (z : Addr) (h h' : Heap) : Prop := (∀ c o, c ≠ z → h.get? c = some o → h'.get? c = some o) ∧ h'.objs.size = h.objs.size
theorem owned_lives {z TI TO T : Addr} {b : Bool} {oT : Obj} {Q : Bool → Shared → Prop} (hz : ZipAt s.heap z TI TO T b) (hT : s.heap.get? T = some oT)
    (h : ∀ h', ZipAt h' z TI TO T true → ButAt z s.heap h' → Q false { s with heap := h' }) : wpAny (model prog w) A (Builtin.SmallTypes.ownedTupleIsFree (.ref z)) Q E s := by
  unfold Builtin.SmallTypes.ownedTupleIsFree
  refine wpAny_bind (wpAny_field hz rfl (x := rawInt T) rfl ?_)
  show wpAny _ _ (loadIfAlive ((T : Int)).toNat >>= _) _ _ _
  rw [Int.toNat_natCast]
  refine wpAny_bind (alive_rule hT ?_)
  simp only [Option.isNone_some, Bool.false_eq_true, if_false]
  refine wpAny_bind ?_
  refine wpAny_field hz rfl (x := .bool b) rfl ?_
  cases b with
  | true => exact wpAny_pure (h s.heap hz ⟨fun _ _ _ e => e, rfl⟩)
  | false =>
    show wpAny _ _ (setField (.ref z) 1 (.bool true) >>= _) _ _ _
    refine wpAny_bind (wpAny_setField_rec hz (by simp) fun h' hz' hs => wpAny_pure (h h' hz' ⟨fun c o n e => hs.extBut c o n e, hs.1⟩))
end
section
variable {prog : Program} {w : World} {A : Around} {E : Value → Shared → Prop} {s : Shared} {z TI TO i1 i2 T : Addr} {fp1 fp2 : List Addr} {n i : Nat} {P1 P2 : Nat → Value → Prop} {St1 St2 : Nat → Heap → Prop} {b0 : Bool} {oT : Obj}
theorem zipD_more {Q : Value → Shared → Prop} (S : ZipSep2 z TI TO i1 i2 fp1 fp2) (D1 : Draws prog w A i1 fp1 n P1 St1) (D2 : Draws prog w A i2 fp2 n P2 St2) (hz : ZipAt s.heap z TI TO T b0) (hTz : s.heap.get? T = some oT)
    (hTI : IsPair s.heap TI (.ref i1) (.ref i2)) (st1 : St1 i s.heap) (st2 : St2 i s.heap) (hi : i < n)
    (hQ : ∀ x y h' tk, P1 i x → P2 i y → ZipAt h' z TI TO T true → St1 (i + 1) h' → St2 (i + 1) h' → IsPair h' s.heap.objs.size x y → h'.objs.size = s.heap.objs.size + 1 →
      (∀ c o, c ≠ z → c ≠ i1 → c ≠ i2 → s.heap.get? c = some o → h'.get? c = some o) → Q (.ref s.heap.objs.size) { s with heap := h', toks := tk }) :
    wpAny (model prog w) A (Builtin.«zip.__next__» ⟨[.ref z], []⟩) (fun fin s' => ∃ v, fin = .done (.ret v) ∧ Q v s') E s := by
  have i1z : i1 ≠ z := fun e => S.zf1 (e ▸ S.mem1)
  have i2z : i2 ≠ z := fun e => S.zf2 (e ▸ S.mem2)
  show wpAny _ _ (field (.ref z) 2 >>= _) _ _ _
  refine wpAny_bind (wpAny_field hz rfl (x := .bool false) rfl ?_)
  show wpAny _ _ (field (.ref z) 3 >>= _) _ _ _
  refine wpAny_bind (wpAny_field hz rfl (x := .ref TI) rfl ?_)
  refine wpAny_bind (wpAny_seqItems hTI rfl ?_)
  show wpAny _ _ (Builtin.SmallTypes.ownedTupleIsFree (.ref z) >>= _) _ _ _
  refine wpAny_bind (owned_lives hz hTz fun g1 gz1 b1 => ?_)
  simp only [Bool.false_eq_true, if_false]
  refine wpAny_bind ?_
  rw [← Array.forIn_toList]
  simp only [List.forIn_cons, List.forIn_nil]
  have up1 : ∀ c o, c ≠ z → s.heap.get? c = some o → g1.get? c = some o := b1.1
  refine wpAny_bind (wpAny_bind (wpAny_holding ?_))
  show wpAny _ _ (Builtin.SmallTypes.nextOf (.ref i1) >>= _) _ _ _
  refine wpAny_bind (D1.item i _ _ _ hi (D1.frame _ _ _ st1 fun b hb o e => up1 b o (fun q => S.zf1 (q ▸ hb)) e) fun x g2 tk2 px j1 b2 => wpAny_pure ?_)
  replace b2 : Heap.SameBut i1 g1 g2 := b2
  refine wpAny_pure ?_
  refine wpAny_bind (wpAny_bind (wpAny_holding ?_))
  show wpAny _ _ (Builtin.SmallTypes.nextOf (.ref i2) >>= _) _ _ ⟨g2, s.gens, s.drawn, tk2, s.os⟩
  refine wpAny_bind (D2.item i ⟨g2, s.gens, s.drawn, tk2, s.os⟩ _ _ hi (D2.frame _ _ _ (D2.frame _ _ _ st2 fun b hb o e => up1 b o (fun q => S.zf2 (q ▸ hb)) e) fun b hb o e => b2.extBut _ _ (fun q => S.sep1_2 (q ▸ hb)) e) fun y g3 tk3 py j2 b3 => wpAny_pure ?_)
  replace b3 : Heap.SameBut i2 g2 g3 := b3
  refine wpAny_pure (wpAny_pure ?_)
  refine wpAny_bind (wpAny_newTuple ?_ (by show 2 ≤ sizeLine; decide))
  have size : g3.objs.size = s.heap.objs.size := by rw [b3.1, b2.1]; exact b1.2
  have up3 : ∀ c o, c ≠ z → c ≠ i1 → c ≠ i2 → s.heap.get? c = some o → g3.get? c = some o := fun c o c1 c2 c3 e => b3.extBut _ _ c3 (b2.extBut _ _ c2 (up1 _ _ c1 e))
  have gz3 : ZipAt g3 z TI TO T true := b3.extBut _ _ i2z.symm (b2.extBut _ _ i1z.symm gz1)
  have j13 : St1 (i + 1) g3 := D1.frame _ _ _ j1 fun b hb o e => b3.extBut _ _ (fun q => S.sep2_1 (q ▸ hb)) e
  refine wpAny_pure ⟨_, rfl, ?_⟩
  show Q (.ref g3.objs.size) { s with heap := g3.push { cls := .type "tuple", data := .seq #[x, y] }, toks := tk3 }
  have push : ∀ c o, g3.get? c = some o → (g3.push { cls := .type "tuple", data := .seq #[x, y] }).get? c = some o := fun c o e => Heap.get?_push_of_some _ e
  have new : IsPair (g3.push { cls := .type "tuple", data := .seq #[x, y] }) g3.objs.size x y := Heap.get?_push_size _ rfl
  have big : (g3.push { cls := .type "tuple", data := .seq #[x, y] }).objs.size = s.heap.objs.size + 1 := by rw [Heap.size_push, size]
  rw [size] at new ⊢
  exact hQ x y _ tk3 px py (push _ _ gz3) (D1.frame _ _ _ j13 fun b _ o e => push _ o e) (D2.frame _ _ _ j2 fun b _ o e => push _ o e) new big fun c o c1 c2 c3 e => push _ _ (up3 c o c1 c2 c3 e)
theorem zipD_more_end {Q : Fin → Shared → Prop} (S : ZipSep2 z TI TO i1 i2 fp1 fp2) (D1 : Draws prog w A i1 fp1 n P1 St1) (hz : ZipAt s.heap z TI TO T b0) (hTz : s.heap.get? T = some oT)
    (hTI : IsPair s.heap TI (.ref i1) (.ref i2)) (st1 : St1 n s.heap)
    (hE : ∀ h' e, (∀ c o, c ≠ z → c ≠ i1 → c ≠ i2 → s.heap.get? c = some o → h'.get? c = some o) → (∃ o, h'.get? e = some o ∧ o.cls = .type "StopIteration") → E (.ref e) { s with heap := h' }) :
    wpAny (model prog w) A (Builtin.«zip.__next__» ⟨[.ref z], []⟩) Q E s := by
  show wpAny _ _ (field (.ref z) 2 >>= _) _ _ _
  refine wpAny_bind (wpAny_field hz rfl (x := .bool false) rfl ?_)
  show wpAny _ _ (field (.ref z) 3 >>= _) _ _ _
  refine wpAny_bind (wpAny_field hz rfl (x := .ref TI) rfl ?_)
  refine wpAny_bind (wpAny_seqItems hTI rfl ?_)
  show wpAny _ _ (Builtin.SmallTypes.ownedTupleIsFree (.ref z) >>= _) _ _ _
  refine wpAny_bind (owned_lives hz hTz fun g1 gz1 b1 => ?_)
  simp only [Bool.false_eq_true, if_false]
  refine wpAny_bind ?_
  rw [← Array.forIn_toList]
  simp only [List.forIn_cons, List.forIn_nil]
  have up1 : ∀ c o, c ≠ z → s.heap.get? c = some o → g1.get? c = some o := b1.1
  refine wpAny_bind (wpAny_bind (wpAny_holding ?_))
  show wpAny _ _ (Builtin.SmallTypes.nextOf (.ref i1) >>= _) _ _ _
  exact wpAny_bind (D1.done _ _ _ (D1.frame _ _ _ st1 fun b hb o e => up1 b o (fun q => S.zf1 (q ▸ hb)) e) fun g2 e b2 he => hE g2 e (fun c o c1 c2 c3 q => b2 _ _ c2 (up1 _ _ c1 q)) he)
theorem pyNextD_more {Q : Option Value → Shared → Prop} (S : ZipSep2 z TI TO i1 i2 fp1 fp2) (D1 : Draws prog w A.in1 i1 fp1 n P1 St1) (D2 : Draws prog w A.in1 i2 fp2 n P2 St2) (hz : ZipAt s.heap z TI TO T b0) (hTz : s.heap.get? T = some oT)
    (hTI : IsPair s.heap TI (.ref i1) (.ref i2)) (st1 : St1 i s.heap) (st2 : St2 i s.heap) (hi : i < n)
    (hQ : ∀ x y h' tk, P1 i x → P2 i y → ZipAt h' z TI TO T true → St1 (i + 1) h' → St2 (i + 1) h' → IsPair h' s.heap.objs.size x y → h'.objs.size = s.heap.objs.size + 1 →
      (∀ c o, c ≠ z → c ≠ i1 → c ≠ i2 → s.heap.get? c = some o → h'.get? c = some o) → Q (some (.ref s.heap.objs.size)) { s with heap := h', toks := tk }) :
    wpAny (model prog w) A (pyNext (.ref z)) Q E s := by
  have ty : s.TypeIs (.ref z) "zip" := ⟨_, hz, rfl⟩
  unfold pyNext
  refine wpAny_bind (wpAny_attempt (wpAny_callSpecial?_slot (name := Str.ofString "__next__") ty F.slot_zip_next (wpAny_call_entry F.slot_zip_next ty F.entry_zip_next ?_ (F.args_zip_next_1 _))))
  exact zipD_more S D1 D2 hz hTz hTI st1 st2 hi fun x y h' tk p1 p2 a1 a2 a3 a4 a5 a6 => wpAny_pure (hQ x y h' tk p1 p2 a1 a2 a3 a4 a5 a6)
theorem pyNextD_more_end {Q : Option Value → Shared → Prop} (S : ZipSep2 z TI TO i1 i2 fp1 fp2) (D1 : Draws prog w A.in1 i1 fp1 n P1 St1) (hz : ZipAt s.heap z TI TO T b0) (hTz : s.heap.get? T = some oT)
    (hTI : IsPair s.heap TI (.ref i1) (.ref i2)) (st1 : St1 n s.heap)
    (hQ : ∀ h', (∀ c o, c ≠ z → c ≠ i1 → c ≠ i2 → s.heap.get? c = some o → h'.get? c = some o) → Q none { s with heap := h' }) : wpAny (model prog w) A (pyNext (.ref z)) Q E s := by
  have ty : s.TypeIs (.ref z) "zip" := ⟨_, hz, rfl⟩
  unfold pyNext
  refine wpAny_bind (wpAny_attempt (wpAny_callSpecial?_slot (name := Str.ofString "__next__") ty F.slot_zip_next (wpAny_call_entry F.slot_zip_next ty F.entry_zip_next ?_ (F.args_zip_next_1 _))))
  refine zipD_more_end S D1 hz hTz hTI st1 fun h' e kp he => ?_
  obtain ⟨o, ho, hc⟩ := he
  exact wpAny_bind (wpAny_isInstance (T := "StopIteration") (b := true) ⟨o, ho, hc⟩ isSubtype_stop (wpAny_pure (hQ _ kp)))
end
/-- the tuples that came so far: all new behind n0, one behind the other -/
def Got (h : Heap) (n0 : Nat) (bad : List Addr) (P1 P2 : Nat → Value → Prop) (acc : Array Value) (i : Nat) : Prop := acc.size = i ∧ (∀ (j : Nat) (v : Value), acc[j]? = some v → ∃ (T : Addr) (x y : Value), v = .ref T ∧ n0 ≤ T ∧ T ∉ bad ∧ P1 j x ∧ P2 j y ∧ IsPair h T x y) ∧
  ∀ (j k : Nat) (T U : Addr), j < k → acc[j]? = some (.ref T) → acc[k]? = some (.ref U) → T < U
theorem Got.keep {h h' : Heap} {n0 : Nat} {bad : List Addr} {P1 P2 : Nat → Value → Prop} {acc : Array Value} {i : Nat} (g : Got h n0 bad P1 P2 acc i) (k : ∀ c o, c ∉ bad → h.get? c = some o → h'.get? c = some o) : Got h' n0 bad P1 P2 acc i := ⟨g.1, fun j v e => by
  obtain ⟨T, x, y, h1, h0, h2, h3, h4, h5⟩ := g.2.1 j v e
  exact ⟨T, x, y, h1, h0, h2, h3, h4, k _ _ h2 h5⟩, g.2.2⟩
theorem Got.push {h : Heap} {n0 : Nat} {bad : List Addr} {P1 P2 : Nat → Value → Prop} {acc : Array Value} {i : Nat} {T : Addr} {x y : Value} (g : Got h n0 bad P1 P2 acc i) (n : T ∉ bad) (h0 : n0 ≤ T) (hx : P1 i x) (hy : P2 i y) (hT : IsPair h T x y) (hl : ∀ (j : Nat) (U : Addr), acc[j]? = some (.ref U) → U < T) : Got h n0 bad P1 P2 (acc.push (.ref T)) (i + 1) := by
  refine ⟨by rw [Array.size_push, g.1], fun j v e => ?_, fun j k A B hjk e1 e2 => ?_⟩
  · rw [Array.getElem?_push] at e
    split at e
    · rename_i q
      rw [g.1] at q
      cases e
      subst q
      exact ⟨T, x, y, rfl, h0, n, hx, hy, hT⟩
    · exact g.2.1 j v e
  · have hk : k < (acc.push (.ref T)).size := (Array.getElem?_eq_some_iff.mp e2).1
    rw [Array.size_push] at hk
    have e1' : acc[j]? = some (.ref A) := by
      rw [Array.getElem?_push, if_neg (by omega)] at e1
      exact e1
    rw [Array.getElem?_push] at e2
    split at e2
    · cases e2
      exact hl j A e1'
    · exact g.2.2 j k A B hjk e1' e2
theorem Got.low {h : Heap} {n0 : Nat} {bad : List Addr} {P1 P2 : Nat → Value → Prop} {acc : Array Value} {i : Nat} (g : Got h n0 bad P1 P2 acc i) (j : Nat) (U : Addr) (e : acc[j]? = some (.ref U)) : U < h.objs.size := by
  obtain ⟨T, x, y, h1, _, _, _, _, h5⟩ := g.2.1 j _ e
  cases h1
  exact Heap.lt_size h5
/-- the zip as it stands ahead of a pull -/
def ZipGo (h : Heap) (z TI TO i1 i2 : Addr) : Prop := IsZip h z TI TO .none ∨ ∃ T b oT, ZipAt h z TI TO T b ∧ h.get? T = some oT ∧ T ≠ z ∧ T ≠ TO ∧ T ≠ i1 ∧ T ≠ i2
structure ZSt (h : Heap) (z TI TO i1 i2 : Addr) (St1 St2 : Nat → Heap → Prop) (i : Nat) : Prop where
  go : ZipGo h z TI TO i1 i2
  ti : IsPair h TI (.ref i1) (.ref i2)
  to : ∃ a b, IsPair h TO a b
  j1 : St1 i h
  j2 : St2 i h
section
variable {prog : Program} {w : World} {A : Around} {E : Value → Shared → Prop} {s : Shared} {z TI TO i1 i2 : Addr} {fp1 fp2 : List Addr} {n i : Nat} {P1 P2 : Nat → Value → Prop} {St1 St2 : Nat → Heap → Prop}
theorem zD_lts {B : Around} (D1 : Draws prog w B i1 fp1 n P1 St1) (D2 : Draws prog w B i2 fp2 n P2 St2) (st : ZSt s.heap z TI TO i1 i2 St1 St2 i) : z < s.heap.objs.size ∧ TO < s.heap.objs.size ∧ i1 < s.heap.objs.size ∧ i2 < s.heap.objs.size := by
  obtain ⟨go, _, ⟨a, b, to⟩, j1, j2⟩ := st
  obtain ⟨o1, e1⟩ := D1.live _ _ j1
  obtain ⟨o2, e2⟩ := D2.live _ _ j2
  refine ⟨?_, Heap.lt_size to, Heap.lt_size e1, Heap.lt_size e2⟩
  rcases go with q | ⟨T, b, oT, q, _⟩
  · exact Heap.lt_size q
  · exact Heap.lt_size q
theorem zD_pull {Q : Option Value → Shared → Prop} (S : ZipSep2 z TI TO i1 i2 fp1 fp2) (D1 : Draws prog w A.in1 i1 fp1 n P1 St1) (D2 : Draws prog w A.in1 i2 fp2 n P2 St2) (st : ZSt s.heap z TI TO i1 i2 St1 St2 i) (hi : i < n)
    (hQ : ∀ x y h' tk, P1 i x → P2 i y → ZSt h' z TI TO i1 i2 St1 St2 (i + 1) → IsPair h' s.heap.objs.size x y → h'.objs.size = s.heap.objs.size + 1 → (∀ c o, c ≠ z → c ≠ TO → c ≠ i1 → c ≠ i2 → s.heap.get? c = some o → h'.get? c = some o) → Q (some (.ref s.heap.objs.size)) { s with heap := h', toks := tk }) :
    wpAny (model prog w) A (pyNext (.ref z)) Q E s := by
  obtain ⟨lz, lTO, li1, li2⟩ := zD_lts D1 D2 st
  obtain ⟨go, ti, ⟨a, b, to⟩, j1, j2⟩ := st
  have TOi1 : TO ≠ i1 := fun e => S.Tf1 (e ▸ S.mem1)
  have TOi2 : TO ≠ i2 := fun e => S.Tf2 (e ▸ S.mem2)
  rcases go with q | ⟨T, b0, oT, q, hT, n1, n2, n3, n4⟩
  · refine wpAny_pyNext_zipD2_item S D1 D2 q ti to j1 j2 hi hi fun x y h' tk p1 p2 a1 a2 a3 a4 a5 a6 kp => ?_
    exact hQ x y h' tk p1 p2 ⟨.inr ⟨s.heap.objs.size, false, _, a1, a5, Nat.ne_of_gt lz, Nat.ne_of_gt lTO, Nat.ne_of_gt li1, Nat.ne_of_gt li2⟩, kp _ _ S.TIz S.TITO S.TIi1 S.TIi2 ti, ⟨_, _, a2⟩, a3, a4⟩ a5 a6 kp
  · refine pyNextD_more S D1 D2 q hT ti j1 j2 hi fun x y h' tk p1 p2 a1 a2 a3 a4 a5 kp => ?_
    exact hQ x y h' tk p1 p2 ⟨.inr ⟨T, true, oT, a1, kp _ _ n1 n3 n4 hT, n1, n2, n3, n4⟩, kp _ _ S.TIz S.TIi1 S.TIi2 ti, ⟨a, b, kp _ _ S.TOz TOi1 TOi2 to⟩, a2, a3⟩ a4 a5 fun c o c1 _ c3 c4 e => kp c o c1 c3 c4 e
theorem zD_stop {Q : Option Value → Shared → Prop} (S : ZipSep2 z TI TO i1 i2 fp1 fp2) (D1 : Draws prog w A.in1 i1 fp1 n P1 St1) (D2 : Draws prog w A.in1 i2 fp2 n P2 St2) (st : ZSt s.heap z TI TO i1 i2 St1 St2 n)
    (hQ : ∀ h' tk, (∀ c o, c ≠ z → c ≠ TO → c ≠ i1 → c ≠ i2 → s.heap.get? c = some o → h'.get? c = some o) → Q none { s with heap := h', toks := tk }) : wpAny (model prog w) A (pyNext (.ref z)) Q E s := by
  obtain ⟨go, ti, ⟨a, b, to⟩, j1, j2⟩ := st
  rcases go with q | ⟨T, b0, oT, q, hT, n1, n2, n3, n4⟩
  · exact wpAny_pyNext_zipD2_end S D1 D2 q ti to j1 j2 (Nat.le_refl _) (Nat.le_refl _) (.inl rfl) hQ
  · exact pyNextD_more_end S D1 q hT ti j1 fun h' kp => hQ h' s.toks fun c o c1 _ c3 c4 e => kp c o c1 c3 c4 e
theorem ZSt.keep {B : Around} {h h' : Heap} {L : Addr} (S : ZipSep2 z TI TO i1 i2 fp1 fp2) (D1 : Draws prog w B i1 fp1 n P1 St1) (D2 : Draws prog w B i2 fp2 n P2 St2) (st : ZSt h z TI TO i1 i2 St1 St2 i) (nS : L ∉ [z, TI, TO] ∧ L ∉ fp1 ∧ L ∉ fp2) (k : ∀ c o, c ≠ L → h.get? c = some o → h'.get? c = some o) (hS : ∃ o, h'.get? L = some o) : ZSt h' z TI TO i1 i2 St1 St2 i := by
  obtain ⟨m0, f1, f2⟩ := nS
  simp only [List.mem_cons, List.not_mem_nil, or_false, not_or] at m0
  obtain ⟨m1, m2, m3⟩ := m0
  obtain ⟨go, ti, ⟨a, b, to⟩, j1, j2⟩ := st
  refine ⟨?_, k _ _ (Ne.symm m2) ti, ⟨a, b, k _ _ (Ne.symm m3) to⟩, D1.frame _ _ _ j1 fun b hb o e => k b o (fun q => f1 (q ▸ hb)) e, D2.frame _ _ _ j2 fun b hb o e => k b o (fun q => f2 (q ▸ hb)) e⟩
  rcases go with q | ⟨T, b0, oT, q, hT, n⟩
  · exact .inl (k _ _ (Ne.symm m1) q)
  · by_cases e : T = L
    · obtain ⟨o, ho⟩ := hS
      exact .inr ⟨T, b0, o, k _ _ (Ne.symm m1) q, e ▸ ho, n⟩
    · exact .inr ⟨T, b0, oT, k _ _ (Ne.symm m1) q, k _ _ e hT, n⟩
theorem zD_loop {R : Result → Shared → Prop} (S : ZipSep2 z TI TO i1 i2 fp1 fp2) (D1 : Draws prog w A.in1.in1 i1 fp1 n P1 St1) (D2 : Draws prog w A.in1.in1 i2 fp2 n P2 St2) (hn : n ≤ sizeLine) (L : Addr) (nS : L ∉ [z, TI, TO] ∧ L ∉ fp1 ∧ L ∉ fp2) (res : Value) (n0 : Nat) :
    ∀ (k i : Nat) (s : Shared) (acc : Array Value) (c : Nat), n - i = k → i ≤ n → ZSt s.heap z TI TO i1 i2 St1 St2 i → s.heap.get? L = some { cls := .type "list", dict := none, data := .seq acc c, slots := #[] } → n0 ≤ s.heap.objs.size → Got s.heap n0 [z, TO, i1, i2, L] P1 P2 acc i →
    (∀ h' tk acc' c', (∀ c o, c ∉ [z, TO, i1, i2, L] → s.heap.get? c = some o → h'.get? c = some o) → h'.get? L = some { cls := .type "list", dict := none, data := .seq acc' c', slots := #[] } → Got h' n0 [z, TO, i1, i2, L] P1 P2 acc' n → R (.ok (.ret res)) { s with heap := h', toks := tk }) →
    codeAny (model prog w) A (.builtin "list.extend.loop" ⟨[.ref L, .ref z, res], []⟩) R s := by
  have nS' := nS
  obtain ⟨m0, f1, f2⟩ := nS'
  simp only [List.mem_cons, List.not_mem_nil, or_false, not_or] at m0
  obtain ⟨m1, m2, m3⟩ := m0
  have m4 : L ≠ i1 := fun e => f1 (e ▸ S.mem1)
  have m5 : L ≠ i2 := fun e => f2 (e ▸ S.mem2)
  have four : ∀ c : Addr, c ∉ [z, TO, i1, i2, L] → c ≠ z ∧ c ≠ TO ∧ c ≠ i1 ∧ c ≠ i2 ∧ c ≠ L := fun c hc => by
    simpa only [List.mem_cons, List.not_mem_nil, or_false, not_or] using hc
  intro k
  induction k with
  | zero =>
    intro i s acc c hk hi st hS hn0 got hR
    obtain rfl : i = n := by omega
    refine codeAny_builtin F.entry_extend_loop ?_
    rw [Around.under_plainId F.plain_extend_loop _]
    show wpAny _ A.in1 (pyNext (.ref z) >>= _) _ _ s
    refine wpAny_bind (zD_stop S D1 D2 st fun h' tk kp => ?_)
    have kp' : ∀ c o, c ∉ [z, TO, i1, i2, L] → s.heap.get? c = some o → h'.get? c = some o := fun c o hc e => by
      obtain ⟨c1, c2, c3, c4, _⟩ := four c hc
      exact kp c o c1 c2 c3 c4 e
    exact wpAny_pure (hR h' tk acc c kp' (kp _ _ m1 m3 m4 m5 hS) (got.keep kp'))
  | succ k ih =>
    intro i s acc c hk hi st hS hn0 got hR
    have ix : i < n := by omega
    refine codeAny_builtin F.entry_extend_loop ?_
    rw [Around.under_plainId F.plain_extend_loop _]
    show wpAny _ A.in1 (pyNext (.ref z) >>= _) _ _ s
    obtain ⟨lz, lTO, li1, li2⟩ := zD_lts D1 D2 st
    have lS := Heap.lt_size hS
    refine wpAny_bind (zD_pull S D1 D2 st ix fun x y h' tk px py st' hT size kp => ?_)
    have kp' : ∀ c o, c ∉ [z, TO, i1, i2, L] → s.heap.get? c = some o → h'.get? c = some o := fun c o hc e => by
      obtain ⟨c1, c2, c3, c4, _⟩ := four c hc
      exact kp c o c1 c2 c3 c4 e
    have hS' := kp _ _ m1 m3 m4 m5 hS
    have nT : s.heap.objs.size ∉ [z, TO, i1, i2, L] := by
      simp only [List.mem_cons, List.not_mem_nil, or_false, not_or]
      exact ⟨Nat.ne_of_gt lz, Nat.ne_of_gt lTO, Nat.ne_of_gt li1, Nat.ne_of_gt li2, Nat.ne_of_gt lS⟩
    have got' := (got.keep kp').push nT hn0 px py hT got.low
    show wpAny _ A.in1 (updateSeq L (·.push (.ref s.heap.objs.size)) >>= _) _ _ _
    refine wpAny_bind ?_
    refine wpAny_updateSeq hS' rfl (wpAny_pure ⟨plainId_quiet F.plain_extend_loop _, ?_⟩) (by rw [got.1]; omega) (by show (acc.push (.ref s.heap.objs.size)).size ≤ sizeLine + 1; rw [Array.size_push, got.1]; omega)
    have up : ∀ b o, b ≠ L → h'.get? b = some o → (h'.update L (Obj.mapSeq (·.push (.ref s.heap.objs.size)))).get? b = some o := fun b o hb e => (Heap.get?_update_other _ _ (fun h : L = b => hb h.symm)).trans e
    refine ih (i + 1) { s with heap := h'.update L (Obj.mapSeq (·.push (.ref s.heap.objs.size))), toks := tk } (acc.push (.ref s.heap.objs.size)) _ (by omega) ix (st'.keep S D1 D2 nS up ⟨_, Heap.get?_update_self _ hS' rfl⟩) (Heap.get?_update_self _ hS' rfl) (Nat.le_trans hn0 (Nat.le_of_lt (Heap.lt_size (up _ _ (Nat.ne_of_gt lS) hT)))) (got'.keep fun b o hb e => up b o (four b hb).2.2.2.2 e) fun h'' tk'' acc'' c'' kp'' hS'' got'' => ?_
    exact hR h'' tk'' acc'' c'' (fun b o hb e => kp'' b o hb (up b o (four b hb).2.2.2.2 (kp' b o hb e))) hS'' got''
theorem zip_no_len : typeLookup (.type "zip") "__len__" = pure none := by rw [typeLookup_type, builtinLookup_eq_fast]; kernel_rfl
theorem zip_no_hint : typeLookup (.type "zip") "__length_hint__" = pure none := by rw [typeLookup_type, builtinLookup_eq_fast]; kernel_rfl
theorem extendD_zip {R : Result → Shared → Prop} (S : ZipSep2 z TI TO i1 i2 fp1 fp2) (D1 : Draws prog w A.in1.in1 i1 fp1 n P1 St1) (D2 : Draws prog w A.in1.in1 i2 fp2 n P2 St2) (hn : n ≤ sizeLine) (hz0 : IsZip s.heap z TI TO .none) (st : ZSt s.heap z TI TO i1 i2 St1 St2 0) (L : Addr) (nS : L ∉ [z, TI, TO] ∧ L ∉ fp1 ∧ L ∉ fp2) (c0 : Nat)
    (hS : s.heap.get? L = some { cls := .type "list", data := .seq #[] c0 }) (n0 : Nat) (hn0 : n0 ≤ s.heap.objs.size) (res : Value)
    (hR : ∀ h' tk acc c', (∀ c o, c ∉ [z, TO, i1, i2, L] → s.heap.get? c = some o → h'.get? c = some o) → h'.get? L = some { cls := .type "list", dict := none, data := .seq acc c', slots := #[] } → Got h' n0 [z, TO, i1, i2, L] P1 P2 acc n → R (.ok (.ret res)) { s with heap := h', toks := tk }) :
    wpAny (model prog w) A.in1 (Builtin.List.listExtendWith (.ref L) (.ref z) res)
      (fun fin s' => match fin with | .done f => R (.ok f) s' | .again c' => c'.quiet = true ∧ codeAny (model prog w) A c' R s') (fun e s' => R (.error e) s') s := by
  have nz : L ≠ z := fun e => nS.1 (by rw [e]; exact List.mem_cons_self)
  have ty : s.TypeIs (.ref z) "zip" := ⟨_, hz0, rfl⟩
  unfold Builtin.List.listExtendWith
  refine wpAny_bind (wpAny_typeOf ty ?_)
  have n1 : Builtin.List.listSameRef (.ref L) (.ref z) = false := by simp [Builtin.List.listSameRef, nz]
  have n2 : (Value.type "zip" == Value.type "list") = false := by decide
  have n3 : (Value.type "zip" == Value.type "tuple") = false := by decide
  simp only [n1, n2, n3, Bool.or_false, Bool.false_eq_true, if_false]
  refine wpAny_bind (wpAny_pyIter_zip hz0 ?_)
  refine wpAny_bind (wpAny_holding ?_)
  unfold Builtin.List.listLengthHint
  refine wpAny_bind (wpAny_specialOf ty zip_no_len ?_)
  show wpAny _ A.in1 (specialOf (Value.ref z) (Str.ofString "__length_hint__") >>= _) _ _ _
  refine wpAny_bind (wpAny_specialOf ty zip_no_hint ?_)
  refine wpAny_pure ?_
  show wpAny _ A.in1 (rule "list.extend.makes-room" >>= fun _ => Builtin.List.listTouch (.ref L) >>= fun _ =>
    again (.builtin "list.extend.loop" ⟨[.ref L, .ref z, res], []⟩)) _ _ _
  refine wpAny_bind (wpAny_rule ?_)
  refine wpAny_bind ?_
  show wpAny _ A.in1 (updateSeq L (·.push .none) >>= fun _ => updateSeq L (·.pop)) _ _ _
  refine wpAny_bind (wpAny_updateSeq hS rfl ?_)
  have at2 := Heap.get?_update_self (Obj.mapSeq (·.push Value.none)) hS rfl
  refine wpAny_updateSeq at2 rfl ?_
  have at3 := Heap.get?_update_self (Obj.mapSeq (·.pop)) at2 rfl
  have oth : ∀ b o, b ≠ L → s.heap.get? b = some o → ((s.heap.update L (Obj.mapSeq (·.push Value.none))).update L (Obj.mapSeq (·.pop))).get? b = some o :=
    fun b o hb e => (Heap.get?_update_other _ _ (Ne.symm hb)).trans ((Heap.get?_update_other _ _ (Ne.symm hb)).trans e)
  have big : s.heap.objs.size ≤ ((s.heap.update L (Obj.mapSeq (·.push Value.none))).update L (Obj.mapSeq (·.pop))).objs.size := by
    simp [Heap.size_update]
  refine wpAny_pure ⟨plainId_quiet F.plain_extend_loop _, zD_loop (i := 0) (s := { s with heap := ((s.heap.update L (Obj.mapSeq (·.push Value.none))).update L (Obj.mapSeq (·.pop))) })
    S D1 D2 hn L nS res n0 n #[] _ rfl (Nat.zero_le _) (st.keep S D1 D2 nS oth ⟨_, at3⟩) at3 (Nat.le_trans hn0 big) ⟨rfl, (fun j v e => by simp at e), fun j k T U _ e => by simp at e⟩ fun h' tk acc' c' kp hS got => ?_⟩
  exact hR h' tk acc' c' (fun c o hc e => kp c o hc (oth c o (fun q => hc (by simp [q])) e)) hS got
theorem listD_init_zip {R : Result → Shared → Prop} (S : ZipSep2 z TI TO i1 i2 fp1 fp2) (D1 : Draws prog w A.in1.in1 i1 fp1 n P1 St1) (D2 : Draws prog w A.in1.in1 i2 fp2 n P2 St2) (hn : n ≤ sizeLine) (hz0 : IsZip s.heap z TI TO .none) (st : ZSt s.heap z TI TO i1 i2 St1 St2 0) (L : Addr) (nS : L ∉ [z, TI, TO] ∧ L ∉ fp1 ∧ L ∉ fp2)
    (hS : s.heap.get? L = some { cls := .type "list", data := .seq #[] }) (n0 : Nat) (hn0 : n0 ≤ s.heap.objs.size)
    (hR : ∀ h' tk acc c', (∀ c o, c ∉ [z, TO, i1, i2, L] → s.heap.get? c = some o → h'.get? c = some o) → h'.get? L = some { cls := .type "list", dict := none, data := .seq acc c', slots := #[] } → Got h' n0 [z, TO, i1, i2, L] P1 P2 acc n → R (.ok (.ret .none)) { s with heap := h', toks := tk }) :
    wpAny (model prog w) A.in1 (Builtin.«list.__init__» ⟨[.ref L, .ref z], []⟩)
      (fun fin s' => match fin with | .done f => R (.ok f) s' | .again c' => c'.quiet = true ∧ codeAny (model prog w) A c' R s') (fun e s' => R (.error e) s') s := by
  have nz : L ≠ z := fun e => nS.1 (by rw [e]; exact List.mem_cons_self)
  show wpAny _ _ (do let old ← Builtin.List.listItems (.ref L); Builtin.List.listUpdate (.ref L) (fun _ => #[]); letGo old.toList.reverse; Builtin.List.listExtendWith (.ref L) (.ref z) .none) _ _ s
  refine wpAny_bind ?_
  unfold Builtin.List.listItems
  refine wpAny_bind (wpAny_seqItems hS rfl (wpAny_pure ?_))
  show wpAny _ _ (updateSeq L (fun _ => #[]) >>= fun _ => letGo (#[] : Array Value).toList.reverse >>= fun _ => Builtin.List.listExtendWith (.ref L) (.ref z) .none) _ _ s
  refine wpAny_bind (wpAny_updateSeq hS rfl ?_)
  have hS₂ := Heap.get?_update_self (Obj.mapSeq (fun _ => (#[] : Array Value))) hS rfl
  have oth : ∀ b o, b ≠ L → s.heap.get? b = some o → (s.heap.update L (Obj.mapSeq (fun _ => (#[] : Array Value)))).get? b = some o :=
    fun b o hb e => (Heap.get?_update_other _ _ (Ne.symm hb)).trans e
  refine wpAny_bind (wpAny_letGo ?_)
  have big : s.heap.objs.size ≤ (s.heap.update L (Obj.mapSeq (fun _ => (#[] : Array Value)))).objs.size := by
    simp [Heap.size_update]
  refine extendD_zip (s := { s with heap := s.heap.update L (Obj.mapSeq (fun _ => (#[] : Array Value))) }) S D1 D2 hn (oth z _ nz.symm hz0) (st.keep S D1 D2 nS oth ⟨_, hS₂⟩) L nS _ hS₂ n0 (Nat.le_trans hn0 big) .none fun h' tk acc c' kp hS' got => ?_
  exact hR h' tk acc c' (fun c o hc e => kp c o hc (oth c o (fun q => hc (by simp [q])) e)) hS' got
theorem callD_list_zip {Q : Value → Shared → Prop} (S : ZipSep2 z TI TO i1 i2 fp1 fp2) (D1 : Draws prog w A.in1.in1.in1 i1 fp1 n P1 St1) (D2 : Draws prog w A.in1.in1.in1 i2 fp2 n P2 St2) (hn : n ≤ sizeLine) (hz0 : IsZip s.heap z TI TO .none) (st : ZSt s.heap z TI TO i1 i2 St1 St2 0)
    (far : ∀ b ∈ fp1 ++ fp2, b < s.heap.objs.size)
    (hQ : ∀ h' tk acc c', (∀ c o, c ≠ z → c ≠ TO → c ≠ i1 → c ≠ i2 → s.heap.get? c = some o → h'.get? c = some o) → h'.get? s.heap.objs.size = some { cls := .type "list", dict := none, data := .seq acc c', slots := #[] } → Got h' s.heap.objs.size [z, TO, i1, i2, s.heap.objs.size] P1 P2 acc n → Q (.ref s.heap.objs.size) { s with heap := h', toks := tk }) :
    wpAny (model prog w) A (call (.type "list") [.ref z]) Q E s := by
  have old : ∀ c o, s.heap.get? c = some o → c ≠ s.heap.objs.size := fun c o e => Nat.ne_of_lt (Heap.lt_size e)
  have nS : s.heap.objs.size ∉ [z, TI, TO] ∧ s.heap.objs.size ∉ fp1 ∧ s.heap.objs.size ∉ fp2 := by
    obtain ⟨lz, lTO, li1, li2⟩ := zD_lts D1 D2 st
    obtain ⟨_, ti, _⟩ := st
    refine ⟨?_, fun h => Nat.lt_irrefl _ (far _ (List.mem_append_left _ h)), fun h => Nat.lt_irrefl _ (far _ (List.mem_append_right _ h))⟩
    simp only [List.mem_cons, List.not_mem_nil, or_false, not_or]
    exact ⟨Nat.ne_of_gt lz, (old _ _ ti).symm, Nat.ne_of_gt lTO⟩
  refine callType_codes (Q₁ := fun obj s₁ => obj = .ref s.heap.objs.size ∧ s₁ = { s with heap := s.heap.push { cls := .type "list", data := .seq #[] } }) F.called_list (F.typeCall_list_1 _) F.entry_list_init
    (code_list_new _ ⟨rfl, rfl⟩) fun obj s₁ h₁ => ?_
  obtain ⟨rfl, rfl⟩ := h₁
  have hS : (s.heap.push { cls := .type "list", data := .seq #[] }).get? s.heap.objs.size = some { cls := .type "list", data := .seq #[] } := Heap.get?_push_size _ rfl
  have up : ∀ c o, s.heap.get? c = some o → (s.heap.push { cls := .type "list", data := .seq #[] }).get? c = some o := fun c o e => Heap.get?_push_of_some _ e
  refine ⟨⟨_, hS, rfl⟩, F.args_list_init_2 _ _, listD_init_zip (A := A.in1) (s := { s with heap := s.heap.push { cls := .type "list", data := .seq #[] } }) S D1 D2 hn (up _ _ hz0) (st.keep S D1 D2 nS (fun c o _ e => up c o e) ⟨_, hS⟩) s.heap.objs.size nS hS s.heap.objs.size (Nat.le_of_lt (Heap.lt_size hS)) fun h' tk acc c' kp hS' got => ?_⟩
  refine ⟨rfl, hQ h' tk acc c' (fun c o c1 c2 c3 c4 e => kp c o ?_ (up c o e)) hS' got⟩
  simp only [List.mem_cons, List.not_mem_nil, or_false, not_or]
  exact ⟨c1, c2, c3, c4, old c o e⟩
end
end PySem


namespace L2
open PySem PySem.Spec PyProof.Rows
/-! tuple(zip(xs, ys)), list(zip(xs, ys)), in the hand layer: the pairs are new, and tracked -/
def layT : List (Addr × (V × V)) → Hp → Hp
  | [], H => H
  | p :: r, H => layT r (upd H p.1 (.tup [p.2.1, p.2.2]))
theorem layT_out : ∀ (l : List (Addr × (V × V))) (H : Hp) (c : Addr), c ∉ l.map (·.1) → layT l H c = H c
  | [], _, _, _ => rfl
  | p :: r, H, c, h => by
    simp only [List.map_cons, List.mem_cons, not_or] at h
    show layT r (upd H p.1 (.tup [p.2.1, p.2.2])) c = H c
    rw [layT_out r _ c h.2, upd_ne h.1]
theorem layT_in : ∀ (l : List (Addr × (V × V))) (H : Hp), (l.map (·.1)).Nodup → ∀ p ∈ l, layT l H p.1 = some (.tup [p.2.1, p.2.2])
  | [], _, _, _, h => nomatch h
  | q :: r, H, nd, p, h => by
    rw [List.map_cons, List.nodup_cons] at nd
    show layT r (upd H q.1 (.tup [q.2.1, q.2.2])) p.1 = _
    rcases List.mem_cons.mp h with e | e
    · rw [e, layT_out r _ _ nd.1, upd_same]
    · exact layT_in r _ nd.2 p e
/-- the pairs of xs and ys stand in H2 at ts, all new -/
def ZipNew (H1 H2 : Hp) (xs ys : List V) (ts : List Addr) : Prop := Same H1 H2 ∧ Paired (fun (T : Addr) (p : V × V) => H1 T = none ∧ H2 T = some (.tup [p.1, p.2])) ts (xs.zip ys)
/-- the signs of a text -/
def signs (x : Str) : List V := x.cps.toList.map fun c => V.str ⟨#[c]⟩
def rZipS (K : PySem.W.Frag) (vs : List V) (H1 : Hp) (Q : VK) : Prop := ∃ (x : Str) (b : Addr) (ys : List V), vs = [.str x, .ref b] ∧ x.cps.all (· < 128) = true ∧ SqT K H1 b ys ∧ x.cps.size = ys.length ∧ ys.length ≤ 1000 ∧
  ∀ H2 ts t, ZipNew H1 H2 (signs x) ys ts → H1 t = none → H2 t = some (.lst (ts.map V.ref)) → Q (.ref t) H2
def tLstZipS (K : PySem.W.Frag) (ta : TA) : TE := fun σ H Q => ta σ H fun vs H1 => rZipS K vs H1 Q
theorem refsZ : ∀ (l : List Value), (∀ v ∈ l, ∃ T : Addr, v = .ref T) → ∃ ts : List Addr, l = ts.map Value.ref
  | [], _ => ⟨[], rfl⟩
  | v :: l, h => by
    obtain ⟨T, rfl⟩ := h v List.mem_cons_self
    obtain ⟨ts, e⟩ := refsZ l fun u hu => h u (List.mem_cons_of_mem _ hu)
    exact ⟨T :: ts, by rw [e]; rfl⟩
theorem valsZ : ∀ ts : List Addr, Vals (ts.map V.ref) (ts.map Value.ref)
  | [] => .nil
  | t :: ts => .cons rfl (valsZ ts)
theorem zipped_map {ts : List Addr} {ps : List (V × V)} (h : ts.length = ps.length) : (ts.zip ps).map (·.1) = ts := List.map_fst_zip (Nat.le_of_eq h)
section
variable {X : Cx} {pins : List (Addr × Obj)} {σ : St} {H1 : Hp} {s1 : Shared}
/-- behind a zip that was told whole: the pairs are tracked -/
theorem track_zip (I1 : Inv X pins σ H1 s1) {xs ys : List V} {P1 P2 : Nat → Value → Prop} (rv : ∀ j v, P1 j v → ∃ x, xs[j]? = some x ∧ RelV x v) (rv2 : ∀ j v, P2 j v → ∃ x, ys[j]? = some x ∧ RelV x v) (hl : xs.length = ys.length) (hn : xs.length ≤ 1000) {h3 : Heap} {tk n0 : Nat} {bad : List Addr} {acc : Array Value} {t : Addr} {u : List Addr → HO}
    (n1 : s1.heap.objs.size ≤ n0) (got : Got h3 n0 bad P1 P2 acc xs.length) (k : ∀ b o, s1.heap.get? b = some o → h3.get? b = some o) (ht : s1.heap.objs.size ≤ t) (htb : ∀ (j : Nat) (T : Addr), acc[j]? = some (.ref T) → T ≠ t)
    (hu : ∀ (ts : List Addr) (H2 : Hp), acc.toList = ts.map Value.ref → ts.length = xs.length → ObjOk X.prog X.w H2 h3 t (u ts)) :
    ∃ (ts : List Addr) (H2 : Hp), Inv X pins σ H2 { s1 with heap := h3, toks := tk } ∧ ZipNew H1 H2 xs ys ts ∧ H1 t = none ∧ H2 t = some (u ts) := by
  obtain ⟨g1, g2, g3⟩ := got
  have at_ : ∀ (j : Nat) (v : Value), acc.toList[j]? = some v → acc[j]? = some v := fun j v e => by rw [← Array.getElem?_toList]; exact e
  obtain ⟨ts, ets⟩ := refsZ acc.toList fun v hv => by
    obtain ⟨j, hj⟩ := List.mem_iff_getElem?.mp hv
    obtain ⟨T, _, _, e, _⟩ := g2 j v (at_ j v hj)
    exact ⟨T, e⟩
  have lts : ts.length = xs.length := by
    have z : acc.toList.length = ts.length := by rw [ets, List.length_map]
    rw [← z, Array.length_toList, g1]
  have lz : (xs.zip ys).length = xs.length := by rw [List.length_zip]; omega
  have acc_at : ∀ (j : Nat) (T : Addr), ts[j]? = some T → acc[j]? = some (.ref T) := fun j T e => at_ j _ (by rw [ets, List.getElem?_map, e]; rfl)
  have nd : ts.Nodup := by
    rw [List.Nodup, List.pairwise_iff_getElem]
    intro i j hi hj hij
    exact Nat.ne_of_lt (g3 i j _ _ hij (acc_at i _ (List.getElem?_eq_getElem hi)) (acc_at j _ (List.getElem?_eq_getElem hj)))
  have emap : (ts.zip (xs.zip ys)).map (·.1) = ts := zipped_map (by rw [lz, lts])
  have big : ∀ T ∈ ts, s1.heap.objs.size ≤ T ∧ T ≠ t := fun T hT => by
    obtain ⟨j, hj⟩ := List.mem_iff_getElem?.mp hT
    obtain ⟨T', _, _, e, h0, _⟩ := g2 j _ (acc_at j T hj)
    cases e
    exact ⟨Nat.le_trans n1 h0, htb j T (acc_at j T hj)⟩
  have out1 : ∀ c, c ∉ ts → layT (ts.zip (xs.zip ys)) H1 c = H1 c := fun c hc => layT_out _ _ c (by rw [emap]; exact hc)
  have in1 : ∀ p ∈ ts.zip (xs.zip ys), layT (ts.zip (xs.zip ys)) H1 p.1 = some (.tup [p.2.1, p.2.2]) := layT_in _ _ (by rw [emap]; exact nd)
  have old : ∀ c, c < s1.heap.objs.size → c ∉ ts ∧ c ≠ t := fun c hc => ⟨fun hm => Nat.lt_irrefl _ (Nat.lt_of_lt_of_le hc (big c hm).1), fun e => Nat.lt_irrefl _ (Nat.lt_of_lt_of_le hc (e ▸ ht))⟩
  have keep1 : ∀ c, c < s1.heap.objs.size → upd (layT (ts.zip (xs.zip ys)) H1) t (u ts) c = H1 c := fun c hc => by
    rw [upd_ne (old c hc).2, out1 c (old c hc).1]
  have tracked : ∀ c o, H1 c = some o → c < s1.heap.objs.size := fun c o e => I1.hok.lt e
  have same : ∀ c o, H1 c = some o → upd (layT (ts.zip (xs.zip ys)) H1) t (u ts) c = some o := fun c o e => (keep1 c (tracked c o e)).trans e
  refine ⟨ts, upd (layT (ts.zip (xs.zip ys)) H1) t (u ts), ?_, ⟨same, ?_⟩, I1.hok.fresh ht, upd_same⟩
  · refine I1.un (t' := tk) ⟨fun b o q _ _ _ => k b o q, fun b o q _ _ _ => ⟨o.slots, k b o q⟩, fun b o q n _ => (keep1 b (Heap.lt_size q)).trans n, fun b o q _ => ⟨o, k b o q⟩, fun b xs q => same b _ q, fun b o u q => same b _ q, fun b ps q => ⟨#[], by rw [same b _ q]; simp⟩⟩ fun c o e => ?_
    by_cases hc : c = t
    · subst hc
      rw [upd_same] at e
      cases e
      exact hu ts _ ets lts
    · rw [upd_ne hc] at e
      by_cases hm : c ∈ ts
      · obtain ⟨j, hj⟩ := List.mem_iff_getElem?.mp hm
        have hjl : j < ts.length := (List.getElem?_eq_some_iff.mp hj).1
        obtain ⟨T', x, y, e1, _, _, hx, hy, hp⟩ := g2 j _ (acc_at j c hj)
        cases e1
        have mx : xs[j]? = some xs[j] := List.getElem?_eq_getElem (by omega)
        have my : ys[j]? = some ys[j] := List.getElem?_eq_getElem (by omega)
        have mz : (c, (xs[j], ys[j])) ∈ ts.zip (xs.zip ys) := by
          refine List.mem_iff_getElem?.mpr ⟨j, ?_⟩
          rw [List.getElem?_zip_eq_some, List.getElem?_zip_eq_some]
          exact ⟨hj, mx, my⟩
        rw [in1 _ mz] at e
        cases e
        obtain ⟨u1, hu1, ru1⟩ := rv j x hx
        obtain ⟨u2, hu2, ru2⟩ := rv2 j y hy
        have ex : u1 = xs[j] := Option.some.inj (hu1.symm.trans mx)
        have ey : u2 = ys[j] := Option.some.inj (hu2.symm.trans my)
        exact ⟨by show 2 ≤ sizeLine; decide, [x, y], .cons (ex ▸ ru1) (.cons (ey ▸ ru2) .nil), ⟨_, hp, rfl, _, rfl⟩⟩
      · rw [out1 c hm] at e
        exact (I1.hok c o e).stay (fun b v _ q => k b v q) (fun b q => same b _ q) fun b xs q => same b _ q
  · have pw : ∀ (l : List Addr) (ps : List (V × V)), l.length = ps.length → (∀ p ∈ l.zip ps, H1 p.1 = none ∧ upd (layT (ts.zip (xs.zip ys)) H1) t (u ts) p.1 = some (.tup [p.2.1, p.2.2])) →
        Paired (fun (T : Addr) (p : V × V) => H1 T = none ∧ upd (layT (ts.zip (xs.zip ys)) H1) t (u ts) T = some (.tup [p.1, p.2])) l ps := by
      intro l
      induction l with
      | nil => intro ps hl _; cases ps with
        | nil => exact .nil
        | cons p ps => simp at hl
      | cons T l ih => intro ps hl h; cases ps with
        | nil => simp at hl
        | cons p ps => exact .cons (h (T, p) (by simp)) (ih ps (by simpa using hl) fun q hq => h q (by simp [hq]))
    refine pw ts (xs.zip ys) (by rw [lz, lts]) fun p hp => ?_
    have hT : p.1 ∈ ts := by
      have := List.mem_map_of_mem (f := fun x : Addr × (V × V) => x.1) hp
      rw [emap] at this
      exact this
    refine ⟨I1.hok.fresh (big _ hT).1, ?_⟩
    rw [upd_ne (big _ hT).2]
    exact in1 p hp
variable {e e2 : Expr} {ta : TA} {p p2 q pos : Pos}
theorem pe_lstZipS (hc : X.calm = true) (hg : Gl X "list") (hm : X.mg "list" = none) (hg2 : Gl X "zip") (hm2 : X.mg "zip" = none) (ha : PA X [e, e2] ta)
    (hs : starEach [e, e2] X.env = (false, eval e X.env) :: starEach [e2] X.env := by rfl) (hpl : (backTo q (starEach [e2] X.env)).any (·.1) = false := by rfl)
    (na : starEach [.Call (.Name "zip" p2) [e, e2] [] q] X.env = (false, eval (.Call (.Name "zip" p2) [e, e2] [] q) X.env) :: starEach [] X.env := by rfl) :
    PE X (.Call (.Name "list" p) [.Call (.Name "zip" p2) [e, e2] [] q] [] pos) (tLstZipS X.K ta) := by
  refine ⟨fun pins s σ H Q I h => ?_⟩
  refine Call_ (ld_blt I hg hm boot_list (PyProof.Rows.callWith_type1 (PyProof.Rows.args_cons ?_ na) na rfl))
  refine Call_ (ld_blt I hg2 hm2 PyProof.Rows.boot_zip (PyProof.Rows.callWith_type1 (thn (ha.run q pins s σ H _ I h) fun us s1 ⟨vs, H1, I1, r1, q1⟩ => ?_) hs hpl))
  obtain ⟨x, b, ys, ex, hax, hqy, hl, hn, fin⟩ := q1
  subst ex
  cases r1 with
  | cons r rr =>
    cases rr with
    | cons r' rr =>
      cases rr
      obtain ⟨t, rfl⟩ := r
      cases r'
      obtain ⟨its2, rv2, p2, _⟩ := I1.tuple hqy
      have ly := rv2.length
      have p2lt := p2.lt
      refine Toy.call_zipS hax p2 fun h' hz hTI hTO h1 h2 hsz hk => PyProof.Rows.args_nil ?_
      have D := PySem.W.ktu_apart s1.heap.objs.size b b p2lt p2lt
      have SS : ZipSep2 (s1.heap.objs.size + 4) (s1.heap.objs.size + 2) (s1.heap.objs.size + 3) s1.heap.objs.size (s1.heap.objs.size + 1) [s1.heap.objs.size] [s1.heap.objs.size + 1, b] :=
        ⟨D.TIz, D.TOz, D.TITO, D.TIi1, by simp, by simp [D.i1z.symm], by simp [D.TOi1], D.TIi2, by simp, by simp [D.i2z.symm, D.l2z.symm], by simp [D.TOi2, D.l2TO.symm], by simp [D.i12, D.l2i1.symm], by simp [D.i12.symm]⟩
      have hh : X.A.in1.in1.in1.handled = none := I1.ok.hd hc
      have D2 := Toy.drawsTuple (prog := X.prog) (w := X.w) hh (s1.heap.objs.size + 1) b D.l2i2 its2.toArray
      have e2 : its2.toArray.size = x.cps.size := by simp; omega
      rw [e2] at D2
      have st : ZSt h' (s1.heap.objs.size + 4) (s1.heap.objs.size + 2) (s1.heap.objs.size + 3) s1.heap.objs.size (s1.heap.objs.size + 1) (fun i h => h.IsStrIter s1.heap.objs.size "str_ascii_iterator" x t i) (fun i h => h.IsTupleIter (s1.heap.objs.size + 1) b i ∧ h.IsTuple b its2.toArray) 0 :=
        ⟨.inl hz, hTI, ⟨_, _, hTO⟩, h1, h2, by
          obtain ⟨o, e, r⟩ := p2
          exact ⟨o, hk _ o e, r⟩⟩
      refine callD_list_zip (s := { s1 with heap := h' }) SS (Draws.strAscii hh s1.heap.objs.size x t) D2 (Nat.le_of_lt (small1000 (by omega))) hz st (fun c hc' => ?_) fun h3 tk acc c' kp hS got => ?_
      · simp only [List.cons_append, List.nil_append, List.mem_cons, List.not_mem_nil, or_false] at hc'
        have hsz' : ({ s1 with heap := h' } : Shared).heap.objs.size = s1.heap.objs.size + 5 := hsz
        rw [hsz']
        have := p2lt
        rcases hc' with rfl | rfl | rfl
        · exact Nat.lt_add_of_pos_right (by decide)
        · exact Nat.add_lt_add_left (by decide) _
        · exact Nat.lt_of_lt_of_le p2lt (Nat.le_add_right _ _)
      have lsx : (signs x).length = x.cps.size := by unfold signs; simp
      have far : ∀ b o, s1.heap.get? b = some o → h3.get? b = some o := fun b o e => by
        have lt := Heap.lt_size e
        exact kp b o (Nat.ne_of_lt (Nat.lt_of_lt_of_le lt (Nat.le_add_right _ _))) (Nat.ne_of_lt (Nat.lt_of_lt_of_le lt (Nat.le_add_right _ _))) (Nat.ne_of_lt lt) (Nat.ne_of_lt (Nat.lt_of_lt_of_le lt (Nat.le_add_right _ _))) (hk b o e)
      have big5 : s1.heap.objs.size ≤ h'.objs.size := by
        have : h'.objs.size = s1.heap.objs.size + 5 := hsz
        rw [this]
        exact Nat.le_add_right _ _
      obtain ⟨ts, H2, I2, zn, t0, t2⟩ := track_zip (P1 := fun i v => ∃ c u, x.cps[i]? = some c ∧ v = Value.str ⟨#[c]⟩ u) (P2 := fun i v => its2.toArray[i]? = some v) (u := fun ts => .lst (ts.map V.ref)) (t := h'.objs.size) (tk := tk) (xs := signs x) (ys := ys) I1 (fun j v ⟨c, u, hc1, hv⟩ => ⟨.str ⟨#[c]⟩, by unfold signs; rw [List.getElem?_map, Array.getElem?_toList, hc1]; rfl, by rw [hv]; exact ⟨u, rfl⟩⟩)
        (fun j v hv => by
          have hv' : its2[j]? = some v := by simpa using hv
          have hj : j < ys.length := by
            have := (List.getElem?_eq_some_iff.mp hv').1
            omega
          obtain ⟨u, hu, ru⟩ := rv2.get (List.getElem?_eq_getElem hj)
          rw [hv'] at hu
          cases hu
          exact ⟨_, List.getElem?_eq_getElem hj, ru⟩) (by omega) (by omega) big5 (by rw [lsx]; exact got) far big5 (fun j T e z => by
          obtain ⟨T', _, _, e1, _, nb, _⟩ := got.2.1 j _ e
          cases e1
          exact nb (by simp [z]))
        (fun ts H2 ets lts => ⟨by rw [List.length_map, lts]; exact Nat.le_of_lt (small1000 (by omega)), ts.map Value.ref, c', valsZ ts, by rw [← ets]; simpa using hS⟩)
      exact ⟨.ref h'.objs.size, H2, I2, rfl, fin H2 ts _ zn t0 t2⟩
end
end L2


namespace Toy
open PySem PySem.Spec PyProof.Rows L2 RZ
/-! zip of a tuple and a list, and of a list and a tuple -/
section
variable {prog : Program} {w : World} {A : Around} {E : Value → Shared → Prop} {s : Shared}
abbrev zipTL1 (h : Heap) (l1 : Addr) : Heap := h.push { cls := .type "tuple_iterator", data := .fields #[.ref l1, .int 0 0] }
abbrev zipTL2 (h : Heap) (l1 l2 : Addr) : Heap := (zipTL1 h l1).push { cls := .type "list_iterator", data := .fields #[.ref l2, .int 0 0] }
abbrev zipTL3 (h : Heap) (l1 l2 : Addr) : Heap := (zipTL2 h l1 l2).push { cls := .type "tuple", data := .seq #[.ref h.objs.size, .ref (zipTL1 h l1).objs.size] }
abbrev zipTL4 (h : Heap) (l1 l2 : Addr) : Heap := (zipTL3 h l1 l2).push { cls := .type "tuple", data := .seq #[.none, .none] }
abbrev zipTL5 (h : Heap) (l1 l2 : Addr) : Heap := (zipTL4 h l1 l2).push { cls := .type "zip", data := .fields #[.none, .bool false, .bool false, .ref (zipTL2 h l1 l2).objs.size, .ref (zipTL3 h l1 l2).objs.size] }
theorem meets_zipTL (l1 l2 : Addr) (xs ys : Array Value) :
    Meets (Builtin.«zip.__new__» ⟨[.type "zip", .ref l1, .ref l2], []⟩) (fun _ R s => s.heap.IsTuple l1 xs ∧ s.heap.IsList l2 ys ∧
      R (.ok (.ret (.ref (zipTL4 s.heap l1 l2).objs.size))) { s with heap := zipTL5 s.heap l1 l2 }) :=
  .of_wp fun prog w A R s h => by
    obtain ⟨hp, g, d, tk, os⟩ := s; obtain ⟨hl1, hl2, h⟩ := h
    have hsub := sub_zip
    have hL2 : Heap.IsList (Shared.heap ⟨hp.push { cls := .type "tuple_iterator", data := .fields #[.ref l1, .int 0 0] }, g, d, tk, os⟩) l2 ys := Heap.IsList.push hl2 _
    wp_walk using wpAny_pyIter_tuple hl1, wpAny_pyIter_list hL2
    exact ⟨_, rfl, h⟩
theorem call_zipTL {l1 l2 : Addr} {xs ys : Array Value} {Q : Value → Shared → Prop} (hl1 : s.heap.IsTuple l1 xs) (hl2 : s.heap.IsList l2 ys)
    (h : ∀ h', IsZip h' (s.heap.objs.size + 4) (s.heap.objs.size + 2) (s.heap.objs.size + 3) .none → IsPair h' (s.heap.objs.size + 2) (.ref s.heap.objs.size) (.ref (s.heap.objs.size + 1)) →
      IsPair h' (s.heap.objs.size + 3) .none .none → h'.IsTupleIter s.heap.objs.size l1 0 → h'.IsListIter (s.heap.objs.size + 1) l2 0 → h'.objs.size = s.heap.objs.size + 5 →
      (∀ c o, s.heap.get? c = some o → h'.get? c = some o) → Q (.ref (s.heap.objs.size + 4)) { s with heap := h' }) :
    wpAny (model prog w) A (call (.type "zip") [.ref l1, .ref l2]) Q E s := by
  refine callType_new F.called_zip (by decide) (F.typeCall_zip_2 _ _) (F.newCall_zip_2 _ _) (fun obj => F.args_object_init_3 obj _ _) F.entry_zip_new
    (meets_zipTL l1 l2 xs ys) ⟨hl1, hl2, ?_⟩
  have z1 : (zipTL1 s.heap l1).objs.size = s.heap.objs.size + 1 := Heap.size_push ..
  have z2 : (zipTL2 s.heap l1 l2).objs.size = s.heap.objs.size + 2 := by rw [Heap.size_push, z1]
  have z3 : (zipTL3 s.heap l1 l2).objs.size = s.heap.objs.size + 3 := by rw [Heap.size_push, z2]
  have z4 : (zipTL4 s.heap l1 l2).objs.size = s.heap.objs.size + 4 := by rw [Heap.size_push, z3]
  have z5 : (zipTL5 s.heap l1 l2).objs.size = s.heap.objs.size + 5 := by rw [Heap.size_push, z4]
  have g5 : (zipTL5 s.heap l1 l2).get? (zipTL4 s.heap l1 l2).objs.size = some _ := Heap.get?_push_size _ rfl
  have g4 : (zipTL5 s.heap l1 l2).get? (zipTL3 s.heap l1 l2).objs.size = some _ := Heap.get?_push_of_some _ (Heap.get?_push_size _ rfl)
  have g3 : (zipTL5 s.heap l1 l2).get? (zipTL2 s.heap l1 l2).objs.size = some _ := Heap.get?_push_of_some _ (Heap.get?_push_of_some _ (Heap.get?_push_size _ rfl))
  have g2 : (zipTL5 s.heap l1 l2).get? (zipTL1 s.heap l1).objs.size = some _ := Heap.get?_push_of_some _ (Heap.get?_push_of_some _ (Heap.get?_push_of_some _ (Heap.get?_push_size _ rfl)))
  have g1 : (zipTL5 s.heap l1 l2).get? s.heap.objs.size = some _ := Heap.get?_push_of_some _ (Heap.get?_push_of_some _ (Heap.get?_push_of_some _ (Heap.get?_push_of_some _ (Heap.get?_push_size _ rfl))))
  show _ ∧ _
  rw [z2, z3, z4] at g5
  rw [z1, z2] at g3
  rw [z3] at g4
  rw [z1] at g2
  rw [z4]
  exact ⟨⟨_, g5, rfl⟩, h _ g5 g3 g4 ⟨_, g1, rfl, rfl⟩ ⟨_, g2, rfl, rfl⟩ z5 fun c o x =>
    Heap.get?_push_of_some _ (Heap.get?_push_of_some _ (Heap.get?_push_of_some _ (Heap.get?_push_of_some _ (Heap.get?_push_of_some _ x))))⟩
abbrev zipLT1 (h : Heap) (l1 : Addr) : Heap := h.push { cls := .type "list_iterator", data := .fields #[.ref l1, .int 0 0] }
abbrev zipLT2 (h : Heap) (l1 l2 : Addr) : Heap := (zipLT1 h l1).push { cls := .type "tuple_iterator", data := .fields #[.ref l2, .int 0 0] }
abbrev zipLT3 (h : Heap) (l1 l2 : Addr) : Heap := (zipLT2 h l1 l2).push { cls := .type "tuple", data := .seq #[.ref h.objs.size, .ref (zipLT1 h l1).objs.size] }
abbrev zipLT4 (h : Heap) (l1 l2 : Addr) : Heap := (zipLT3 h l1 l2).push { cls := .type "tuple", data := .seq #[.none, .none] }
abbrev zipLT5 (h : Heap) (l1 l2 : Addr) : Heap := (zipLT4 h l1 l2).push { cls := .type "zip", data := .fields #[.none, .bool false, .bool false, .ref (zipLT2 h l1 l2).objs.size, .ref (zipLT3 h l1 l2).objs.size] }
theorem meets_zipLT (l1 l2 : Addr) (xs ys : Array Value) :
    Meets (Builtin.«zip.__new__» ⟨[.type "zip", .ref l1, .ref l2], []⟩) (fun _ R s => s.heap.IsList l1 xs ∧ s.heap.IsTuple l2 ys ∧
      R (.ok (.ret (.ref (zipLT4 s.heap l1 l2).objs.size))) { s with heap := zipLT5 s.heap l1 l2 }) :=
  .of_wp fun prog w A R s h => by
    obtain ⟨hp, g, d, tk, os⟩ := s; obtain ⟨hl1, hl2, h⟩ := h
    have hsub := sub_zip
    have hL2 : Heap.IsTuple (Shared.heap ⟨hp.push { cls := .type "list_iterator", data := .fields #[.ref l1, .int 0 0] }, g, d, tk, os⟩) l2 ys := Heap.IsTuple.push hl2 _
    wp_walk using wpAny_pyIter_list hl1, wpAny_pyIter_tuple hL2
    exact ⟨_, rfl, h⟩
theorem call_zipLT {l1 l2 : Addr} {xs ys : Array Value} {Q : Value → Shared → Prop} (hl1 : s.heap.IsList l1 xs) (hl2 : s.heap.IsTuple l2 ys)
    (h : ∀ h', IsZip h' (s.heap.objs.size + 4) (s.heap.objs.size + 2) (s.heap.objs.size + 3) .none → IsPair h' (s.heap.objs.size + 2) (.ref s.heap.objs.size) (.ref (s.heap.objs.size + 1)) →
      IsPair h' (s.heap.objs.size + 3) .none .none → h'.IsListIter s.heap.objs.size l1 0 → h'.IsTupleIter (s.heap.objs.size + 1) l2 0 → h'.objs.size = s.heap.objs.size + 5 →
      (∀ c o, s.heap.get? c = some o → h'.get? c = some o) → Q (.ref (s.heap.objs.size + 4)) { s with heap := h' }) :
    wpAny (model prog w) A (call (.type "zip") [.ref l1, .ref l2]) Q E s := by
  refine callType_new F.called_zip (by decide) (F.typeCall_zip_2 _ _) (F.newCall_zip_2 _ _) (fun obj => F.args_object_init_3 obj _ _) F.entry_zip_new
    (meets_zipLT l1 l2 xs ys) ⟨hl1, hl2, ?_⟩
  have z1 : (zipLT1 s.heap l1).objs.size = s.heap.objs.size + 1 := Heap.size_push ..
  have z2 : (zipLT2 s.heap l1 l2).objs.size = s.heap.objs.size + 2 := by rw [Heap.size_push, z1]
  have z3 : (zipLT3 s.heap l1 l2).objs.size = s.heap.objs.size + 3 := by rw [Heap.size_push, z2]
  have z4 : (zipLT4 s.heap l1 l2).objs.size = s.heap.objs.size + 4 := by rw [Heap.size_push, z3]
  have z5 : (zipLT5 s.heap l1 l2).objs.size = s.heap.objs.size + 5 := by rw [Heap.size_push, z4]
  have g5 : (zipLT5 s.heap l1 l2).get? (zipLT4 s.heap l1 l2).objs.size = some _ := Heap.get?_push_size _ rfl
  have g4 : (zipLT5 s.heap l1 l2).get? (zipLT3 s.heap l1 l2).objs.size = some _ := Heap.get?_push_of_some _ (Heap.get?_push_size _ rfl)
  have g3 : (zipLT5 s.heap l1 l2).get? (zipLT2 s.heap l1 l2).objs.size = some _ := Heap.get?_push_of_some _ (Heap.get?_push_of_some _ (Heap.get?_push_size _ rfl))
  have g2 : (zipLT5 s.heap l1 l2).get? (zipLT1 s.heap l1).objs.size = some _ := Heap.get?_push_of_some _ (Heap.get?_push_of_some _ (Heap.get?_push_of_some _ (Heap.get?_push_size _ rfl)))
  have g1 : (zipLT5 s.heap l1 l2).get? s.heap.objs.size = some _ := Heap.get?_push_of_some _ (Heap.get?_push_of_some _ (Heap.get?_push_of_some _ (Heap.get?_push_of_some _ (Heap.get?_push_size _ rfl))))
  show _ ∧ _
  rw [z2, z3, z4] at g5
  rw [z1, z2] at g3
  rw [z3] at g4
  rw [z1] at g2
  rw [z4]
  exact ⟨⟨_, g5, rfl⟩, h _ g5 g3 g4 ⟨_, g1, rfl, rfl⟩ ⟨_, g2, rfl, rfl⟩ z5 fun c o x =>
    Heap.get?_push_of_some _ (Heap.get?_push_of_some _ (Heap.get?_push_of_some _ (Heap.get?_push_of_some _ (Heap.get?_push_of_some _ x))))⟩
end
/-- what stands at a and at b, turn by turn, in new pairs -/
def ItzTL (K : PySem.W.Frag) (a b : Addr) : It :=
  ⟨fun i H => ∃ (xs ys : List V), SqT K H a xs ∧ SqL K H b ys ∧ i < xs.length ∧ i < ys.length,
    fun i H v H' => ∃ T x y, v = .ref T ∧ H T = none ∧ H' = upd H T (.tup [x, y]) ∧ (∀ xs, SqT K H a xs → xs[i]? = some x) ∧ ∀ ys, SqL K H b ys → ys[i]? = some y,
    fun i H => ∃ xs ys : List V, SqT K H a xs ∧ SqL K H b ys ∧ i ≤ xs.length ∧ i ≤ ys.length ∧ (i = xs.length ∨ i = ys.length)⟩
theorem turn_zipTL {P : Program} {w : World} {K : PySem.W.Frag} {elts : List Expr} {kk : Nat} {tpos : Pos} {a b z TI TO i1 i2 : Addr} (D : ZipApart z TI TO i1 i2 a b) :
    Turn P w K (.Tuple elts kk tpos) (ItzTL K a b) [z, TI, TO, i1, i2] z (fun i h => IsZip h z TI TO .none ∧ IsPair h TI (.ref i1) (.ref i2) ∧ (∃ x y, IsPair h TO x y) ∧ h.IsTupleIter i1 a i ∧ h.IsListIter i2 b i) where
  mem := by simp
  obj := fun i h st c hc => by
    obtain ⟨hz, hTI, ⟨x, y, hTO⟩, ⟨o1, e1, _, d1⟩, ⟨o2, e2, _, d2⟩⟩ := st
    have e' : c = z ∨ c = TI ∨ c = TO ∨ c = i1 ∨ c = i2 := by simpa using hc
    rcases e' with q | q | q | q | q
    · rw [q]; exact ⟨_, hz, fun v q => nomatch q⟩
    · rw [q]; exact ⟨_, hTI, fun v q => nomatch q⟩
    · rw [q]; exact ⟨_, hTO, fun v q => nomatch q⟩
    · rw [q]; exact ⟨o1, e1, fun v q => by rw [d1] at q; cases q⟩
    · rw [q]; exact ⟨o2, e2, fun v q => by rw [d2] at q; cases q⟩
  keep := fun i h h' st k => by
    obtain ⟨hz, hTI, ⟨x, y, hTO⟩, h1, h2⟩ := st
    exact ⟨k z (by simp) _ hz, k TI (by simp) _ hTI, ⟨x, y, k TO (by simp) _ hTO⟩, h1.at fun o q => k i1 (by simp) o q, h2.at fun o q => k i2 (by simp) o q⟩
  item := by
    intro X hP hw hK hc i pins s σ H E I hf st hg
    subst hP hw hK
    obtain ⟨hz, hTI, ⟨x0, y0, hTO⟩, h1, h2⟩ := st
    obtain ⟨xs, ys, hqx, hqy, hix, hiy⟩ := hg
    obtain ⟨its, rv, p1, _⟩ := I.tuple hqx
    obtain ⟨its2, rv2, p2, _⟩ := I.list hqy
    have hl1 := rv.length
    have hl2 := rv2.length
    have hzl : z < s.heap.objs.size := Heap.lt_size hz
    have hh : X.A.in1.handled = none := I.ok.hd hc
    refine wpAny_pyNext_zipD2_item (a1 := x0) (a2 := y0) (St1 := fun i h => h.IsTupleIter i1 a i ∧ h.IsTuple a its.toArray) (St2 := fun i h => h.IsListIter i2 b i ∧ h.IsList b its2.toArray)
      ⟨D.TIz, D.TOz, D.TITO, D.TIi1, by simp, by simp [D.i1z.symm, D.l1z.symm], by simp [D.TOi1, D.l1TO.symm], D.TIi2, by simp, by simp [D.i2z.symm, D.l2z.symm], by simp [D.TOi2, D.l2TO.symm], by simp [D.i12, D.l2i1.symm], by simp [D.i12.symm, D.l1i2.symm]⟩
      (drawsTuple hh i1 a D.l1i1 its.toArray) (Draws.list hh i2 b D.l2i2 its2.toArray) hz hTI hTO ⟨h1, p1⟩ ⟨h2, p2.isList⟩ (by simp; omega) (by simp; omega) fun u1 u2 h' tk P1 P2 z' TO' h1' h2' hT hsz hk => ?_
    have hx : xs[i]? = some xs[i] := List.getElem?_eq_getElem hix
    have hy : ys[i]? = some ys[i] := List.getElem?_eq_getElem hiy
    obtain ⟨v1, hv1, ru1⟩ := rv.get hx
    obtain ⟨v2, hv2, ru2⟩ := rv2.get hy
    obtain rfl : v1 = u1 := by
      have : its.toArray[i]? = some u1 := P1
      rw [show its.toArray[i]? = its[i]? by simp, hv1] at this
      exact Option.some.inj this
    obtain rfl : v2 = u2 := by
      have : its2.toArray[i]? = some u2 := P2
      rw [show its2.toArray[i]? = its2[i]? by simp, hv2] at this
      exact Option.some.inj this
    refine ⟨_, rfl, wpAny_letOwnedTupleGo_zip (s := { s with heap := h', toks := tk }) z' fun h'' z'' sb => ?_⟩
    have hT2 : h''.get? s.heap.objs.size = some { cls := .type "tuple", data := .seq #[v1, v2] } := (sb.2 _ (Nat.ne_of_gt hzl)).trans hT
    have new : ObjOk X.prog X.w (upd H s.heap.objs.size (.tup [xs[i], ys[i]])) h'' s.heap.objs.size (.tup [xs[i], ys[i]]) :=
      ⟨by show 2 ≤ sizeLine; decide, [v1, v2], .cons ru1 (.cons ru2 .nil), ⟨_, hT2, rfl, _, rfl⟩⟩
    have I1 : Inv X pins σ (upd H s.heap.objs.size (.tup [xs[i], ys[i]])) { s with heap := h'', toks := tk } :=
      I.turnedNew (t' := tk) (ch := [z, TI, TO, i1, i2]) (fun c o hb q => (sb.2 c (fun q' => hb (by simp [q']))).trans (hk c o (fun q' => hb (by simp [q'])) (fun q' => hb (by simp [q'])) (fun q' => hb (by simp [q'])) (fun q' => hb (by simp [q'])) q)) hf (Nat.le_refl _) new
    refine ⟨.ref s.heap.objs.size, _, I1, rfl, ⟨_, xs[i], ys[i], rfl, I.hok.fresh (Nat.le_refl _), rfl, fun l hl => by rw [I.tuple_inj hl hqx]; exact hx, fun l hl => by rw [I.list_inj hl hqy]; exact hy⟩, ⟨z'', ?_, ⟨v1, v2, ?_⟩, ?_, ?_⟩, fun c hcm => ?_⟩
    · exact (sb.2 _ D.TIz).trans (hk _ _ D.TIz D.TITO D.TIi1 D.TIi2 hTI)
    · exact (sb.2 _ D.TOz).trans TO'
    · exact h1'.1.at fun o q => (sb.2 _ D.i1z).trans q
    · exact h2'.1.at fun o q => (sb.2 _ D.i2z).trans q
    · have hlt : c < s.heap.objs.size := by
        have e' : c = z ∨ c = TI ∨ c = TO ∨ c = i1 ∨ c = i2 := by simpa using hcm
        rcases e' with q | q | q | q | q
        · rw [q]; exact hzl
        · rw [q]; exact Heap.lt_size hTI
        · rw [q]; exact Heap.lt_size hTO
        · rw [q]; obtain ⟨_, e1, _⟩ := h1; exact Heap.lt_size e1
        · rw [q]; obtain ⟨_, e2, _⟩ := h2; exact Heap.lt_size e2
      rw [upd_ne (Nat.ne_of_lt hlt)]
      exact (hf c hcm).1
  done := by
    intro X hP hw hK hc i pins s σ H E I hf st hg
    subst hP hw hK
    obtain ⟨hz, hTI, ⟨x0, y0, hTO⟩, h1, h2⟩ := st
    obtain ⟨xs, ys, hqx, hqy, hlx, hly, hend⟩ := hg
    obtain ⟨its, rv, p1, _⟩ := I.tuple hqx
    obtain ⟨its2, rv2, p2, _⟩ := I.list hqy
    have hl1 := rv.length
    have hl2 := rv2.length
    have hh : X.A.in1.handled = none := I.ok.hd hc
    refine wpAny_pyNext_zipD2_end (a1 := x0) (a2 := y0) (St1 := fun i h => h.IsTupleIter i1 a i ∧ h.IsTuple a its.toArray) (St2 := fun i h => h.IsListIter i2 b i ∧ h.IsList b its2.toArray)
      ⟨D.TIz, D.TOz, D.TITO, D.TIi1, by simp, by simp [D.i1z.symm, D.l1z.symm], by simp [D.TOi1, D.l1TO.symm], D.TIi2, by simp, by simp [D.i2z.symm, D.l2z.symm], by simp [D.TOi2, D.l2TO.symm], by simp [D.i12, D.l2i1.symm], by simp [D.i12.symm, D.l1i2.symm]⟩
      (drawsTuple hh i1 a D.l1i1 its.toArray) (Draws.list hh i2 b D.l2i2 its2.toArray) hz hTI hTO ⟨h1, p1⟩ ⟨h2, p2.isList⟩ (by simp; omega) (by simp; omega) (by simp; omega) fun h' tk hk => ?_
    exact ⟨rfl, I.turnedL (t' := tk) (ch := [z, TI, TO, i1, i2]) (fun c o hb q =>
      hk c o (fun q' => hb (by simp [q'])) (fun q' => hb (by simp [q'])) (fun q' => hb (by simp [q'])) (fun q' => hb (by simp [q'])) q) hf⟩
  self := fun A i s Q E st h => wpAny_pyIter_zip st.1 h
def iZipTL (K : PySem.W.Frag) (ta : TA) : TI := fun σ H R => ta σ H fun vs H1 => ∃ (a b : Addr) (xs ys : List V), vs = [.ref a, .ref b] ∧ SqT K H1 a xs ∧ SqL K H1 b ys ∧ R (ItzTL K a b) H1
theorem pi_zipTL {X : Cx} {e e2 : Expr} {ta : TA} {p pos tpos : Pos} {elts : List Expr} {kk : Nat} (hg : Gl X "zip") (hm : X.mg "zip" = none) (ha : PA X [e, e2] ta)
    (hs : starEach [e, e2] X.env = (false, eval e X.env) :: starEach [e2] X.env := by rfl) (hpl : (backTo pos (starEach [e2] X.env)).any (·.1) = false := by rfl) :
    PI X (.Tuple elts kk tpos) (.Call (.Name "zip" p) [e, e2] [] pos) (iZipTL X.K ta) := by
  refine ⟨fun pins s σ H R I h => ?_⟩
  refine Call_ (ld_blt I hg hm PyProof.Rows.boot_zip (PyProof.Rows.callWith_type1 (thn (ha.run pos pins s σ H _ I h) fun us s1 ⟨vs, H1, I1, r1, q1⟩ => ?_) hs hpl))
  obtain ⟨a, b, xs, ys, ex, hqx, hqy, q⟩ := q1
  subst ex
  cases r1 with
  | cons r rr =>
    cases rr with
    | cons r' rr =>
      cases rr
      cases r
      cases r'
      have fresh5 : ∀ c, c ∈ [s1.heap.objs.size + 4, s1.heap.objs.size + 2, s1.heap.objs.size + 3, s1.heap.objs.size, s1.heap.objs.size + 1] → FpOk X pins H1 c := fun c hcm => by
        have e' : c = s1.heap.objs.size + 4 ∨ c = s1.heap.objs.size + 2 ∨ c = s1.heap.objs.size + 3 ∨ c = s1.heap.objs.size ∨ c = s1.heap.objs.size + 1 := by simpa using hcm
        have hle : s1.heap.objs.size ≤ c := by
          rcases e' with z | z | z | z | z
          · rw [z]; exact Nat.le_add_right _ _
          · rw [z]; exact Nat.le_add_right _ _
          · rw [z]; exact Nat.le_add_right _ _
          · rw [z]; exact Nat.le_refl _
          · rw [z]; exact Nat.le_add_right _ _
        exact I1.fpOk hle (I1.hok.fresh hle)
      obtain ⟨its, rv, p1, _⟩ := I1.tuple hqx
      obtain ⟨its2, rv2, p2, _⟩ := I1.list hqy
      refine call_zipTL p1 p2.isList fun h' hz hTI hTO h1 h2 hsz hk => wpAny_pyIter_zip hz ?_
      have I2 : Inv X pins σ H1 { s1 with heap := h' } := I1.kept (t' := s1.toks) hk
      exact ⟨s1.heap.objs.size + 4, [s1.heap.objs.size + 4, s1.heap.objs.size + 2, s1.heap.objs.size + 3, s1.heap.objs.size, s1.heap.objs.size + 1], _, _, H1, rfl, I2, turn_zipTL (PySem.W.ktu_apart s1.heap.objs.size a b p1.lt p2.lt), ⟨hz, hTI, ⟨_, _, hTO⟩, h1, h2⟩, fresh5, q⟩
/-- what stands at a and at b, turn by turn, in new pairs -/
def ItzLT (K : PySem.W.Frag) (a b : Addr) : It :=
  ⟨fun i H => ∃ (xs ys : List V), SqL K H a xs ∧ SqT K H b ys ∧ i < xs.length ∧ i < ys.length,
    fun i H v H' => ∃ T x y, v = .ref T ∧ H T = none ∧ H' = upd H T (.tup [x, y]) ∧ (∀ xs, SqL K H a xs → xs[i]? = some x) ∧ ∀ ys, SqT K H b ys → ys[i]? = some y,
    fun i H => ∃ xs ys : List V, SqL K H a xs ∧ SqT K H b ys ∧ i ≤ xs.length ∧ i ≤ ys.length ∧ (i = xs.length ∨ i = ys.length)⟩
theorem turn_zipLT {P : Program} {w : World} {K : PySem.W.Frag} {elts : List Expr} {kk : Nat} {tpos : Pos} {a b z TI TO i1 i2 : Addr} (D : ZipApart z TI TO i1 i2 a b) :
    Turn P w K (.Tuple elts kk tpos) (ItzLT K a b) [z, TI, TO, i1, i2] z (fun i h => IsZip h z TI TO .none ∧ IsPair h TI (.ref i1) (.ref i2) ∧ (∃ x y, IsPair h TO x y) ∧ h.IsListIter i1 a i ∧ h.IsTupleIter i2 b i) where
  mem := by simp
  obj := fun i h st c hc => by
    obtain ⟨hz, hTI, ⟨x, y, hTO⟩, ⟨o1, e1, _, d1⟩, ⟨o2, e2, _, d2⟩⟩ := st
    have e' : c = z ∨ c = TI ∨ c = TO ∨ c = i1 ∨ c = i2 := by simpa using hc
    rcases e' with q | q | q | q | q
    · rw [q]; exact ⟨_, hz, fun v q => nomatch q⟩
    · rw [q]; exact ⟨_, hTI, fun v q => nomatch q⟩
    · rw [q]; exact ⟨_, hTO, fun v q => nomatch q⟩
    · rw [q]; exact ⟨o1, e1, fun v q => by rw [d1] at q; cases q⟩
    · rw [q]; exact ⟨o2, e2, fun v q => by rw [d2] at q; cases q⟩
  keep := fun i h h' st k => by
    obtain ⟨hz, hTI, ⟨x, y, hTO⟩, h1, h2⟩ := st
    exact ⟨k z (by simp) _ hz, k TI (by simp) _ hTI, ⟨x, y, k TO (by simp) _ hTO⟩, h1.at fun o q => k i1 (by simp) o q, h2.at fun o q => k i2 (by simp) o q⟩
  item := by
    intro X hP hw hK hc i pins s σ H E I hf st hg
    subst hP hw hK
    obtain ⟨hz, hTI, ⟨x0, y0, hTO⟩, h1, h2⟩ := st
    obtain ⟨xs, ys, hqx, hqy, hix, hiy⟩ := hg
    obtain ⟨its, rv, p1, _⟩ := I.list hqx
    obtain ⟨its2, rv2, p2, _⟩ := I.tuple hqy
    have hl1 := rv.length
    have hl2 := rv2.length
    have hzl : z < s.heap.objs.size := Heap.lt_size hz
    have hh : X.A.in1.handled = none := I.ok.hd hc
    refine wpAny_pyNext_zipD2_item (a1 := x0) (a2 := y0) (St1 := fun i h => h.IsListIter i1 a i ∧ h.IsList a its.toArray) (St2 := fun i h => h.IsTupleIter i2 b i ∧ h.IsTuple b its2.toArray)
      ⟨D.TIz, D.TOz, D.TITO, D.TIi1, by simp, by simp [D.i1z.symm, D.l1z.symm], by simp [D.TOi1, D.l1TO.symm], D.TIi2, by simp, by simp [D.i2z.symm, D.l2z.symm], by simp [D.TOi2, D.l2TO.symm], by simp [D.i12, D.l2i1.symm], by simp [D.i12.symm, D.l1i2.symm]⟩
      (Draws.list hh i1 a D.l1i1 its.toArray) (drawsTuple hh i2 b D.l2i2 its2.toArray) hz hTI hTO ⟨h1, p1.isList⟩ ⟨h2, p2⟩ (by simp; omega) (by simp; omega) fun u1 u2 h' tk P1 P2 z' TO' h1' h2' hT hsz hk => ?_
    have hx : xs[i]? = some xs[i] := List.getElem?_eq_getElem hix
    have hy : ys[i]? = some ys[i] := List.getElem?_eq_getElem hiy
    obtain ⟨v1, hv1, ru1⟩ := rv.get hx
    obtain ⟨v2, hv2, ru2⟩ := rv2.get hy
    obtain rfl : v1 = u1 := by
      have : its.toArray[i]? = some u1 := P1
      rw [show its.toArray[i]? = its[i]? by simp, hv1] at this
      exact Option.some.inj this
    obtain rfl : v2 = u2 := by
      have : its2.toArray[i]? = some u2 := P2
      rw [show its2.toArray[i]? = its2[i]? by simp, hv2] at this
      exact Option.some.inj this
    refine ⟨_, rfl, wpAny_letOwnedTupleGo_zip (s := { s with heap := h', toks := tk }) z' fun h'' z'' sb => ?_⟩
    have hT2 : h''.get? s.heap.objs.size = some { cls := .type "tuple", data := .seq #[v1, v2] } := (sb.2 _ (Nat.ne_of_gt hzl)).trans hT
    have new : ObjOk X.prog X.w (upd H s.heap.objs.size (.tup [xs[i], ys[i]])) h'' s.heap.objs.size (.tup [xs[i], ys[i]]) :=
      ⟨by show 2 ≤ sizeLine; decide, [v1, v2], .cons ru1 (.cons ru2 .nil), ⟨_, hT2, rfl, _, rfl⟩⟩
    have I1 : Inv X pins σ (upd H s.heap.objs.size (.tup [xs[i], ys[i]])) { s with heap := h'', toks := tk } :=
      I.turnedNew (t' := tk) (ch := [z, TI, TO, i1, i2]) (fun c o hb q => (sb.2 c (fun q' => hb (by simp [q']))).trans (hk c o (fun q' => hb (by simp [q'])) (fun q' => hb (by simp [q'])) (fun q' => hb (by simp [q'])) (fun q' => hb (by simp [q'])) q)) hf (Nat.le_refl _) new
    refine ⟨.ref s.heap.objs.size, _, I1, rfl, ⟨_, xs[i], ys[i], rfl, I.hok.fresh (Nat.le_refl _), rfl, fun l hl => by rw [I.list_inj hl hqx]; exact hx, fun l hl => by rw [I.tuple_inj hl hqy]; exact hy⟩, ⟨z'', ?_, ⟨v1, v2, ?_⟩, ?_, ?_⟩, fun c hcm => ?_⟩
    · exact (sb.2 _ D.TIz).trans (hk _ _ D.TIz D.TITO D.TIi1 D.TIi2 hTI)
    · exact (sb.2 _ D.TOz).trans TO'
    · exact h1'.1.at fun o q => (sb.2 _ D.i1z).trans q
    · exact h2'.1.at fun o q => (sb.2 _ D.i2z).trans q
    · have hlt : c < s.heap.objs.size := by
        have e' : c = z ∨ c = TI ∨ c = TO ∨ c = i1 ∨ c = i2 := by simpa using hcm
        rcases e' with q | q | q | q | q
        · rw [q]; exact hzl
        · rw [q]; exact Heap.lt_size hTI
        · rw [q]; exact Heap.lt_size hTO
        · rw [q]; obtain ⟨_, e1, _⟩ := h1; exact Heap.lt_size e1
        · rw [q]; obtain ⟨_, e2, _⟩ := h2; exact Heap.lt_size e2
      rw [upd_ne (Nat.ne_of_lt hlt)]
      exact (hf c hcm).1
  done := by
    intro X hP hw hK hc i pins s σ H E I hf st hg
    subst hP hw hK
    obtain ⟨hz, hTI, ⟨x0, y0, hTO⟩, h1, h2⟩ := st
    obtain ⟨xs, ys, hqx, hqy, hlx, hly, hend⟩ := hg
    obtain ⟨its, rv, p1, _⟩ := I.list hqx
    obtain ⟨its2, rv2, p2, _⟩ := I.tuple hqy
    have hl1 := rv.length
    have hl2 := rv2.length
    have hh : X.A.in1.handled = none := I.ok.hd hc
    refine wpAny_pyNext_zipD2_end (a1 := x0) (a2 := y0) (St1 := fun i h => h.IsListIter i1 a i ∧ h.IsList a its.toArray) (St2 := fun i h => h.IsTupleIter i2 b i ∧ h.IsTuple b its2.toArray)
      ⟨D.TIz, D.TOz, D.TITO, D.TIi1, by simp, by simp [D.i1z.symm, D.l1z.symm], by simp [D.TOi1, D.l1TO.symm], D.TIi2, by simp, by simp [D.i2z.symm, D.l2z.symm], by simp [D.TOi2, D.l2TO.symm], by simp [D.i12, D.l2i1.symm], by simp [D.i12.symm, D.l1i2.symm]⟩
      (Draws.list hh i1 a D.l1i1 its.toArray) (drawsTuple hh i2 b D.l2i2 its2.toArray) hz hTI hTO ⟨h1, p1.isList⟩ ⟨h2, p2⟩ (by simp; omega) (by simp; omega) (by simp; omega) fun h' tk hk => ?_
    exact ⟨rfl, I.turnedL (t' := tk) (ch := [z, TI, TO, i1, i2]) (fun c o hb q =>
      hk c o (fun q' => hb (by simp [q'])) (fun q' => hb (by simp [q'])) (fun q' => hb (by simp [q'])) (fun q' => hb (by simp [q'])) q) hf⟩
  self := fun A i s Q E st h => wpAny_pyIter_zip st.1 h
def iZipLT (K : PySem.W.Frag) (ta : TA) : TI := fun σ H R => ta σ H fun vs H1 => ∃ (a b : Addr) (xs ys : List V), vs = [.ref a, .ref b] ∧ SqL K H1 a xs ∧ SqT K H1 b ys ∧ R (ItzLT K a b) H1
theorem pi_zipLT {X : Cx} {e e2 : Expr} {ta : TA} {p pos tpos : Pos} {elts : List Expr} {kk : Nat} (hg : Gl X "zip") (hm : X.mg "zip" = none) (ha : PA X [e, e2] ta)
    (hs : starEach [e, e2] X.env = (false, eval e X.env) :: starEach [e2] X.env := by rfl) (hpl : (backTo pos (starEach [e2] X.env)).any (·.1) = false := by rfl) :
    PI X (.Tuple elts kk tpos) (.Call (.Name "zip" p) [e, e2] [] pos) (iZipLT X.K ta) := by
  refine ⟨fun pins s σ H R I h => ?_⟩
  refine Call_ (ld_blt I hg hm PyProof.Rows.boot_zip (PyProof.Rows.callWith_type1 (thn (ha.run pos pins s σ H _ I h) fun us s1 ⟨vs, H1, I1, r1, q1⟩ => ?_) hs hpl))
  obtain ⟨a, b, xs, ys, ex, hqx, hqy, q⟩ := q1
  subst ex
  cases r1 with
  | cons r rr =>
    cases rr with
    | cons r' rr =>
      cases rr
      cases r
      cases r'
      have fresh5 : ∀ c, c ∈ [s1.heap.objs.size + 4, s1.heap.objs.size + 2, s1.heap.objs.size + 3, s1.heap.objs.size, s1.heap.objs.size + 1] → FpOk X pins H1 c := fun c hcm => by
        have e' : c = s1.heap.objs.size + 4 ∨ c = s1.heap.objs.size + 2 ∨ c = s1.heap.objs.size + 3 ∨ c = s1.heap.objs.size ∨ c = s1.heap.objs.size + 1 := by simpa using hcm
        have hle : s1.heap.objs.size ≤ c := by
          rcases e' with z | z | z | z | z
          · rw [z]; exact Nat.le_add_right _ _
          · rw [z]; exact Nat.le_add_right _ _
          · rw [z]; exact Nat.le_add_right _ _
          · rw [z]; exact Nat.le_refl _
          · rw [z]; exact Nat.le_add_right _ _
        exact I1.fpOk hle (I1.hok.fresh hle)
      obtain ⟨its, rv, p1, _⟩ := I1.list hqx
      obtain ⟨its2, rv2, p2, _⟩ := I1.tuple hqy
      refine call_zipLT p1.isList p2 fun h' hz hTI hTO h1 h2 hsz hk => wpAny_pyIter_zip hz ?_
      have I2 : Inv X pins σ H1 { s1 with heap := h' } := I1.kept (t' := s1.toks) hk
      exact ⟨s1.heap.objs.size + 4, [s1.heap.objs.size + 4, s1.heap.objs.size + 2, s1.heap.objs.size + 3, s1.heap.objs.size, s1.heap.objs.size + 1], _, _, H1, rfl, I2, turn_zipLT (PySem.W.ktu_apart s1.heap.objs.size a b p1.lt p2.lt), ⟨hz, hTI, ⟨_, _, hTO⟩, h1, h2⟩, fresh5, q⟩
end Toy


namespace L2
open PySem PySem.Spec PyProof.Rows RZ
section
variable {X : Cx} {e e2 : Expr} {ta : TA} {p p2 q pos : Pos}
def rZipLT (K : PySem.W.Frag) (vs : List V) (H1 : Hp) (Q : VK) : Prop := ∃ (a b : Addr) (xs ys : List V), vs = [.ref a, .ref b] ∧ SqL K H1 a xs ∧ SqT K H1 b ys ∧ xs.length = ys.length ∧ ys.length ≤ 1000 ∧
  ∀ H2 ts t, ZipNew H1 H2 xs ys ts → H1 t = none → H2 t = some (.lst (ts.map V.ref)) → Q (.ref t) H2
def tLstZipLT (K : PySem.W.Frag) (ta : TA) : TE := fun σ H Q => ta σ H fun vs H1 => rZipLT K vs H1 Q
theorem pe_lstZipLT (hc : X.calm = true) (hg : Gl X "list") (hm : X.mg "list" = none) (hg2 : Gl X "zip") (hm2 : X.mg "zip" = none) (ha : PA X [e, e2] ta)
    (hs : starEach [e, e2] X.env = (false, eval e X.env) :: starEach [e2] X.env := by rfl) (hpl : (backTo q (starEach [e2] X.env)).any (·.1) = false := by rfl)
    (na : starEach [.Call (.Name "zip" p2) [e, e2] [] q] X.env = (false, eval (.Call (.Name "zip" p2) [e, e2] [] q) X.env) :: starEach [] X.env := by rfl) :
    PE X (.Call (.Name "list" p) [.Call (.Name "zip" p2) [e, e2] [] q] [] pos) (tLstZipLT X.K ta) := by
  refine ⟨fun pins s σ H Q I h => ?_⟩
  refine Call_ (ld_blt I hg hm boot_list (PyProof.Rows.callWith_type1 (PyProof.Rows.args_cons ?_ na) na rfl))
  refine Call_ (ld_blt I hg2 hm2 PyProof.Rows.boot_zip (PyProof.Rows.callWith_type1 (thn (ha.run q pins s σ H _ I h) fun us s1 ⟨vs, H1, I1, r1, q1⟩ => ?_) hs hpl))
  obtain ⟨a, b, xs, ys, ex, hqx, hqy, hl, hn, fin⟩ := q1
  subst ex
  cases r1 with
  | cons r rr =>
    cases rr with
    | cons r' rr =>
      cases rr
      cases r
      cases r'
      obtain ⟨its, rv, p1, _⟩ := I1.list hqx
      obtain ⟨its2, rv2, p2, _⟩ := I1.tuple hqy
      have lx := rv.length
      have ly := rv2.length
      have p1lt := p1.lt
      have p2lt := p2.lt
      refine Toy.call_zipLT p1.isList p2 fun h' hz hTI hTO h1 h2 hsz hk => PyProof.Rows.args_nil ?_
      have D := PySem.W.ktu_apart s1.heap.objs.size a b p1lt p2lt
      have SS : ZipSep2 (s1.heap.objs.size + 4) (s1.heap.objs.size + 2) (s1.heap.objs.size + 3) s1.heap.objs.size (s1.heap.objs.size + 1) [s1.heap.objs.size, a] [s1.heap.objs.size + 1, b] :=
        ⟨D.TIz, D.TOz, D.TITO, D.TIi1, by simp, by simp [D.i1z.symm, D.l1z.symm], by simp [D.TOi1, D.l1TO.symm], D.TIi2, by simp, by simp [D.i2z.symm, D.l2z.symm], by simp [D.TOi2, D.l2TO.symm], by simp [D.i12, D.l2i1.symm], by simp [D.i12.symm, D.l1i2.symm]⟩
      have hh : X.A.in1.in1.in1.handled = none := I1.ok.hd hc
      have D1 := Draws.list (prog := X.prog) (w := X.w) hh s1.heap.objs.size a D.l1i1 its.toArray
      have D2 := Toy.drawsTuple (prog := X.prog) (w := X.w) hh (s1.heap.objs.size + 1) b D.l2i2 its2.toArray
      have e1 : its.toArray.size = xs.length := by simp; omega
      have e2 : its2.toArray.size = xs.length := by simp; omega
      rw [e1] at D1
      rw [e2] at D2
      have st : ZSt h' (s1.heap.objs.size + 4) (s1.heap.objs.size + 2) (s1.heap.objs.size + 3) s1.heap.objs.size (s1.heap.objs.size + 1) (fun i h => h.IsListIter s1.heap.objs.size a i ∧ h.IsList a its.toArray) (fun i h => h.IsTupleIter (s1.heap.objs.size + 1) b i ∧ h.IsTuple b its2.toArray) 0 :=
        ⟨.inl hz, hTI, ⟨_, _, hTO⟩, ⟨h1, p1.isList.at fun o e => hk _ o e⟩, h2, by
          obtain ⟨o, e, r⟩ := p2
          exact ⟨o, hk _ o e, r⟩⟩
      refine callD_list_zip (s := { s1 with heap := h' }) SS D1 D2 (Nat.le_of_lt (small1000 (by omega))) hz st (fun c hc' => ?_) fun h3 tk acc c' kp hS got => ?_
      · simp only [List.cons_append, List.nil_append, List.mem_cons, List.not_mem_nil, or_false] at hc'
        have hsz' : ({ s1 with heap := h' } : Shared).heap.objs.size = s1.heap.objs.size + 5 := hsz
        rw [hsz']
        rcases hc' with rfl | rfl | rfl | rfl
        · exact Nat.lt_add_of_pos_right (by decide)
        · exact Nat.lt_of_lt_of_le p1lt (Nat.le_add_right _ _)
        · exact Nat.add_lt_add_left (by decide) _
        · exact Nat.lt_of_lt_of_le p2lt (Nat.le_add_right _ _)
      have far : ∀ b o, s1.heap.get? b = some o → h3.get? b = some o := fun b o e => by
        have lt := Heap.lt_size e
        exact kp b o (Nat.ne_of_lt (Nat.lt_of_lt_of_le lt (Nat.le_add_right _ _))) (Nat.ne_of_lt (Nat.lt_of_lt_of_le lt (Nat.le_add_right _ _))) (Nat.ne_of_lt lt) (Nat.ne_of_lt (Nat.lt_of_lt_of_le lt (Nat.le_add_right _ _))) (hk b o e)
      have big5 : s1.heap.objs.size ≤ h'.objs.size := by
        have : h'.objs.size = s1.heap.objs.size + 5 := hsz
        rw [this]
        exact Nat.le_add_right _ _
      have rel : ∀ {zs : List V} {is : List Value}, Vals zs is → ∀ (j : Nat) (v : Value), is.toArray[j]? = some v → ∃ x, zs[j]? = some x ∧ RelV x v := fun {zs is} r j v hv => by
        have hv' : is[j]? = some v := by simpa using hv
        have hj : j < zs.length := by
          have := (List.getElem?_eq_some_iff.mp hv').1
          have := r.length
          omega
        obtain ⟨u, hu, ru⟩ := r.get (List.getElem?_eq_getElem hj)
        rw [hv'] at hu
        cases hu
        exact ⟨_, List.getElem?_eq_getElem hj, ru⟩
      obtain ⟨ts, H2, I2, zn, t0, t2⟩ := track_zip (P1 := fun i v => its.toArray[i]? = some v) (P2 := fun i v => its2.toArray[i]? = some v) (u := fun ts => .lst (ts.map V.ref)) (t := h'.objs.size) (tk := tk) (xs := xs) (ys := ys) I1 (rel rv) (rel rv2) (by omega) (by omega) big5 got far big5 (fun j T e z => by
          obtain ⟨T', _, _, e1, _, nb, _⟩ := got.2.1 j _ e
          cases e1
          exact nb (by simp [z]))
        (fun ts H2 ets lts => ⟨by rw [List.length_map, lts]; exact Nat.le_of_lt (small1000 (by omega)), ts.map Value.ref, c', valsZ ts, by rw [← ets]; simpa using hS⟩)
      exact ⟨.ref h'.objs.size, H2, I2, rfl, fin H2 ts _ zn t0 t2⟩
end
end L2


/-! list(enumerate(x)), x anything that is drawn from -/
namespace PySem
open Sem (wp)
abbrev EnumAt (h : Heap) (z it T : Addr) (c : Int) (b : Bool) (v : Value) : Prop := h.get? z = some { cls := .type "enumerate", dict := none, data := .fields #[rawInt T, .bool b, .ref it, rawInt c, .none, v], slots := #[] }
section
variable {prog : Program} {w : World} {A : Around} {E : Value → Shared → Prop} {s : Shared} {z it T : Addr} {fp : List Addr} {n i : Nat} {P : Nat → Value → Prop} {St : Nat → Heap → Prop} {c : Int} {b0 : Bool} {oT : Obj} {v0 : Value}
theorem owned_livesE {Q : Bool → Shared → Prop} (hz : EnumAt s.heap z it T c b0 v0) (hT : s.heap.get? T = some oT)
    (h : ∀ h', EnumAt h' z it T c true v0 → ButAt z s.heap h' → Q false { s with heap := h' }) : wpAny (model prog w) A (Builtin.SmallTypes.ownedTupleIsFree (.ref z)) Q E s := by
  unfold Builtin.SmallTypes.ownedTupleIsFree
  refine wpAny_bind (wpAny_field hz rfl (x := rawInt T) rfl ?_)
  show wpAny _ _ (loadIfAlive ((T : Int)).toNat >>= _) _ _ _
  rw [Int.toNat_natCast]
  refine wpAny_bind (alive_rule hT ?_)
  simp only [Option.isNone_some, Bool.false_eq_true, if_false]
  refine wpAny_bind ?_
  refine wpAny_field hz rfl (x := .bool b0) rfl ?_
  cases b0 with
  | true => exact wpAny_pure (h s.heap hz ⟨fun _ _ _ e => e, rfl⟩)
  | false =>
    show wpAny _ _ (setField (.ref z) 1 (.bool true) >>= _) _ _ _
    refine wpAny_bind (wpAny_setField_rec hz (by simp) fun h' hz' hs => wpAny_pure (h h' hz' ⟨fun c o n e => hs.extBut c o n e, hs.1⟩))
theorem enumD_more {Q : Value → Shared → Prop} (D1 : Draws prog w A it fp n P St) (hz : EnumAt s.heap z it T c b0 v0) (hTz : s.heap.get? T = some oT) (nTz : T ≠ z) (nTi : T ≠ it) (nz : z ≠ it) (zf : z ∉ fp) (st : St i s.heap) (hi : i < n)
    (hQ : ∀ x h' tk, P i x → EnumAt h' z it T (c + 1) true v0 → St (i + 1) h' → h'.get? s.heap.objs.size = some { cls := .type "tuple", data := .seq #[.int c tk, x] } → h'.objs.size = s.heap.objs.size + 1 →
      (∀ a o, a ≠ z → a ≠ it → s.heap.get? a = some o → h'.get? a = some o) → Q (.ref s.heap.objs.size) { s with heap := h', toks := tk + 1 }) :
    wpAny (model prog w) A (Builtin.«enumerate.__next__» ⟨[.ref z], []⟩) (fun fin s' => ∃ v, fin = .done (.ret v) ∧ Q v s') E s := by
  obtain ⟨hp, g, d, tk0, os⟩ := s
  show wpAny _ _ (field (.ref z) 2 >>= _) _ _ _
  refine wpAny_bind (wpAny_field hz rfl (x := .ref it) rfl ?_)
  refine wpAny_bind (D1.item i _ _ _ hi st fun x g1 tk px j1 b1 => ?_)
  replace b1 : Heap.SameBut it hp g1 := b1
  have z1 : EnumAt g1 z it T c b0 v0 := (b1.2 z nz).trans hz
  show wpAny _ _ (field (.ref z) 3 >>= _) _ _ ⟨g1, g, d, tk, os⟩
  refine wpAny_bind (wpAny_field z1 rfl (x := rawInt c) rfl ?_)
  show wpAny _ _ (field (.ref z) 4 >>= _) _ _ ⟨g1, g, d, tk, os⟩
  refine wpAny_bind (wpAny_field z1 rfl (x := .none) rfl ?_)
  show wpAny _ _ (mkInt c >>= _) _ _ ⟨g1, g, d, tk, os⟩
  refine wpAny_bind (wpAny_mkInt ?_)
  show wpAny _ _ (setField (.ref z) 3 (rawInt (c + 1)) >>= _) _ _ ⟨g1, g, d, tk + 1, os⟩
  refine wpAny_bind (wpAny_setField_rec z1 (by simp) fun g2 z2 b2 => ?_)
  replace b2 : Heap.SameBut z g1 g2 := b2
  replace z2 : EnumAt g2 z it T (c + 1) b0 v0 := z2
  show wpAny _ _ (setField (.ref z) 4 .none >>= _) _ _ ⟨g2, g, d, tk + 1, os⟩
  refine wpAny_bind (wpAny_setField_rec z2 (by simp) fun g3 z3 b3 => ?_)
  replace b3 : Heap.SameBut z g2 g3 := b3
  replace z3 : EnumAt g3 z it T (c + 1) b0 v0 := z3
  show wpAny _ _ (newTuple [.int c tk, x] >>= _) _ _ ⟨g3, g, d, tk + 1, os⟩
  refine wpAny_bind (wpAny_newTuple ?_)
  have sz3 : g3.objs.size = hp.objs.size := by rw [b3.1, b2.1, b1.1]
  have lz : z < hp.objs.size := Heap.lt_size hz
  have up3 : ∀ a o, a ≠ z → a ≠ it → hp.get? a = some o → g3.get? a = some o := fun a o n1 n2 e => b3.extBut a o n1 (b2.extBut a o n1 (b1.extBut a o n2 e))
  have push : ∀ a o, g3.get? a = some o → (g3.push { cls := .type "tuple", data := .seq #[.int c tk, x] }).get? a = some o := fun a o e => Heap.get?_push_of_some _ e
  have new : (g3.push { cls := .type "tuple", data := .seq #[.int c tk, x] }).get? g3.objs.size = some { cls := .type "tuple", data := .seq #[.int c tk, x] } := Heap.get?_push_size _ rfl
  have j3 : St (i + 1) (g3.push { cls := .type "tuple", data := .seq #[.int c tk, x] }) := D1.frame _ _ _ j1 fun a ha o e => by
    have na : a ≠ z := fun q => zf (q ▸ ha)
    exact push a o (b3.extBut a o na (b2.extBut a o na e))
  show wpAny _ _ (Builtin.SmallTypes.ownedTupleIsFree (.ref z) >>= _) _ _ ⟨g3.push { cls := .type "tuple", data := .seq #[.int c tk, x] }, g, d, tk + 1, os⟩
  refine wpAny_bind (owned_livesE (push _ _ z3) (push _ _ (up3 _ _ nTz nTi hTz)) fun g4 z4 b4 => ?_)
  simp only [Bool.false_eq_true, if_false]
  refine wpAny_pure ⟨_, rfl, ?_⟩
  replace b4 : ButAt z (g3.push { cls := .type "tuple", data := .seq #[.int c tk, x] }) g4 := b4
  show Q (.ref g3.objs.size) ⟨g4, g, d, tk + 1, os⟩
  rw [sz3] at new ⊢
  refine hQ x g4 tk px z4 (D1.frame _ _ _ j3 fun a ha o e => b4.1 a o (fun q => zf (q ▸ ha)) e) (b4.1 _ _ (Nat.ne_of_gt lz) new) (by rw [b4.2, Heap.size_push, sz3]) fun a o n1 n2 e => b4.1 a o n1 (push a o (up3 a o n1 n2 e))
theorem enumD_more_end {Q : Option Value → Shared → Prop} (D1 : Draws prog w A.in1 it fp n P St) (hz : EnumAt s.heap z it T c b0 v0) (st : St n s.heap)
    (hQ : ∀ h', Heap.ExtBut it s.heap h' → Q none { s with heap := h' }) : wpAny (model prog w) A (pyNext (.ref z)) Q E s := by
  have ty : s.TypeIs (.ref z) "enumerate" := ⟨_, hz, rfl⟩
  unfold pyNext
  refine wpAny_bind (wpAny_attempt (wpAny_callSpecial?_slot (name := Str.ofString "__next__") ty F.slot_enumerate_next (wpAny_call_entry F.slot_enumerate_next ty F.entry_enumerate_next ?_ (F.args_enumerate_next_1 _))))
  show wpAny _ _ (field (.ref z) 2 >>= _) _ _ _
  refine wpAny_bind (wpAny_field hz rfl (x := .ref it) rfl ?_)
  refine wpAny_bind (D1.done _ _ _ st fun h' x he' hx' => ?_)
  obtain ⟨o, ho, hc⟩ := hx'
  exact wpAny_bind (wpAny_isInstance (T := "StopIteration") (b := true) ⟨o, ho, hc⟩ isSubtype_stop (wpAny_pure (hQ _ he')))
theorem pyNextE_more {Q : Option Value → Shared → Prop} (D1 : Draws prog w A.in1 it fp n P St) (hz : EnumAt s.heap z it T c b0 v0) (hTz : s.heap.get? T = some oT) (nTz : T ≠ z) (nTi : T ≠ it) (nz : z ≠ it) (zf : z ∉ fp) (st : St i s.heap) (hi : i < n)
    (hQ : ∀ x h' tk, P i x → EnumAt h' z it T (c + 1) true v0 → St (i + 1) h' → h'.get? s.heap.objs.size = some { cls := .type "tuple", data := .seq #[.int c tk, x] } → h'.objs.size = s.heap.objs.size + 1 →
      (∀ a o, a ≠ z → a ≠ it → s.heap.get? a = some o → h'.get? a = some o) → Q (some (.ref s.heap.objs.size)) { s with heap := h', toks := tk + 1 }) :
    wpAny (model prog w) A (pyNext (.ref z)) Q E s := by
  have ty : s.TypeIs (.ref z) "enumerate" := ⟨_, hz, rfl⟩
  unfold pyNext
  refine wpAny_bind (wpAny_attempt (wpAny_callSpecial?_slot (name := Str.ofString "__next__") ty F.slot_enumerate_next (wpAny_call_entry F.slot_enumerate_next ty F.entry_enumerate_next ?_ (F.args_enumerate_next_1 _))))
  exact enumD_more D1 hz hTz nTz nTi nz zf st hi fun x h' tk a1 a2 a3 a4 a5 a6 => wpAny_pure (hQ x h' tk a1 a2 a3 a4 a5 a6)
end
/-- the enumerate as it stands ahead of a pull -/
structure EnSt (h : Heap) (z it : Addr) (St : Nat → Heap → Prop) (i : Nat) : Prop where
  go : (∃ v, IsEnum h z it (i : Int) v) ∨ ∃ T b v oT, EnumAt h z it T (i : Int) b v ∧ h.get? T = some oT ∧ T ≠ z ∧ T ≠ it
  j : St i h
section
variable {prog : Program} {w : World} {A : Around} {E : Value → Shared → Prop} {s : Shared} {z it : Addr} {fp : List Addr} {n i : Nat} {P : Nat → Value → Prop} {St : Nat → Heap → Prop}
theorem eD_lts {B : Around} (D1 : Draws prog w B it fp n P St) (st : EnSt s.heap z it St i) : z < s.heap.objs.size ∧ it < s.heap.objs.size := by
  obtain ⟨go, j⟩ := st
  obtain ⟨o1, e1⟩ := D1.live _ _ j
  refine ⟨?_, Heap.lt_size e1⟩
  rcases go with ⟨v, q⟩ | ⟨T, b, v, oT, q, _⟩
  · exact Heap.lt_size q
  · exact Heap.lt_size q
abbrev IdxP (j : Nat) (v : Value) : Prop := ∃ t, v = .int (j : Int) t
theorem eD_pull {Q : Option Value → Shared → Prop} (D1 : Draws prog w A.in1 it fp n P St) (nz : z ≠ it) (zf : z ∉ fp) (st : EnSt s.heap z it St i) (hi : i < n)
    (hQ : ∀ k x h' tk, IdxP i k → P i x → EnSt h' z it St (i + 1) → IsPair h' s.heap.objs.size k x → h'.objs.size = s.heap.objs.size + 1 → (∀ a o, a ≠ z → a ≠ it → s.heap.get? a = some o → h'.get? a = some o) → Q (some (.ref s.heap.objs.size)) { s with heap := h', toks := tk }) :
    wpAny (model prog w) A (pyNext (.ref z)) Q E s := by
  obtain ⟨lz, li⟩ := eD_lts D1 st
  obtain ⟨go, j⟩ := st
  have ec : (i : Int) + 1 = ((i + 1 : Nat) : Int) := by omega
  rcases go with ⟨v, q⟩ | ⟨T, b, v, oT, q, hT, n1, n2⟩
  · refine wpAny_pyNext_enum_itemC D1 q j hi nz zf fun x h' tk p a1 a2 a3 a4 kp => ?_
    rw [ec] at a1
    exact hQ _ x h' _ ⟨tk, rfl⟩ p ⟨.inr ⟨s.heap.objs.size, false, x, _, a1, a3, Nat.ne_of_gt lz, Nat.ne_of_gt li⟩, a2⟩ a3 a4 kp
  · refine pyNextE_more D1 q hT n1 n2 nz zf j hi fun x h' tk p a1 a2 a3 a4 kp => ?_
    rw [ec] at a1
    exact hQ _ x h' _ ⟨tk, rfl⟩ p ⟨.inr ⟨T, true, v, oT, a1, kp _ _ n1 n2 hT, n1, n2⟩, a2⟩ a3 a4 kp
theorem eD_stop {Q : Option Value → Shared → Prop} (D1 : Draws prog w A.in1 it fp n P St) (nz : z ≠ it) (st : EnSt s.heap z it St n)
    (hQ : ∀ h', (∀ a o, a ≠ it → s.heap.get? a = some o → h'.get? a = some o) → Q none { s with heap := h' }) : wpAny (model prog w) A (pyNext (.ref z)) Q E s := by
  obtain ⟨go, j⟩ := st
  rcases go with ⟨v, q⟩ | ⟨T, b, v, oT, q, hT, n1, n2⟩
  · exact wpAny_pyNext_enum_endD D1 q j fun h' x => hQ h' fun a o n e => x a o n e
  · exact enumD_more_end D1 q j fun h' x => hQ h' fun a o n e => x a o n e
theorem EnSt.keep {B : Around} {h h' : Heap} {L : Addr} (D1 : Draws prog w B it fp n P St) (st : EnSt h z it St i) (nz : L ≠ z) (nf : L ∉ fp) (k : ∀ a o, a ≠ L → h.get? a = some o → h'.get? a = some o) (hS : ∃ o, h'.get? L = some o) : EnSt h' z it St i := by
  obtain ⟨go, j⟩ := st
  refine ⟨?_, D1.frame _ _ _ j fun a ha o e => k a o (fun q => nf (q ▸ ha)) e⟩
  rcases go with ⟨v, q⟩ | ⟨T, b, v, oT, q, hT, n1⟩
  · exact .inl ⟨v, k _ _ (Ne.symm nz) q⟩
  · by_cases e : T = L
    · obtain ⟨o, ho⟩ := hS
      exact .inr ⟨T, b, v, o, k _ _ (Ne.symm nz) q, e ▸ ho, n1⟩
    · exact .inr ⟨T, b, v, oT, k _ _ (Ne.symm nz) q, k _ _ e hT, n1⟩
theorem eD_loop {R : Result → Shared → Prop} (D1 : Draws prog w A.in1.in1 it fp n P St) (nzi : z ≠ it) (zf : z ∉ fp) (hit : it ∈ fp) (hn : n ≤ sizeLine) (L : Addr) (m1 : L ≠ z) (nf : L ∉ fp) (res : Value) (n0 : Nat) :
    ∀ (k i : Nat) (s : Shared) (acc : Array Value) (c : Nat), n - i = k → i ≤ n → EnSt s.heap z it St i → s.heap.get? L = some { cls := .type "list", dict := none, data := .seq acc c, slots := #[] } → n0 ≤ s.heap.objs.size → Got s.heap n0 [z, it, L] IdxP P acc i →
    (∀ h' tk acc' c', (∀ a o, a ∉ [z, it, L] → s.heap.get? a = some o → h'.get? a = some o) → h'.get? L = some { cls := .type "list", dict := none, data := .seq acc' c', slots := #[] } → Got h' n0 [z, it, L] IdxP P acc' n → R (.ok (.ret res)) { s with heap := h', toks := tk }) →
    codeAny (model prog w) A (.builtin "list.extend.loop" ⟨[.ref L, .ref z, res], []⟩) R s := by
  have m2 : L ≠ it := fun e => nf (e ▸ hit)
  have three : ∀ a : Addr, a ∉ [z, it, L] → a ≠ z ∧ a ≠ it ∧ a ≠ L := fun a ha => by
    simpa only [List.mem_cons, List.not_mem_nil, or_false, not_or] using ha
  intro k
  induction k with
  | zero =>
    intro i s acc c hk hi st hS hn0 got hR
    obtain rfl : i = n := by omega
    refine codeAny_builtin F.entry_extend_loop ?_
    rw [Around.under_plainId F.plain_extend_loop _]
    show wpAny _ A.in1 (pyNext (.ref z) >>= _) _ _ s
    refine wpAny_bind (eD_stop D1 nzi st fun h' kp => ?_)
    have kp' : ∀ a o, a ∉ [z, it, L] → s.heap.get? a = some o → h'.get? a = some o := fun a o ha e => kp a o (three a ha).2.1 e
    exact wpAny_pure (hR h' s.toks acc c kp' (kp _ _ m2 hS) (got.keep kp'))
  | succ k ih =>
    intro i s acc c hk hi st hS hn0 got hR
    have ix : i < n := by omega
    refine codeAny_builtin F.entry_extend_loop ?_
    rw [Around.under_plainId F.plain_extend_loop _]
    show wpAny _ A.in1 (pyNext (.ref z) >>= _) _ _ s
    obtain ⟨lz, li⟩ := eD_lts D1 st
    have lS := Heap.lt_size hS
    refine wpAny_bind (eD_pull D1 nzi zf st ix fun x y h' tk px py st' hT size kp => ?_)
    have kp' : ∀ a o, a ∉ [z, it, L] → s.heap.get? a = some o → h'.get? a = some o := fun a o ha e => kp a o (three a ha).1 (three a ha).2.1 e
    have hS' := kp _ _ m1 m2 hS
    have nT : s.heap.objs.size ∉ [z, it, L] := by
      simp only [List.mem_cons, List.not_mem_nil, or_false, not_or]
      exact ⟨Nat.ne_of_gt lz, Nat.ne_of_gt li, Nat.ne_of_gt lS⟩
    have got' := (got.keep kp').push nT hn0 px py hT got.low
    show wpAny _ A.in1 (updateSeq L (·.push (.ref s.heap.objs.size)) >>= _) _ _ _
    refine wpAny_bind ?_
    refine wpAny_updateSeq hS' rfl (wpAny_pure ⟨plainId_quiet F.plain_extend_loop _, ?_⟩) (by rw [got.1]; omega) (by show (acc.push (.ref s.heap.objs.size)).size ≤ sizeLine + 1; rw [Array.size_push, got.1]; omega)
    have up : ∀ b o, b ≠ L → h'.get? b = some o → (h'.update L (Obj.mapSeq (·.push (.ref s.heap.objs.size)))).get? b = some o := fun b o hb e => (Heap.get?_update_other _ _ (fun h : L = b => hb h.symm)).trans e
    refine ih (i + 1) { s with heap := h'.update L (Obj.mapSeq (·.push (.ref s.heap.objs.size))), toks := tk } (acc.push (.ref s.heap.objs.size)) _ (by omega) ix (st'.keep D1 m1 nf up ⟨_, Heap.get?_update_self _ hS' rfl⟩) (Heap.get?_update_self _ hS' rfl) (Nat.le_trans hn0 (Nat.le_of_lt (Heap.lt_size (up _ _ (Nat.ne_of_gt lS) hT)))) (got'.keep fun b o hb e => up b o (three b hb).2.2 e) fun h'' tk'' acc'' c'' kp'' hS'' got'' => ?_
    exact hR h'' tk'' acc'' c'' (fun b o hb e => kp'' b o hb (up b o (three b hb).2.2 (kp' b o hb e))) hS'' got''
theorem enum_no_len : typeLookup (.type "enumerate") "__len__" = pure none := by rw [typeLookup_type, builtinLookup_eq_fast]; kernel_rfl
theorem enum_no_hint : typeLookup (.type "enumerate") "__length_hint__" = pure none := by rw [typeLookup_type, builtinLookup_eq_fast]; kernel_rfl
theorem extendE {R : Result → Shared → Prop} (D1 : Draws prog w A.in1.in1 it fp n P St) (nzi : z ≠ it) (zf : z ∉ fp) (hit : it ∈ fp) (hn : n ≤ sizeLine) (hz0 : IsEnum s.heap z it ((0 : Nat) : Int) .none) (st : EnSt s.heap z it St 0) (L : Addr) (m1 : L ≠ z) (nf : L ∉ fp) (c0 : Nat)
    (hS : s.heap.get? L = some { cls := .type "list", data := .seq #[] c0 }) (n0 : Nat) (hn0 : n0 ≤ s.heap.objs.size) (res : Value)
    (hR : ∀ h' tk acc c', (∀ a o, a ∉ [z, it, L] → s.heap.get? a = some o → h'.get? a = some o) → h'.get? L = some { cls := .type "list", dict := none, data := .seq acc c', slots := #[] } → Got h' n0 [z, it, L] IdxP P acc n → R (.ok (.ret res)) { s with heap := h', toks := tk }) :
    wpAny (model prog w) A.in1 (Builtin.List.listExtendWith (.ref L) (.ref z) res)
      (fun fin s' => match fin with | .done f => R (.ok f) s' | .again c' => c'.quiet = true ∧ codeAny (model prog w) A c' R s') (fun e s' => R (.error e) s') s := by
  have ty : s.TypeIs (.ref z) "enumerate" := ⟨_, hz0, rfl⟩
  unfold Builtin.List.listExtendWith
  refine wpAny_bind (wpAny_typeOf ty ?_)
  have n1 : Builtin.List.listSameRef (.ref L) (.ref z) = false := by simp [Builtin.List.listSameRef, m1]
  have n2 : (Value.type "enumerate" == Value.type "list") = false := by decide
  have n3 : (Value.type "enumerate" == Value.type "tuple") = false := by decide
  simp only [n1, n2, n3, Bool.or_false, Bool.false_eq_true, if_false]
  refine wpAny_bind (wpAny_pyIter_enum hz0 ?_)
  refine wpAny_bind (wpAny_holding ?_)
  unfold Builtin.List.listLengthHint
  refine wpAny_bind (wpAny_specialOf ty enum_no_len ?_)
  show wpAny _ A.in1 (specialOf (Value.ref z) (Str.ofString "__length_hint__") >>= _) _ _ _
  refine wpAny_bind (wpAny_specialOf ty enum_no_hint ?_)
  refine wpAny_pure ?_
  show wpAny _ A.in1 (rule "list.extend.makes-room" >>= fun _ => Builtin.List.listTouch (.ref L) >>= fun _ =>
    again (.builtin "list.extend.loop" ⟨[.ref L, .ref z, res], []⟩)) _ _ _
  refine wpAny_bind (wpAny_rule ?_)
  refine wpAny_bind ?_
  show wpAny _ A.in1 (updateSeq L (·.push .none) >>= fun _ => updateSeq L (·.pop)) _ _ _
  refine wpAny_bind (wpAny_updateSeq hS rfl ?_)
  have at2 := Heap.get?_update_self (Obj.mapSeq (·.push Value.none)) hS rfl
  refine wpAny_updateSeq at2 rfl ?_
  have at3 := Heap.get?_update_self (Obj.mapSeq (·.pop)) at2 rfl
  have oth : ∀ b o, b ≠ L → s.heap.get? b = some o → ((s.heap.update L (Obj.mapSeq (·.push Value.none))).update L (Obj.mapSeq (·.pop))).get? b = some o :=
    fun b o hb e => (Heap.get?_update_other _ _ (Ne.symm hb)).trans ((Heap.get?_update_other _ _ (Ne.symm hb)).trans e)
  have big : s.heap.objs.size ≤ ((s.heap.update L (Obj.mapSeq (·.push Value.none))).update L (Obj.mapSeq (·.pop))).objs.size := by
    simp [Heap.size_update]
  refine wpAny_pure ⟨plainId_quiet F.plain_extend_loop _, eD_loop (i := 0) (s := { s with heap := ((s.heap.update L (Obj.mapSeq (·.push Value.none))).update L (Obj.mapSeq (·.pop))) })
    D1 nzi zf hit hn L m1 nf res n0 n #[] _ rfl (Nat.zero_le _) (st.keep D1 m1 nf oth ⟨_, at3⟩) at3 (Nat.le_trans hn0 big) ⟨rfl, (fun j v e => by simp at e), fun j k T U _ e => by simp at e⟩ fun h' tk acc' c' kp hS got => ?_⟩
  exact hR h' tk acc' c' (fun c o hc e => kp c o hc (oth c o (fun q => hc (by simp [q])) e)) hS got
theorem list_initE {R : Result → Shared → Prop} (D1 : Draws prog w A.in1.in1 it fp n P St) (nzi : z ≠ it) (zf : z ∉ fp) (hit : it ∈ fp) (hn : n ≤ sizeLine) (hz0 : IsEnum s.heap z it ((0 : Nat) : Int) .none) (st : EnSt s.heap z it St 0) (L : Addr) (m1 : L ≠ z) (nf : L ∉ fp)
    (hS : s.heap.get? L = some { cls := .type "list", data := .seq #[] }) (n0 : Nat) (hn0 : n0 ≤ s.heap.objs.size)
    (hR : ∀ h' tk acc c', (∀ a o, a ∉ [z, it, L] → s.heap.get? a = some o → h'.get? a = some o) → h'.get? L = some { cls := .type "list", dict := none, data := .seq acc c', slots := #[] } → Got h' n0 [z, it, L] IdxP P acc n → R (.ok (.ret .none)) { s with heap := h', toks := tk }) :
    wpAny (model prog w) A.in1 (Builtin.«list.__init__» ⟨[.ref L, .ref z], []⟩)
      (fun fin s' => match fin with | .done f => R (.ok f) s' | .again c' => c'.quiet = true ∧ codeAny (model prog w) A c' R s') (fun e s' => R (.error e) s') s := by
  show wpAny _ _ (do let old ← Builtin.List.listItems (.ref L); Builtin.List.listUpdate (.ref L) (fun _ => #[]); letGo old.toList.reverse; Builtin.List.listExtendWith (.ref L) (.ref z) .none) _ _ s
  refine wpAny_bind ?_
  unfold Builtin.List.listItems
  refine wpAny_bind (wpAny_seqItems hS rfl (wpAny_pure ?_))
  show wpAny _ _ (updateSeq L (fun _ => #[]) >>= fun _ => letGo (#[] : Array Value).toList.reverse >>= fun _ => Builtin.List.listExtendWith (.ref L) (.ref z) .none) _ _ s
  refine wpAny_bind (wpAny_updateSeq hS rfl ?_)
  have at2 := Heap.get?_update_self (Obj.mapSeq (fun _ => (#[] : Array Value))) hS rfl
  have oth : ∀ b o, b ≠ L → s.heap.get? b = some o → (s.heap.update L (Obj.mapSeq (fun _ => (#[] : Array Value)))).get? b = some o :=
    fun b o hb e => (Heap.get?_update_other _ _ (Ne.symm hb)).trans e
  refine wpAny_bind (wpAny_letGo ?_)
  have big : s.heap.objs.size ≤ (s.heap.update L (Obj.mapSeq (fun _ => (#[] : Array Value)))).objs.size := by
    simp [Heap.size_update]
  refine extendE (s := { s with heap := s.heap.update L (Obj.mapSeq (fun _ => (#[] : Array Value))) }) D1 nzi zf hit hn (oth z _ m1.symm hz0) (st.keep D1 m1 nf oth ⟨_, at2⟩) L m1 nf _ at2 n0 (Nat.le_trans hn0 big) .none fun h' tk acc c' kp hS' got => ?_
  exact hR h' tk acc c' (fun c o hc e => kp c o hc (oth c o (fun q => hc (by simp [q])) e)) hS' got
theorem call_listE {Q : Value → Shared → Prop} (D1 : Draws prog w A.in1.in1.in1 it fp n P St) (nzi : z ≠ it) (zf : z ∉ fp) (hit : it ∈ fp) (hn : n ≤ sizeLine) (hz0 : IsEnum s.heap z it ((0 : Nat) : Int) .none) (st : EnSt s.heap z it St 0) (far : ∀ b ∈ fp, b < s.heap.objs.size)
    (hQ : ∀ h' tk acc c', (∀ a o, a ≠ z → a ≠ it → s.heap.get? a = some o → h'.get? a = some o) → h'.get? s.heap.objs.size = some { cls := .type "list", dict := none, data := .seq acc c', slots := #[] } → Got h' s.heap.objs.size [z, it, s.heap.objs.size] IdxP P acc n → Q (.ref s.heap.objs.size) { s with heap := h', toks := tk }) :
    wpAny (model prog w) A (call (.type "list") [.ref z]) Q E s := by
  have old : ∀ a o, s.heap.get? a = some o → a ≠ s.heap.objs.size := fun a o e => Nat.ne_of_lt (Heap.lt_size e)
  have m1 : s.heap.objs.size ≠ z := (old _ _ hz0).symm
  have nf : s.heap.objs.size ∉ fp := fun h => Nat.lt_irrefl _ (far _ h)
  refine callType_codes (Q₁ := fun obj s₁ => obj = .ref s.heap.objs.size ∧ s₁ = { s with heap := s.heap.push { cls := .type "list", data := .seq #[] } }) F.called_list (F.typeCall_list_1 _) F.entry_list_init
    (code_list_new _ ⟨rfl, rfl⟩) fun obj s₁ h₁ => ?_
  obtain ⟨rfl, rfl⟩ := h₁
  have hS : (s.heap.push { cls := .type "list", data := .seq #[] }).get? s.heap.objs.size = some { cls := .type "list", data := .seq #[] } := Heap.get?_push_size _ rfl
  have up : ∀ a o, s.heap.get? a = some o → (s.heap.push { cls := .type "list", data := .seq #[] }).get? a = some o := fun a o e => Heap.get?_push_of_some _ e
  refine ⟨⟨_, hS, rfl⟩, F.args_list_init_2 _ _, list_initE (A := A.in1) (s := { s with heap := s.heap.push { cls := .type "list", data := .seq #[] } }) D1 nzi zf hit hn (up _ _ hz0) (st.keep D1 m1 nf (fun a o _ e => up a o e) ⟨_, hS⟩) s.heap.objs.size m1 nf hS s.heap.objs.size (Nat.le_of_lt (Heap.lt_size hS)) fun h' tk acc c' kp hS' got => ?_⟩
  refine ⟨rfl, hQ h' tk acc c' (fun a o c1 c2 e => kp a o ?_ (up a o e)) hS' got⟩
  simp only [List.mem_cons, List.not_mem_nil, or_false, not_or]
  exact ⟨c1, c2, old a o e⟩
end
end PySem


namespace L2
open PySem PySem.Spec PyProof.Rows RZ
section
variable {X : Cx} {e : Expr} {ta : TA} {p p2 q pos : Pos}
def idxV (n : Nat) : List V := (List.range n).map fun i => V.int (i : Nat)
def tLstEnum (K : PySem.W.Frag) (ta : TA) : TE := fun σ H Q => ta σ H fun vs H1 => ∃ (a : Addr) (xs : List V), vs = [.ref a] ∧ SqL K H1 a xs ∧ xs.length ≤ 1000 ∧
  ∀ H2 ts t, ZipNew H1 H2 (idxV xs.length) xs ts → H1 t = none → H2 t = some (.lst (ts.map V.ref)) → Q (.ref t) H2
theorem pe_lstEnum (hc : X.calm = true) (hg : Gl X "list") (hm : X.mg "list" = none) (hg2 : Gl X "enumerate") (hm2 : X.mg "enumerate" = none) (ha : PA X [e] ta)
    (hs : starEach [e] X.env = [(false, eval e X.env)] := by rfl)
    (na : starEach [.Call (.Name "enumerate" p2) [e] [] q] X.env = (false, eval (.Call (.Name "enumerate" p2) [e] [] q) X.env) :: starEach [] X.env := by rfl) :
    PE X (.Call (.Name "list" p) [.Call (.Name "enumerate" p2) [e] [] q] [] pos) (tLstEnum X.K ta) := by
  refine ⟨fun pins s σ H Q I h => ?_⟩
  refine Call_ (ld_blt I hg hm boot_list (PyProof.Rows.callWith_type1 (PyProof.Rows.args_cons ?_ na) na rfl))
  refine Call_ (ld_blt I hg2 hm2 boot_enumerate (PyProof.Rows.callWith_type1 (thn (ha.run q pins s σ H _ I h) fun us s1 ⟨vs, H1, I1, r1, q1⟩ => ?_) hs rfl))
  obtain ⟨a, xs, ex, hqx, hn, fin⟩ := q1
  subst ex
  cases r1 with
  | cons r rr =>
    cases rr
    cases r
    obtain ⟨its, rv, p1, _⟩ := I1.list hqx
    have lx := rv.length
    have p1lt := p1.lt
    refine call_enumerate_list p1.isList fun h' he hit hsz hk => PyProof.Rows.args_nil ?_
    have hh : X.A.in1.in1.in1.handled = none := I1.ok.hd hc
    have nai : a ≠ s1.heap.objs.size := Nat.ne_of_lt p1lt
    have naz : a ≠ s1.heap.objs.size + 1 := Nat.ne_of_lt (Nat.lt_succ_of_lt p1lt)
    have D1 := Draws.list (prog := X.prog) (w := X.w) hh s1.heap.objs.size a nai its.toArray
    have e1 : its.toArray.size = xs.length := by simp; omega
    rw [e1] at D1
    have st : EnSt h' (s1.heap.objs.size + 1) s1.heap.objs.size (fun i h => h.IsListIter s1.heap.objs.size a i ∧ h.IsList a its.toArray) 0 := ⟨.inl ⟨.none, he⟩, hit, p1.isList.at fun o e => hk _ o e⟩
    refine call_listE (s := { s1 with heap := h' }) D1 (Nat.succ_ne_self _) (by simp [naz.symm]) (by simp) (Nat.le_of_lt (small1000 (by omega))) he st (fun c hc' => ?_) fun h3 tk acc c' kp hS got => ?_
    · simp only [List.mem_cons, List.not_mem_nil, or_false] at hc'
      have hsz' : ({ s1 with heap := h' } : Shared).heap.objs.size = s1.heap.objs.size + 2 := hsz
      rw [hsz']
      rcases hc' with rfl | rfl
      · exact Nat.lt_add_of_pos_right (by decide)
      · exact Nat.lt_of_lt_of_le p1lt (Nat.le_add_right _ _)
    have far : ∀ b o, s1.heap.get? b = some o → h3.get? b = some o := fun b o e => by
      have lt := Heap.lt_size e
      exact kp b o (Nat.ne_of_lt (Nat.lt_succ_of_lt lt)) (Nat.ne_of_lt lt) (hk b o e)
    have big2 : s1.heap.objs.size ≤ h'.objs.size := by
      have : h'.objs.size = s1.heap.objs.size + 2 := hsz
      rw [this]
      exact Nat.le_add_right _ _
    have li : (idxV xs.length).length = xs.length := by unfold idxV; simp
    have got2 : Got h3 h'.objs.size [s1.heap.objs.size + 1, s1.heap.objs.size, h'.objs.size] (fun j v => j < xs.length ∧ IdxP j v) (fun i v => its.toArray[i]? = some v) acc xs.length := ⟨got.1, fun j v e => by
      obtain ⟨T, x, y, g1, g2, g3, g4, g5, g6⟩ := got.2.1 j v e
      have hj := (Array.getElem?_eq_some_iff.mp e).1
      rw [got.1] at hj
      exact ⟨T, x, y, g1, g2, g3, ⟨hj, g4⟩, g5, g6⟩, got.2.2⟩
    obtain ⟨ts, H2, I2, zn, t0, t2⟩ := track_zip (P1 := fun j v => j < xs.length ∧ IdxP j v) (P2 := fun i v => its.toArray[i]? = some v) (u := fun ts => .lst (ts.map V.ref)) (t := h'.objs.size) (tk := tk) (xs := idxV xs.length) (ys := xs) I1 (fun j v ⟨hj, t, ev⟩ => ⟨.int (j : Nat), by unfold idxV; rw [List.getElem?_map, List.getElem?_range hj]; rfl, by rw [ev]; exact ⟨t, rfl⟩⟩)
      (fun j v hv => by
        have hv' : its[j]? = some v := by simpa using hv
        have hj : j < xs.length := by
          have := (List.getElem?_eq_some_iff.mp hv').1
          omega
        obtain ⟨u, hu, ru⟩ := rv.get (List.getElem?_eq_getElem hj)
        rw [hv'] at hu
        cases hu
        exact ⟨_, List.getElem?_eq_getElem hj, ru⟩) li (by omega) big2 (by rw [li]; exact got2) far big2 (fun j T e z => by
        obtain ⟨T', _, _, e1, _, nb, _⟩ := got.2.1 j _ e
        cases e1
        exact nb (by simp [z]))
      (fun ts H2 ets lts => ⟨by rw [List.length_map, lts, li]; exact Nat.le_of_lt (small1000 (by omega)), ts.map Value.ref, c', valsZ ts, by rw [← ets]; simpa using hS⟩)
    exact ⟨.ref h'.objs.size, H2, I2, rfl, fin H2 ts _ zn t0 t2⟩
end
end L2


namespace Toy
open PySem PySem.Spec L2 PyProof.Rows PySem.W
/-! ### a chooser, told one -/
abbrev NDc : List Str := ["term", "waiting", "spot", "part", "inner", "number", "kind", "below"]
theorem scDc : FnScope NDc ["term"] (defScope sDc) := ⟨rfl, rfl, rfl, by decide +kernel, rfl, by decide +kernel, by decide +kernel⟩
theorem sqT_but {K : PySem.W.Frag} {H H' : Hp} {L t : Addr} {xs us : List V} (b : But L H H') (hx : H L = some (.lst xs)) (h : SqT K H t us) : SqT K H' t us := by
  rcases h with (h | ⟨o, h⟩) | h
  · refine .inl (.inl (b _ _ (fun z => ?_) h))
    rw [z, hx] at h
    cases h
  · refine .inl (.inr ⟨o, b _ _ (fun z => ?_) h⟩)
    rw [z, hx] at h
    cases h
  · exact .inr h
mutual
theorem dv_but {K : PySem.W.Frag} {H H' : Hp} {L : Addr} {xs : List V} (b : But L H H') (hL : H L = some (.lst xs)) : ∀ {v : V} {t : Dt}, Dv K H v t → noq t = true → Dv K H' v t
  | _, _, .non, _ => .non
  | _, _, .bl b, _ => .bl b
  | _, _, .int b, _ => .int b
  | _, _, .str b, _ => .str b
  | _, _, .tup h d, n => .tup (sqT_but b hL h) (dvl_but b hL d (by simpa [noq] using n))
  | _, _, .lst _, n => by simp [noq] at n
  | _, _, .dct _, n => by simp [noq] at n
theorem dvl_but {K : PySem.W.Frag} {H H' : Hp} {L : Addr} {xs : List V} (b : But L H H') (hL : H L = some (.lst xs)) : ∀ {vs : List V} {ts : List Dt}, DvL K H vs ts → noqL ts = true → DvL K H' vs ts
  | _, _, .nil, _ => .nil
  | _, _, .cons a c, n => by
    simp only [noqL, Bool.and_eq_true] at n
    exact .cons (dv_but b hL a n.1) (dvl_but b hL c n.2)
end
theorem Pt.but {K : PySem.W.Frag} {H H' : Hp} {L : Addr} {xs : List V} {v : V} {t : Dt} (h : Pt K H v t) (b : But L H H') (hL : H L = some (.lst xs)) : Pt K H' v t := ⟨dv_but b hL h.1 h.2, h.2⟩
theorem PtL.but {K : PySem.W.Frag} {H H' : Hp} {L : Addr} {xs : List V} {vs : List V} {ts : List Dt} (h : PtL K H vs ts) (b : But L H H') (hL : H L = some (.lst xs)) : PtL K H' vs ts := ⟨dvl_but b hL h.1 h.2, h.2⟩
theorem but_put {H : Hp} {L : Addr} {u : HO} : But L H (upd H L u) := fun b o hb ho => by rw [upd_ne hb]; exact ho
theorem sqT_putL {K : PySem.W.Frag} {H : Hp} {L t : Addr} {u : HO} {xs us : List V} (hx : H L = some (.lst xs)) (h : SqT K H t us) : SqT K (upd H L u) t us := sqT_but but_put hx h
theorem Pt.put {K : PySem.W.Frag} {H : Hp} {L : Addr} {xs : List V} {u : HO} {v : V} {t : Dt} (h : Pt K H v t) (hL : H L = some (.lst xs)) : Pt K (upd H L u) v t := h.but but_put hL
theorem PtL.put {K : PySem.W.Frag} {H : Hp} {L : Addr} {xs : List V} {u : HO} {vs : List V} {ts : List Dt} (h : PtL K H vs ts) (hL : H L = some (.lst xs)) : PtL K (upd H L u) vs ts := h.but but_put hL
abbrev WsE := List Dt × Dt
def pushE (sp : List Dt) (kps : List (Str × Dt)) (j : Nat) : Option WsE := match kps[j]? with
  | some (k, b) => if k = "test" then none else some (sp ++ [.int (j : Int)], b)
  | none => none
def pushL (sp : List Dt) (kps : List (Str × Dt)) : List WsE := (List.range kps.length).reverse.filterMap (pushE sp kps)
def chW : Nat → List WsE → Bool
  | 0, _ => false
  | n + 1, ws => match ws.getLast? with
    | none => true
    | some (sp, t) => match t with
      | .tup (.str x :: fs) => begK x "chooser" && okd 300 t && (hasF "test" t || hasF "filter" t) && decide (sp.length ≤ 500) && decide ((kpOf t).length ≤ 500) && decide (ws.length ≤ 500) && ((kpOf t).all fun p => noq p.2) && chW n (ws.dropLast ++ pushL sp (kpOf t))
      | _ => false
theorem ptl_last {K : PySem.W.Frag} {H : Hp} {xs : List V} {ts : List Dt} {t : Dt} (h : PtL K H xs (ts ++ [t])) : ∃ xi x, xs = xi ++ [x] ∧ PtL K H xi ts ∧ Pt K H x t := by
  obtain ⟨y, hy, hp⟩ := h.get' (i := ts.length) (t := t) (by simp)
  have hlen := h.len
  rw [List.length_append, List.length_singleton] at hlen
  have hi := (List.getElem?_eq_some_iff.mp hy).1
  refine ⟨xs.take ts.length, y, ?_, ?_, hp⟩
  · conv => lhs; rw [← List.take_append_drop ts.length xs]
    rw [List.drop_eq_getElem_cons hi, (List.getElem?_eq_some_iff.mp hy).2, List.drop_eq_nil_of_le (by omega)]
  · have := h.take ts.length
    rwa [List.take_left] at this
def fuelC : Nat := 40
def tW (e : WsE) : Dt := .tup [.tup e.1, e.2]
def spDc (K : PySem.W.Frag) : Sp := fun vs H Q _ => ∃ (u : V) (t : Dt), vs = [u] ∧ Pt K H u t ∧ chW fuelC [([], t)] = true ∧ ∀ H', Same H H' → Q .non H'
section
variable {P : Program} {w : World} {K : PySem.W.Frag} {mg : Str → Option Value} {base : Heap}
theorem ok_dc {f fB fK : Addr} {fd dB dK : FuncData} (F : Fun K "demand_chooser" "demand_chooser" sDc f fd) (DB : Dn P w K mg base CX0 1 "begins_kind" ["word", "kind"] spBeg fB dB) (DK : Dn P w K mg base CX0 1 "kinds_and_parts" ["term"] (spKP K) fK dK)
    (mLi : mg "list" = none) (mEn : mg "enumerate" = none) (mRv : mg "reversed" = none) : FnOk P w K mg base CX0 2 f fd ["term"] (spDc K) := by
  refine F.ok (k := 1) scDc (fun vs H Q E h => ?_) (fun cdv A outer s H vs Q E hr h => ?_)
  · obtain ⟨u, t, rfl, _⟩ := h
    rfl
  · obtain ⟨u, t, rfl, hu, hc, q⟩ := h
    refine ⟨_, pss_cons (ps_set (i := 1) scDc.nd rfl (Or.inl rfl) (pe_lst (pa_cons (pe_tup (pa_cons (pe_tup pa_nil) (pa_cons (pv 0) pa_nil))) pa_nil)))
      (pss_one (ps_while PassesOwn.never (pt_truth (pv 1) (by intro _; rfl)) (pss_cons (ps_asg (pe_bm0 PySem.F.plainAttrs_list PySem.F.slot_list_pop PySem.F.type_list_pop mt_pop (pv 1)) (pg_tup rfl (pgs_cons (pg_name (i := 2) scDc.nd rfl (.inl rfl)) (pgs_cons (pg_name (i := 3) scDc.nd rfl (.inl rfl)) pgs_nil))))
      (pss_cons (ps_if (pt_not (pt_val (pe_call DB.G hr (by rfl) DB.m DB.k DB.b .nil pass0 (pa_cons (pe_ix ix_tup (pv 3) pe_int (fun _ _ => rfl)) (pa_cons pe_str pa_nil))))) (pss_one ps_nv) pss_nil)
      (pss_cons (ps_set (i := 4) scDc.nd rfl (Or.inl rfl) (pe_lstEnum (by rfl) (by rfl) mLi (by rfl) mEn (pa_cons (pe_call DK.G hr (by rfl) DK.m DK.k DK.b .nil pass0 (pa_cons (pv 3) pa_nil)) pa_nil)))
      (pss_one (ps_for PassesOwn.never rfl (RT.pi_revA (by rfl) mRv (pv 4)) (pg_tup rfl (pgs_cons (pg_name (i := 5) scDc.nd rfl (.inl rfl)) (pgs_cons (pg_tup rfl (pgs_cons (pg_name (i := 6) scDc.nd rfl (.inl rfl)) (pgs_cons (pg_name (i := 7) scDc.nd rfl (.inl rfl)) pgs_nil))) pgs_nil))) (pss_one (ps_if (pt_cmpR op_ne (pv 6) pe_str (nomark _)) (pss_one (ps_expr (pe_bm PySem.F.plainAttrs_list PySem.F.slot_list_append PySem.F.type_list_append mt_append (pv 1) (pa_cons (pe_tup (pa_cons (pe_op op_catA (pv 2) (pe_tup (pa_cons (pv 5) pa_nil))) (pa_cons (pv 7) pa_nil))) pa_nil)))) pss_nil))))))))), ?_⟩
    have gA : GvA K (tCons (tTup (tCons (tTup tNil) (tCons (tVar 0) tNil))) tNil) (L2.start NDc [u]) H [.tup [.tup [], t]] := by (repeat' (first | exact gv_nil | exact gv_str _ | exact gv_int _ | exact gv_bl _ | exact gv_non | exact gv_var rfl (by assumption) | refine gv_tup ?_ (by simp <;> omega) | refine gv_cons ?_ ?_ | exact gv_ixv0 (by rfl) (by assumption) (by rfl) | exact gv_ixv1 (by rfl) (by assumption) (by rfl) | exact gv_ixv2 (by rfl) (by assumption) (by rfl) | exact gv_ixv3 (by rfl) (by assumption) (by rfl) | refine gv_star1 ?_ | refine gv_star ?_ ?_ | refine gv_d1 ?_ | refine gv_dl ?_ | refine gv_cat ?_ ?_ (by simp <;> omega)))
    refine asg_run (gA H same_id _ fun H0 vs0 s0 hvs0 => ⟨by rw [hvs0.len, sizeLine_eq]; simp, fun L nL => ?_⟩)
    have nL0 : H L = none := by
      cases e : H L with
      | none => rfl
      | some o => rw [s0 _ _ e] at nL; cases nL
    refine ⟨fun m σ' H' => ∃ (o2 o3 o4 o5 o6 o7 : Option V) (xs : List V) (ws : List WsE), σ' = [some u, some (.ref L), o2, o3, o4, o5, o6, o7] ∧ H' L = some (.lst xs) ∧ PtL K H' xs (ws.map tW) ∧ Same H H' ∧ chW m ws = true, ⟨fuelC, _, _, _, _, _, _, vs0, [([], t)], rfl, upd_same, hvs0.same (same_new same_id nL), s0.trans (same_new same_id nL), hc⟩, ?_⟩
    rintro m σ' H1 ⟨o2, o3, o4, o5, o6, o7, xs, ws, rfl, hL, hxs, s1, hc⟩
    refine ⟨_, rfl, _, .inl ⟨xs, SqL.of hL, rfl⟩, ?_⟩
    cases m with
    | zero => cases hc
    | succ m =>
    unfold chW at hc
    cases hl : ws.getLast? with
    | none =>
      have : ws = [] := List.getLast?_eq_none_iff.mp hl
      subst this
      obtain rfl := hxs.nil
      exact iteF (q _ s1)
    | some e =>
    obtain ⟨sp, tt⟩ := e
    rw [hl] at hc
    dsimp only at hc
    have hform : ∃ x fs, tt = .tup (.str x :: fs) := by
      split at hc
      · exact ⟨_, _, rfl⟩
      · cases hc
    obtain ⟨wd, fs, rfl⟩ := hform
    dsimp only at hc
    rw [Bool.and_eq_true, Bool.and_eq_true, Bool.and_eq_true, Bool.and_eq_true, Bool.and_eq_true, Bool.and_eq_true, Bool.and_eq_true, decide_eq_true_eq, decide_eq_true_eq, decide_eq_true_eq, Bool.or_eq_true, List.all_eq_true] at hc
    obtain ⟨⟨⟨⟨⟨⟨⟨hbk, hok⟩, hhf⟩, hsl⟩, hkl⟩, hwl⟩, hnq⟩, hc⟩ := hc
    have hkl : (kpOf (.tup (.str wd :: fs))).length ≤ 500 := hkl
    have hnq : ∀ p ∈ kpOf (.tup (.str wd :: fs)), noq p.2 = true := hnq
    have hsl : sp.length ≤ 500 := hsl
    have hc : chW m ((ws).dropLast ++ pushL sp (kpOf (.tup (.str wd :: fs)))) = true := hc
    obtain ⟨ini, rfl⟩ : ∃ ini, ws = ini ++ [(sp, .tup (.str wd :: fs))] := by
      obtain ⟨ini, h⟩ := List.getLast?_eq_some_iff.mp hl
      exact ⟨ini, h⟩
    rw [List.dropLast_concat] at hc
    rw [List.map_append] at hxs
    obtain ⟨xi, x, rfl, hxi, hx⟩ := ptl_last hxs
    obtain ⟨xa, xv, rfl, hxa, hxv⟩ := hx.tup
    obtain ⟨vsp, xv1, rfl, hsp, hxv1⟩ := hxv.cons
    obtain ⟨vpt, xv2, rfl, hpt, hxv2⟩ := hxv1.cons
    obtain rfl := hxv2.nil
    have et : (!(xi ++ [V.ref xa]).isEmpty) = true := by
      cases xi <;> rfl
    rw [et]
    refine iteT ⟨fun σ' H' => ∃ (o2 o3 o4 o5 o6 o7 : Option V) (xs : List V) (ws : List WsE), σ' = [some u, some (.ref L), o2, o3, o4, o5, o6, o7] ∧ H' L = some (.lst xs) ∧ PtL K H' xs (ws.map tW) ∧ Same H H' ∧ chW m ws = true, fun _ _ h => ⟨m, Nat.lt_succ_self m, h⟩, ?_⟩
    refine ⟨_, rfl, .inl ⟨rfl, _, SqL.of hL⟩, L, _, .ref xa, rfl, rfl, hL, by simp, xa, [vsp, vpt], rfl, sqT_putL hL hxa, rfl, ?_⟩
    refine ⟨_, _, rfl, _, _, rfl, rfl, ?_⟩
    rw [List.dropLast_concat]
    have hxi := hxi.put (u := .lst xi) hL
    have hsp := hsp.put (u := .lst xi) hL
    have hpt := hpt.put (u := .lst xi) hL
    have s2 : Same H (upd H1 L (.lst xi)) := fun b o ho => by rw [upd_ne (ne_of_none ho nL0)]; exact s1 _ _ ho
    have hL2 : (upd H1 L (.lst xi)) L = some (.lst xi) := upd_same
    generalize upd H1 L (.lst xi) = H2 at hxi hsp hpt s2 hL2 ⊢
    have hpt0 := hpt
    obtain ⟨pa, pv', rfl, hpa, hpv⟩ := hpt.tup
    obtain ⟨w0, pv1, rfl, hw0, _⟩ := hpv.cons
    obtain rfl := hw0.str
    refine ⟨_, rfl, pa, _, 0, _, rfl, rfl, hpa, at_0 _ _, wd, "chooser", rfl, fun H3 s3 => ⟨_, rfl, ?_⟩⟩
    rw [hbk]
    refine iteF (nx_run ?_)
    dsimp only
    obtain ⟨kd, hkd⟩ : ∃ k, hasF k (.tup (.str wd :: fs)) = true := by
      rcases hhf with h | h
      · exact ⟨_, h⟩
      · exact ⟨_, h⟩
    have hpt3 := hpt0.same s3
    have hL3 := s3 _ _ hL2
    refine asg_run ⟨_, rfl, .ref pa, Dt.tup (.str wd :: fs), kd, H3, rfl, same_id, hpt3.1, hok, hkd, fun H4 Lk qs s4 nLk hLk hqs hq12 => ⟨Lk, qs.map V.ref, rfl, SqL.of hLk, by have := Paired.length hqs; rw [List.length_map]; omega, fun H5 ts Tl zn nTl hTl => ?_⟩⟩
    obtain ⟨s5, hz⟩ := zn
    refine ⟨_, rfl, Tl, ts.map V.ref, rfl, .inl ⟨SqL.of hTl, ?_⟩⟩
    have lqs := Paired.length hqs
    generalize hN : (kpOf (.tup (.str wd :: fs))).length = N at lqs
    have lts : ts.length = N := by
      have := Paired.length hz
      rw [List.length_zip, List.length_map] at this
      unfold idxV at this
      rw [List.length_map, List.length_range] at this
      omega
    have s35 := s4.trans s5
    have hL5 := s35 _ _ hL3
    have hTL : Tl ≠ L := fun z => by rw [z, s4 _ _ hL3] at nTl; cases nTl
    have hxi5 := hxi.same (s3.trans s35)
    have hsp5 := hsp.same (s3.trans s35)
    have sH5 := s2.trans (s3.trans s35)
    generalize hKP : kpOf (.tup (.str wd :: fs)) = KP at *
    refine RT.for_Itv (K := K) (a := Tl) (xs := ts.map V.ref) (fun i σ' H' => ∃ (o5 o6 o7 : Option V) (xs2 : List V), σ' = [some u, some (.ref L), some vsp, some (.ref pa), some (.ref Tl), o5, o6, o7] ∧ H' L = some (.lst xs2) ∧ PtL K H' xs2 ((ini ++ ((List.range N).reverse.take i).filterMap (pushE sp KP)).map tW) ∧ Same H H' ∧ But L H5 H' ∧ Pt K H' vsp (.tup sp)) ?_ ?_ ?_ ?_
    · exact ⟨_, _, _, xi, rfl, hL5, by simpa using hxi5, sH5, fun _ _ _ h => h, hsp5⟩
    · rintro i σ' H' ⟨_, _, _, _, _, _, _, _, bt, _⟩
      exact SqL.of (bt _ _ hTL hTl)
    · rintro i x σ' H6 hi hx ⟨p5, p6, p7, xs2, rfl, hL6, hx6, s6, b6, hsp6⟩
      rw [List.length_map, lts] at hi hx
      obtain ⟨j, ej⟩ : ∃ j, j = N - 1 - i := ⟨_, rfl⟩
      rw [← ej] at hx
      have hjN : j < N := by omega
      obtain ⟨kp, hkp⟩ : ∃ kp, KP[j]? = some kp := ⟨_, List.getElem?_eq_getElem (by rw [hN]; exact hjN)⟩
      obtain ⟨qj, hqj, bv, hq4, hdb⟩ := paired_get hqs hkp
      have hzj : ((idxV (qs.map V.ref).length).zip (qs.map V.ref))[j]? = some (V.int (j : Int), V.ref qj) := by
        have e1 : (idxV (qs.map V.ref).length)[j]? = some (V.int (j : Int)) := by
          unfold idxV
          rw [List.getElem?_map, List.getElem?_range (by rw [List.length_map]; omega)]
          rfl
        have e2 : (qs.map V.ref)[j]? = some (.ref qj) := by rw [List.getElem?_map, hqj]; rfl
        exact List.getElem?_zip_eq_some (z := (V.int (j : Int), V.ref qj)) |>.mpr ⟨e1, e2⟩
      obtain ⟨Tj, hTj, _, hTt⟩ := paired_get hz hzj
      have ex : x = .ref Tj := by
        rw [List.getElem?_map, hTj] at hx
        exact (Option.some.inj hx).symm
      subst ex
      obtain ⟨kk, bd⟩ := kp
      dsimp only at hq4 hdb hTt
      have hTt6 := b6 _ _ (ne_of hTt hL5 (by intro z; cases z)) hTt
      have hq5 := s5 _ _ hq4
      have hq6 := b6 _ _ (ne_of hq5 hL5 (by intro z; cases z)) hq5
      have hb5 : Pt K H5 bv bd := ⟨dvM s35 hdb, hnq _ (List.mem_of_getElem? hkp)⟩
      have hb6 : Pt K H6 bv bd := hb5.but b6 hL5
      refine ⟨Tj, _, rfl, SqT.of hTt6, rfl, _, _, rfl, _, _, rfl, qj, _, rfl, SqT.of hq6, rfl, _, _, rfl, _, _, rfl, rfl, rfl, ?_⟩
      have htake : ((List.range N).reverse.take (i + 1)).filterMap (pushE sp KP) = ((List.range N).reverse.take i).filterMap (pushE sp KP) ++ (pushE sp KP j).toList := by
        have e : (List.range N).reverse[i]? = some j := by
          rw [List.getElem?_reverse (by simpa using hi), List.length_range, List.getElem?_range (by omega)]
          exact congrArg some ej.symm
        rw [List.take_add_one, e, List.filterMap_append]
        rfl
      have hpush : pushE sp KP j = if kk = "test" then none else some (sp ++ [.int (j : Int)], bd) := by
        unfold pushE
        rw [hkp]
      dsimp only
      refine ⟨_, rfl, rfl, _, rfl, ?_⟩
      rw [dec_s]
      by_cases ck : kk = "test"
      · rw [decide_eq_true ck]
        refine iteF ⟨_, _, _, xs2, rfl, hL6, ?_, s6, b6, hsp6⟩
        rw [htake, hpush, if_pos ck]
        simpa using hx6
      · rw [decide_eq_false ck]
        rw [if_neg ck] at hpush
        refine iteT ?_
        have gA : GvA K (tCons (tTup (tCons (tOp (rCatA K) (tVar 2) (tTup (tCons (tVar 5) tNil))) (tCons (tVar 7) tNil))) tNil) [some u, some (.ref L), some vsp, some (.ref pa), some (.ref Tl), some (.int (j : Int)), some (.str kk), some bv] H6 [.tup [.tup (sp ++ [.int (j : Int)]), bd]] := by
          have hj : Pt K H6 (.int (j : Int)) (.int (j : Int)) := pt_int j
          exact gv_cons (gv_tup (gv_cons (gv_cat (gv_var rfl hsp6) (gv_tup (gv_cons (gv_var rfl hj) gv_nil) (by simp)) (by simp; omega)) (gv_cons (gv_var rfl hb6) gv_nil)) (by simp)) gv_nil
        refine ⟨_, rfl, .inl ⟨rfl, _, SqL.of hL6⟩, gA H6 same_id _ fun H7 vs7 s7 hvs7 => ?_⟩
        obtain ⟨v7, vr, rfl, hv7, hvr⟩ := hvs7.cons
        obtain rfl := hvr.nil
        have hL7 := s7 _ _ hL6
        have hx7 := hx6.same s7
        have hlen := hx6.len
        have hlen2 : (((List.range N).reverse.take i).filterMap (pushE sp KP)).length ≤ N := Nat.le_trans (List.length_filterMap_le _ _) (by rw [List.length_take]; simp; omega)
        refine ⟨L, xs2, v7, rfl, rfl, hL7, ?_, ?_⟩
        · rw [hlen, List.length_map, List.length_append, sizeLine_eq]
          rw [List.length_append, List.length_singleton] at hwl
          omega
        · refine ⟨_, _, _, xs2 ++ [v7], rfl, upd_same, ?_, ?_, ?_, (hsp6.same s7).put hL7⟩
          · rw [htake, hpush, ← List.append_assoc, List.map_append]
            exact (hx7.put hL7).app (ptl_cons (hv7.put hL7) ptl_nil)
          · exact same_put (s6.trans s7) nL0
          · intro b o hb ho
            rw [upd_ne hb]
            exact s7 _ _ (b6 _ _ hb ho)
    · rintro σ' H6 ⟨p5, p6, p7, xs2, rfl, hL6, hx6, s6, b6, hsp6⟩
      rw [List.length_map, lts, List.take_of_length_le (by simp)] at hx6
      exact ⟨_, _, _, _, _, _, xs2, ini ++ pushL sp KP, rfl, hL6, by unfold pushL; rw [hN]; exact hx6, s6, hc⟩
end
end Toy


/-! sorted(d, key=f) of a dict of at most one key -/
namespace L2
open PySem PySem.Spec PyProof.Rows PySem.W
theorem if_noK {α : Type} {M : Model} {A : Around} {E : Value → Shared → Prop} {s : Shared} {c : Bool} {a b : Sem α} {Q : α → Shared → Prop} (hc : c = false) (h1 : wpAny M A b Q E s) : wpAny M A (if c = true then a else b) Q E s := by
  subst hc
  exact h1
theorem sk_end {prog : Program} {w : World} {A : Around} {E : Value → Shared → Prop} {s : Shared} {P : PySem.Fin → Shared → Prop} {a kS : Addr} {items keys : Array Value} {e1 e : Nat}
    (nk : s.heap.get? kS = some (seqObj "list" keys e)) (na : s.heap.get? a = some (seqObj "list" #[] e1)) (hka : kS ≠ a) (hk : keys.size = items.size) (h2 : items.size < 2)
    (h : P (.done (.ret .none)) { s with heap := (s.heap.update kS (Obj.mapSeq fun _ => #[])).update a (Obj.mapSeq fun _ => items) }) :
    wpAny (model prog w) A (ksk_end a false items e1 (.ref kS) keys) P E s := by
  have s1 := Heap.SameBut.update s.heap kS (Obj.mapSeq fun _ => (#[] : Array Value))
  have na1 : (s.heap.update kS (Obj.mapSeq fun _ => (#[] : Array Value))).get? a = some (seqObj "list" #[] e1) := (s1.2 a hka.symm).trans na
  have z1 : items.size ≤ sizeLine := by rw [sizeLine_eq]; omega
  unfold ksk_end
  try dsimp only
  rw [if_neg (by decide)]
  rw [if_pos h2, if_pos h2]
  refine wpAny_bind (wpAny_pure ?_)
  rw [StateT.run_pure]
  refine wpAny_bind (wpAny_pure ?_)
  try dsimp only
  unfold ksk_tail
  try dsimp only
  have eo : (arrOf (SortSt.mk' general' (if false = true then (keys.zip items).reverse else keys.zip items) #[] 7 none)).map (·.2) = items := by
    show (keys.zip items).map (·.2) = items
    have e0 : ((keys.zip items).map (·.2)).toList = items.toList := by
      rw [Array.toList_map, Array.toList_zip]
      exact List.map_snd_zip (by rw [Array.length_toList, Array.length_toList]; omega)
    exact Array.toList_inj.mp e0
  rw [eo]
  refine wpAny_bind (listUpdate_at nk rfl ?_ (by omega) (Nat.zero_le _))
  refine wpAny_bind (wpAny_letGo ?_)
  refine wpAny_bind (seqEpoch_at na1 rfl ?_)
  refine wpAny_bind (listUpdate_at na1 rfl ?_ (Nat.zero_le _) (by rw [if_neg (by decide)]; omega))
  try dsimp only
  refine if_noK (by simp) (wpAny_pure h)
/-- a call of a def that raises nothing, beneath X -/
theorem run_atK {X : Cx} {k : Nat} {f : Addr} {fd : FuncData} {ps : List Str} {sp : Sp} {Er : Value → Shared → Prop} {pins : List (Addr × Obj)} {σ : L2.St} {H : Hp} {s : Shared} {Q : VK} {us : List Value} {vs : List V}
    (F : FnOk X.prog X.w X.K X.mg X.base CX0 k f fd ps sp) {A1 : Around} (sb : L2.Sub X k A1) (hb : L2.Binds X.K fd ps []) (I : L2.Inv X pins σ H s) (r : Vals vs us) (h : sp vs H Q E0) :
    wpAny (model X.prog X.w) A1 (call (.ref f) us) (EP X pins σ Q) Er s := by
  have e0 : Env0 X.prog X.w X.K X.mg X.base A1 X.stack s H := by
    have e := Inv.env0 I
    exact { frames := by rw [sb.fr]; exact e.frames, mod := e.mod, bs := e.bs, bsz := e.bsz, funs := e.funs, frf := e.frf, hok := e.hok, bare := e.bare }
  have hl := F.len vs H Q E0 h
  have hbb := hb s us (Inv.kIn I) (by rw [List.append_nil, ← Vals.length r]; exact hl)
  rw [List.append_nil] at hbb
  refine wpAny_call (codeAny_mono (F.run A1 X.stack s H ⟨us, []⟩ us vs Q E0 sb.room e0 hbb r h) fun r s' hq => ?_)
  cases r with
  | error e => exact hq.elim
  | ok fl =>
    cases fl with
    | ret u => exact Inv.after I hq
    | _ => exact hq.elim
/-- what the key of each does -/
def KeyRuns (sp : Sp) (H : Hp) (v : V) : Prop := ∀ H1, Same H H1 → ∀ Q' : VK, (∀ H' r, Same H1 H' → Q' r H') → sp [v] H1 Q' E0
theorem sk_tree {X : Cx} {k : Nat} {f : Addr} {fd : FuncData} {ps : List Str} {sp : Sp} {E : Value → Shared → Prop} {pins : List (Addr × Obj)} {σ : L2.St} {H : Hp} {s : Shared} {a : Addr} {ys : List V} {its : List Value} {P : PySem.Fin → Shared → Prop} {A1 : Around}
    (F : FnOk X.prog X.w X.K X.mg X.base CX0 k f fd ps sp) (sb : L2.Sub X k A1) (hb : L2.Binds X.K fd ps []) (I : L2.Inv X pins σ H s) (fa : FpOk X pins H a) (ha : s.heap.get? a = some (seqObj "list" its.toArray 0)) (rv : Vals ys its) (hn : ys.length < 2) (hk : ∀ y ∈ ys, KeyRuns sp H y)
    (h : ∀ H' s', Same H H' → H' a = none → L2.Inv X pins σ (upd H' a (.lst ys)) s' → P (.done (.ret .none)) s') :
    wpAny (model X.prog X.w) A1 (ksk_tree a (.ref f) false) P E s := by
  have hz : its.length < 2 := by rw [← rv.length]; exact hn
  have z1 : its.length ≤ sizeLine := by rw [sizeLine_eq]; omega
  obtain ⟨e1, ho1⟩ : ∃ e1, (s.heap.update a (Obj.mapSeq fun _ => (#[] : Array Value))).get? a = some (seqObj "list" #[] e1) := ⟨_, get?_update_seq ha fun _ => #[]⟩
  unfold ksk_tree
  refine wpAny_bind (listItems_at ha rfl ?_)
  refine wpAny_bind (listUpdate_at ha rfl ?_ (by rw [List.size_toArray]; exact z1) (Nat.zero_le _))
  refine wpAny_bind (seqEpoch_at ho1 rfl ?_)
  refine wpAny_bind (wpAny_newTuple ?_ (by show its.length ≤ _; exact z1))
  refine wpAny_bind (wpAny_newList ?_ (Nat.zero_le _))
  refine wpAny_holding ?_
  have k1 : ∀ b o, b ≠ a → s.heap.get? b = some o → (((s.heap.update a (Obj.mapSeq fun _ => (#[] : Array Value))).push (seqObj "tuple" its.toArray 0)).push (seqObj "list" #[] 0)).get? b = some o := fun b o hb e =>
    Heap.get?_push_of_some _ (Heap.get?_push_of_some _ ((Heap.get?_update_ne _ _ _ _ hb).trans e))
  have I1 : L2.Inv X pins σ H { s with heap := ((s.heap.update a (Obj.mapSeq fun _ => (#[] : Array Value))).push (seqObj "tuple" its.toArray 0)).push (seqObj "list" #[] 0) } := Inv.turnedL (ch := [a]) (t' := s.toks) I (fun b o hb e => k1 b o (by simpa using hb) e) (fun b hb => by rw [List.mem_singleton.mp hb]; exact fa)
  have ha1 : (((s.heap.update a (Obj.mapSeq fun _ => (#[] : Array Value))).push (seqObj "tuple" its.toArray 0)).push (seqObj "list" #[] 0)).get? a = some (seqObj "list" #[] e1) := Heap.get?_push_of_some _ (Heap.get?_push_of_some _ ho1)
  obtain ⟨kS, hkS⟩ : ∃ kS, kS = ((s.heap.update a (Obj.mapSeq fun _ => (#[] : Array Value))).push (seqObj "tuple" its.toArray 0)).objs.size := ⟨_, rfl⟩
  have ek : kS = s.heap.objs.size + 1 := by rw [hkS, Heap.size_push, Heap.size_update]
  have hS1 : (((s.heap.update a (Obj.mapSeq fun _ => (#[] : Array Value))).push (seqObj "tuple" its.toArray 0)).push (seqObj "list" #[] 0)).get? kS = some (seqObj "list" #[] 0) := by
    rw [hkS]
    exact Heap.get?_push_size _ rfl
  have hka : kS ≠ a := by
    rw [ek]
    exact Nat.ne_of_gt (Nat.lt_succ_of_lt (Heap.lt_size ha))
  have hge : s.heap.objs.size ≤ kS := by
    rw [ek]
    exact Nat.le_succ _
  have fS : FpOk X pins H kS := Inv.fpOk I hge (I.hok.fresh hge)
  rw [← hkS]
  show wpAny _ _ _ _ _ { s with heap := ((s.heap.update a (Obj.mapSeq fun _ => (#[] : Array Value))).push (seqObj "tuple" its.toArray 0)).push (seqObj "list" #[] 0) }
  generalize ((s.heap.update a (Obj.mapSeq fun _ => (#[] : Array Value))).push (seqObj "tuple" its.toArray 0)).push (seqObj "list" #[] 0) = h1 at I1 ha1 hS1 ⊢
  -- the end, from where the keys are made
  have fin : ∀ (s2 : Shared) (H2 : Hp) (keys : Array Value) (e : Nat), L2.Inv X pins σ H2 s2 → Same H H2 → FpOk X pins H2 a → FpOk X pins H2 kS → s2.heap.get? a = some (seqObj "list" #[] e1) → s2.heap.get? kS = some (seqObj "list" keys e) → keys.size = its.length →
      wpAny (model X.prog X.w) A1 (ksk_end a false its.toArray e1 (.ref kS) keys) P E s2 := by
    intro s2 H2 keys e I2 s02 fa2 fS2 ha2 hS2 hks
    refine sk_end hS2 ha2 hka (by rw [List.size_toArray]; exact hks) (by rw [List.size_toArray]; exact hz) ?_
    have s1 := Heap.SameBut.update s2.heap kS (Obj.mapSeq fun _ => (#[] : Array Value))
    have I3 : L2.Inv X pins σ H2 { s2 with heap := s2.heap.update kS (Obj.mapSeq fun _ => #[]) } := Inv.turnedL (ch := [kS]) (t' := s2.toks) I2 (fun b o hb e => (s1.2 b (by simpa using hb)).trans e) (fun b hb => by rw [List.mem_singleton.mp hb]; exact fS2)
    have ha3 : (s2.heap.update kS (Obj.mapSeq fun _ => (#[] : Array Value))).get? a = some (seqObj "list" #[] e1) := (s1.2 a hka.symm).trans ha2
    have s2' := Heap.SameBut.update (s2.heap.update kS (Obj.mapSeq fun _ => (#[] : Array Value))) a (Obj.mapSeq fun _ => its.toArray)
    obtain ⟨c2, hc2⟩ : ∃ c2, ((s2.heap.update kS (Obj.mapSeq fun _ => (#[] : Array Value))).update a (Obj.mapSeq fun _ => its.toArray)).get? a = some (seqObj "list" its.toArray c2) := ⟨_, get?_update_seq ha3 fun _ => its.toArray⟩
    refine h H2 _ s02 fa2.1 ?_
    exact Inv.take (s := { s2 with heap := s2.heap.update kS (Obj.mapSeq fun _ => #[]) }) (t' := s2.toks) I3 (fun b o hb e => (s2'.2 b hb).trans e) fa2 ⟨by rw [rv.length]; exact z1, its, c2, rv, hc2⟩
  have fp2 : ∀ {b : Addr} {H2 : Hp}, FpOk X pins H b → H2 b = none → FpOk X pins H2 b := fun f n => ⟨n, f.2⟩
  unfold ksk_rest
  refine wpAny_bind (wpAny_rule ?_)
  rw [List.forIn_toArray]
  refine wpAny_bind (ksk_fold (fun i s' => ∃ (H2 : Hp) (keys : Array Value) (e : Nat), L2.Inv X pins σ H2 s' ∧ Same H H2 ∧ FpOk X pins H2 a ∧ FpOk X pins H2 kS ∧ s'.heap.get? a = some (seqObj "list" #[] e1) ∧ s'.heap.get? kS = some (seqObj "list" keys e) ∧ keys.size = i) its 0 _ ?_ ?_ ?_)
  · exact ⟨H, #[], 0, I1, fun _ _ z => z, fa, fS, ha1, hS1, rfl⟩
  · rintro j x s' hx ⟨H2, keys, e, I2, s02, fa2, fS2, ha2, hS2, hks⟩
    obtain ⟨y, hy, ry⟩ : ∃ y, ys[j]? = some y ∧ RelV y x := by
      have hj := (List.getElem?_eq_some_iff.mp hx).1
      have hjy : j < ys.length := by rw [rv.length]; exact hj
      obtain ⟨u, hu, ru⟩ := Vals.get rv (List.getElem?_eq_getElem hjy)
      rw [hx] at hu
      cases hu
      exact ⟨_, List.getElem?_eq_getElem hjy, ru⟩
    have I2p : L2.Inv X (pins ++ [(a, seqObj "list" #[] e1), (kS, seqObj "list" keys e)]) σ H2 s' := I2.pins_of fun p hp => by
      rcases List.mem_append.mp hp with hp | hp
      · exact I2.pin p (List.mem_append_right _ hp)
      · rcases List.mem_cons.mp hp with rfl | hp
        · exact ⟨ha2, fa2.1, fa2.2.1, fa2.2.2.1, fun v z => by cases z⟩
        · rcases List.mem_cons.mp hp with rfl | hp
          · exact ⟨hS2, fS2.1, fS2.2.1, fS2.2.2.1, fun v z => by cases z⟩
          · cases hp
    refine wpAny_bind (wpAny_attempt (wpAny_mono (run_atK F sb hb I2p (.cons ry .nil) (hk y (List.mem_of_getElem? hy) H2 s02 (fun _ H3 => Same H2 H3) fun H3 _ s3 => s3)) (fun v s2 hv => ?_) fun _ _ z => z))
    obtain ⟨r, H3, I3, rr, s23⟩ := hv
    have pa := I3.pin (a, seqObj "list" #[] e1) (List.mem_append_right _ (List.mem_append_right _ (by simp)))
    have pS := I3.pin (kS, seqObj "list" keys e) (List.mem_append_right _ (List.mem_append_right _ (by simp)))
    have I3' := I3.unpinned
    try dsimp only
    refine wpAny_bind (listUpdate_at pS.1 rfl ?_ (by have hj := (List.getElem?_eq_some_iff.mp hx).1; omega) (by have hj := (List.getElem?_eq_some_iff.mp hx).1; rw [Array.size_push]; omega))
    have s1 := Heap.SameBut.update s2.heap kS (Obj.mapSeq (·.push v))
    obtain ⟨c2, hc2⟩ : ∃ c2, (s2.heap.update kS (Obj.mapSeq (·.push v))).get? kS = some (seqObj "list" (keys.push v) c2) := ⟨_, get?_update_seq pS.1 (·.push v)⟩
    refine wpAny_pure ⟨rfl, H3, keys.push v, c2, ?_, fun b o z => s23 b o (s02 b o z), fp2 fa pa.2.1, fp2 fS pS.2.1, (s1.2 a hka.symm).trans pa.1, hc2, by rw [Array.size_push, hks]⟩
    exact Inv.turnedL (ch := [kS]) (t' := s2.toks) I3' (fun b o hb e => (s1.2 b (by simpa using hb)).trans e) (fun b hb => by rw [List.mem_singleton.mp hb]; exact fp2 fS pS.2.1)
  · rintro s' ⟨H2, keys, e, I2, s02, fa2, fS2, ha2, hS2, hks⟩
    try dsimp only
    refine wpAny_bind (listItems_at hS2 rfl ?_)
    exact fin s' H2 keys e I2 s02 fa2 fS2 ha2 hS2 (by omega)
theorem cr_sortedK1 {X : Cx} (hcalm : X.calm = true) {k : Nat} {f : Addr} {fd : FuncData} {ps : List Str} {sp : Sp} (F : FnOk X.prog X.w X.K X.mg X.base CX0 k f fd ps sp) (hb : L2.Binds X.K fd ps []) (hr : Room (k + 2) X.A) :
    CallRK X (.builtin "sorted") [Str.ofString "key"] (fun vs zs H Q => ∃ (d : Addr) (kvs : List (Key × V)), vs = [.ref d] ∧ zs = [.ref f] ∧ Rd H d (.dK kvs) ∧ kvs.length < 2 ∧ (∀ kx ∈ kvs, KeyRuns sp H (kV kx.1)) ∧ ∀ H' T, Same H H' → H T = none → H' T = some (.lst (kvs.map fun kx => kV kx.1)) → Q (.ref T) H') := by
  intro pins s σ H xs zs us ws Q I r rz h
  obtain ⟨d, kvs, rfl, rfl, hd, hn, hk, q⟩ := h
  obtain ⟨u, rfl, rx⟩ := vals1 r
  obtain ⟨u2, rfl, rx2⟩ := vals1 rz
  cases rx
  cases rx2
  obtain ⟨z, lo, vs, rel, dd⟩ := dk_rd I.hok hd
  obtain ⟨ep, hat⟩ := dd.dictAt
  have ekk : (kvs.map fun kv => kV kv.1) = vs.map fun p => kV p.1 := by
    have e := congrArg (List.map kV) rel.keys
    rw [List.map_map, List.map_map] at e
    exact e
  have hl : vs.length = kvs.length := rel.length.symm
  refine call_function_entry_kw PyProof.Rows.kind_sorted PyProof.Rows.plain_sorted PyProof.Rows.entry_sorted (PyProof.Rows.ksk_s1 _ _) ?_
  unfold Builtin.«sorted»
  refine wpAny_bind (m := checkCount "sorted" 1 1 _) (wpAny_pure ?_)
  refine wpAny_bind (PySem.W.kdu_collect (A := X.A.in1) (PySem.W.kdl_dict (knd := mixKind X.prog X.w) (kvs := vs) (ep := ep) lo) (I.ok.hd hcalm) hat (by rw [hl]; exact z) fun h' tk acc hk' hacc => ?_)
  have hv : Vals (vs.map fun p => kV p.1) acc.toList := keys_at (by rw [Array.length_toList]; exact hacc.1) fun j v e => hacc.2 j v (by rw [← Array.getElem?_toList]; exact e)
  have hal : acc.toList.length < 2 := by rw [Array.length_toList, hacc.1, hl]; exact hn
  have I1 : L2.Inv X pins σ H { s with heap := h', toks := tk } := I.kept hk'
  refine wpAny_bind (wpAny_newList ?_ (by rw [sizeLine_eq]; omega))
  have hoL : (h'.push (seqObj "list" acc.toList.toArray 0)).get? h'.objs.size = some (seqObj "list" acc.toList.toArray 0) := Heap.get?_push_size _ rfl
  have I2 : L2.Inv X pins σ H { s with heap := h'.push (seqObj "list" acc.toList.toArray 0), toks := tk } := I1.kept fun b u e => Heap.get?_push_of_some _ e
  have fa : FpOk X pins H h'.objs.size := Inv.fpOk I1 (Nat.le_refl _) (I1.hok.fresh (Nat.le_refl _))
  show wpAny _ _ _ _ _ { s with heap := h'.push (seqObj "list" acc.toList.toArray 0), toks := tk }
  refine wpAny_bind (wpAny_holding (wpAny_call_entry_kw PyProof.Rows.slot_list_sort ⟨_, hoL, rfl⟩ PyProof.Rows.entry_list_sort ?_ (PyProof.Rows.ksk_l1 _ _)))
  show wpAny _ _ (Builtin.«list.sort» ⟨[.ref h'.objs.size], [(Str.ofString "key", .ref f)]⟩) _ _ _
  rw [ksk_t1]
  have sb : L2.Sub X k X.A.in1.in1 := L2.Sub.in1 (L2.Sub.in1 ⟨hr, rfl⟩)
  refine sk_tree F sb hb I2 fa hoL hv (by rw [List.length_map, hl]; exact hn) (fun y hy => ?_) fun H' s' sH hn' I3 => ⟨_, rfl, ?_⟩
  · rw [← ekk] at hy
    obtain ⟨kx, hkx, rfl⟩ := List.mem_map.mp hy
    exact hk kx hkx
  · refine wpAny_pure ⟨_, rfl, .ref h'.objs.size, upd H' h'.objs.size (.lst (vs.map fun p => kV p.1)), I3, rfl, q _ _ (fun b o e => ?_) fa.1 (by rw [ekk]; exact upd_same)⟩
    rw [upd_ne (fun z => by rw [z, fa.1] at e; cases e)]
    exact sH b o e
end L2


namespace Toy
open PySem PySem.Spec L2 PyProof.Rows PySem.W
/-! ### the names that terms tell of -/
structure BT (mg : Str → Option Value) : Prop where
  len : mg "len" = none
  isinstance : mg "isinstance" = none
  list : mg "list" = none
  tuple : mg "tuple" = none
  str : mg "str" = none
  int : mg "int" = none
  bool : mg "bool" = none
  range : mg "range" = none
  reversed : mg "reversed" = none
  enumerate : mg "enumerate" = none
  sorted : mg "sorted" = none
  max : mg "max" = none
  zip : mg "zip" = none
  repr : mg "repr" = none
abbrev NTo : List Str := ["terms", "told", "waiting", "term", "part", "_"]
theorem scTo : FnScope NTo ["terms"] (defScope sTo) := ⟨rfl, rfl, rfl, by decide +kernel, rfl, by decide +kernel, by decide +kernel⟩
def insK {α : Type} [DecidableEq α] (ks : List α) (k : α) : List α := if k ∈ ks then ks else ks ++ [k]
abbrev TB := List Str × List Int × List Int × List Str
def toldStep (t : Dt) (b : TB) : Option TB := match t with
  | .tup (.str w :: a) => if w = "field" then (match a with
      | .str k :: _ => some (insK b.1 k, b.2.1, b.2.2.1, b.2.2.2)
      | _ => none) else if w = "item" then (match a with
      | .int k :: _ => some (b.1, insK b.2.1 k, b.2.2.1, b.2.2.2)
      | _ => none) else if w = "equal" then (match a with
      | .int k :: _ => some (b.1, b.2.1, insK b.2.2.1 k, b.2.2.2)
      | .str k :: _ => some (b.1, b.2.1, b.2.2.1, insK b.2.2.2 k)
      | _ => none) else some b
  | _ => none
def okB (b : TB) : Bool := decide (b.1.length ≤ 500) && decide (b.2.1.length ≤ 500) && decide (b.2.2.1.length ≤ 500) && decide (b.2.2.2.length ≤ 500)
def toldW : Nat → List Dt → TB → Option TB
  | 0, _, _ => none
  | n + 1, ws, b => match ws.getLast? with
    | none => some b
    | some t => if (okd 300 t && (hasF "test" t || hasF "filter" t) && decide ((kpOf t).length ≤ 500) && decide (ws.length ≤ 500) && okB b && (kpOf t).all fun p => noq p.2) = true then (match toldStep t b with
      | some b' => toldW n (ws.dropLast ++ (kpOf t).map (·.2)) b'
      | none => none) else none
def dS (ks : List Str) : List (Key × V) := ks.map fun k => (Sum.inr k, .bl true)
def dI (ks : List Int) : List (Key × V) := ks.map fun k => (Sum.inl k, .bl true)
theorem putK_map {α : Type} [DecidableEq α] (g : α → Key) (hg : ∀ x y, g x = g y → x = y) (ks : List α) (k : α) : putK (ks.map fun k => (g k, V.bl true)) (g k) (.bl true) = (insK ks k).map fun k => (g k, V.bl true) := by
  unfold putK insK
  have e : ((ks.map fun k => (g k, V.bl true)).any fun kv => decide (kv.1 = g k)) = decide (k ∈ ks) := by
    rw [Bool.eq_iff_iff, List.any_eq_true, decide_eq_true_iff]
    constructor
    · rintro ⟨x, hx, he⟩
      obtain ⟨y, hy, rfl⟩ := List.mem_map.mp hx
      rw [← hg _ _ (of_decide_eq_true he)]
      exact hy
    · intro h
      exact ⟨_, List.mem_map.mpr ⟨k, h, rfl⟩, decide_eq_true rfl⟩
  rw [e]
  by_cases h : k ∈ ks
  · rw [decide_eq_true h, if_pos rfl, if_pos h, List.map_map]
    refine List.map_congr_left fun x hx => ?_
    show (if g x = g k then (g x, V.bl true) else (g x, V.bl true)) = _
    split <;> rfl
  · rw [decide_eq_false h, if_neg (by decide), if_neg h, List.map_append]
    rfl
theorem putS (ks : List Str) (k : Str) : putK (dS ks) (Sum.inr k) (.bl true) = dS (insK ks k) := putK_map (fun k => Sum.inr k) (fun x y h => by injection h) ks k
theorem putI (ks : List Int) (k : Int) : putK (dI ks) (Sum.inl k) (.bl true) = dI (insK ks k) := putK_map (fun k => Sum.inl k) (fun x y h => by injection h) ks k
def dTd (a1 a2 a3 a4 : Addr) : List (Key × V) := [(Sum.inr "field", .ref a1), (Sum.inr "item", .ref a2), (Sum.inr "number", .ref a3), (Sum.inr "text", .ref a4)]
structure TdAt (H : Hp) (Td a1 a2 a3 a4 : Addr) (b : TB) : Prop where
  h : H Td = some (.dK (dTd a1 a2 a3 a4))
  h1 : H a1 = some (.dK (dS b.1))
  h2 : H a2 = some (.dK (dI b.2.1))
  h3 : H a3 = some (.dK (dI b.2.2.1))
  h4 : H a4 = some (.dK (dS b.2.2.2))
  t1 : Td ≠ a1
  t2 : Td ≠ a2
  t3 : Td ≠ a3
  t4 : Td ≠ a4
  n12 : a1 ≠ a2
  n13 : a1 ≠ a3
  n14 : a1 ≠ a4
  n23 : a2 ≠ a3
  n24 : a2 ≠ a4
  n34 : a3 ≠ a4
theorem TdAt.but {H H' : Hp} {Td a1 a2 a3 a4 L : Addr} {b : TB} {xs : List V} (h : TdAt H Td a1 a2 a3 a4 b) (hL : H L = some (.lst xs)) (k : But L H H') : TdAt H' Td a1 a2 a3 a4 b := by
  have z : ∀ {c : Addr} {m : List (Key × V)}, H c = some (.dK m) → H' c = some (.dK m) := fun {c m} e => k _ _ (fun z => by rw [z, hL] at e; cases e) e
  exact ⟨z h.h, z h.h1, z h.h2, z h.h3, z h.h4, h.t1, h.t2, h.t3, h.t4, h.n12, h.n13, h.n14, h.n23, h.n24, h.n34⟩
theorem TdAt.same {H H' : Hp} {Td a1 a2 a3 a4 : Addr} {b : TB} (h : TdAt H Td a1 a2 a3 a4 b) (s : Same H H') : TdAt H' Td a1 a2 a3 a4 b := ⟨s _ _ h.h, s _ _ h.h1, s _ _ h.h2, s _ _ h.h3, s _ _ h.h4, h.t1, h.t2, h.t3, h.t4, h.n12, h.n13, h.n14, h.n23, h.n24, h.n34⟩
theorem TdAt.put1 {H : Hp} {Td a1 a2 a3 a4 : Addr} {b : TB} (h : TdAt H Td a1 a2 a3 a4 b) (k : Str) : TdAt (upd H a1 (.dK (putK (dS b.1) (Sum.inr k) (.bl true)))) Td a1 a2 a3 a4 (insK b.1 k, b.2.1, b.2.2.1, b.2.2.2) :=
  ⟨(upd_ne h.t1).trans h.h, by rw [putS]; exact upd_same, (upd_ne h.n12.symm).trans h.h2, (upd_ne h.n13.symm).trans h.h3, (upd_ne h.n14.symm).trans h.h4, h.t1, h.t2, h.t3, h.t4, h.n12, h.n13, h.n14, h.n23, h.n24, h.n34⟩
theorem TdAt.put2 {H : Hp} {Td a1 a2 a3 a4 : Addr} {b : TB} (h : TdAt H Td a1 a2 a3 a4 b) (k : Int) : TdAt (upd H a2 (.dK (putK (dI b.2.1) (Sum.inl k) (.bl true)))) Td a1 a2 a3 a4 (b.1, insK b.2.1 k, b.2.2.1, b.2.2.2) :=
  ⟨(upd_ne h.t2).trans h.h, (upd_ne h.n12).trans h.h1, by rw [putI]; exact upd_same, (upd_ne h.n23.symm).trans h.h3, (upd_ne h.n24.symm).trans h.h4, h.t1, h.t2, h.t3, h.t4, h.n12, h.n13, h.n14, h.n23, h.n24, h.n34⟩
theorem TdAt.put3 {H : Hp} {Td a1 a2 a3 a4 : Addr} {b : TB} (h : TdAt H Td a1 a2 a3 a4 b) (k : Int) : TdAt (upd H a3 (.dK (putK (dI b.2.2.1) (Sum.inl k) (.bl true)))) Td a1 a2 a3 a4 (b.1, b.2.1, insK b.2.2.1 k, b.2.2.2) :=
  ⟨(upd_ne h.t3).trans h.h, (upd_ne h.n13).trans h.h1, (upd_ne h.n23).trans h.h2, by rw [putI]; exact upd_same, (upd_ne h.n34.symm).trans h.h4, h.t1, h.t2, h.t3, h.t4, h.n12, h.n13, h.n14, h.n23, h.n24, h.n34⟩
theorem TdAt.put4 {H : Hp} {Td a1 a2 a3 a4 : Addr} {b : TB} (h : TdAt H Td a1 a2 a3 a4 b) (k : Str) : TdAt (upd H a4 (.dK (putK (dS b.2.2.2) (Sum.inr k) (.bl true)))) Td a1 a2 a3 a4 (b.1, b.2.1, b.2.2.1, insK b.2.2.2 k) :=
  ⟨(upd_ne h.t4).trans h.h, (upd_ne h.n14).trans h.h1, (upd_ne h.n24).trans h.h2, (upd_ne h.n34).trans h.h3, by rw [putS]; exact upd_same, h.t1, h.t2, h.t3, h.t4, h.n12, h.n13, h.n14, h.n23, h.n24, h.n34⟩
theorem none_of {H H' : Hp} {a : Addr} (s : Same H H') (n : H' a = none) : H a = none := by
  cases e : H a with
  | none => rfl
  | some o => rw [s _ _ e] at n; cases n
theorem small_d {n : Nat} (h : n ≤ 500) : n < sizeLine := by rw [sizeLine_eq]; omega
def spTo (K : PySem.W.Frag) : Sp := fun vs H Q _ => ∃ (v : V) (ts : List Dt) (b : TB), vs = [v] ∧ Pt K H v (.tup ts) ∧ toldW fuelC ts ([], [], [], []) = some b ∧ ∀ H' Td a1 a2 a3 a4, Same H H' → TdAt H' Td a1 a2 a3 a4 b → Q (.ref Td) H'
section
variable {P : Program} {w : World} {K : PySem.W.Frag} {mg : Str → Option Value} {base : Heap}
theorem ok_to {f fI fK : Addr} {fd dI' dK : FuncData} (F : Fun K "_told_by" "_told_by" sTo f fd) (L : BT mg) (DI : Dn P w K mg base CX0 1 "is_integer" ["value"] (spInt K) fI dI') (DK : Dn P w K mg base CX0 1 "kinds_and_parts" ["term"] (spKP K) fK dK) : FnOk P w K mg base CX0 2 f fd ["terms"] (spTo K) := by
  refine F.ok (k := 1) scTo (fun vs H Q E h => ?_) (fun cdv A outer s H vs Q E hr h => ?_)
  · obtain ⟨v, ts, b, rfl, _⟩ := h
    rfl
  · obtain ⟨v, ts, b, rfl, hv, hb, q⟩ := h
    have hu := hu_of hr
    refine ⟨_, pss_cons (ps_set (i := 1) scTo.nd rfl (Or.inl rfl) (pe_disp (pps_cons pe_str pe_dnewK (pps_cons pe_str pe_dnewK (pps_cons pe_str pe_dnewK (pps_cons pe_str pe_dnewK pps_nil)))) (by rfl) (by rfl) (fun z => by cases z) (by decide)))
      (pss_cons (ps_set (i := 2) scTo.nd rfl (Or.inl rfl) (pe_callTy call_list_of (by rfl) L.list (by decide +kernel) (pa_cons (pv 0) pa_nil)))
      (pss_cons (ps_while PassesOwn.never (pt_truth (pv 2) (by intro _; rfl)) (pss_cons (ps_set (i := 3) scTo.nd rfl (Or.inl rfl) (pe_bm0 PySem.F.plainAttrs_list PySem.F.slot_list_pop PySem.F.type_list_pop mt_pop (pv 2)))
      (pss_cons (ps_if (pt_cmpR op_in_seq (pe_ix ix_tup (pv 3) pe_int (fun _ _ => rfl)) (pe_tup (pa_cons pe_str (pa_cons pe_str pa_nil))) (by rfl)) (pss_one (ps_dput hu (pe_dget hu (pv 1) (pe_ix ix_tup (pv 3) pe_int (fun _ _ => rfl)) (fun _ _ => rfl)) (pe_ix ix_tup (pv 3) pe_int (fun _ _ => rfl)) pe_bl rfl)) (pss_one (ps_if (PW.pt (pw_and (pt_cmpR op_eq (pe_ix ix_tup (pv 3) pe_int (fun _ _ => rfl)) pe_str (nomark _)) (pw_and1 (pt_val (pe_call DI.G hr (by rfl) DI.m DI.k DI.b .nil pass0 (pa_cons (pe_ix ix_tup (pv 3) pe_int (fun _ _ => rfl)) pa_nil)))))) (pss_one (ps_dput hu (pe_dget hu (pv 1) pe_str (fun _ _ => rfl)) (pe_ix ix_tup (pv 3) pe_int (fun _ _ => rfl)) pe_bl rfl)) (pss_one (ps_if (PW.pt (pw_and (pt_cmpR op_eq (pe_ix ix_tup (pv 3) pe_int (fun _ _ => rfl)) pe_str (nomark _)) (pw_and1 (pt_val (pe_callB call_isi (by rfl) L.isinstance PyProof.Rows.boot_isinstance (pa_cons (pe_ix ix_tup (pv 3) pe_int (fun _ _ => rfl)) (pa_cons (pe_bltn (v := .ty "str") (by rfl) L.str (by decide +kernel) rfl) pa_nil))))))) (pss_one (ps_dput hu (pe_dget hu (pv 1) pe_str (fun _ _ => rfl)) (pe_ix ix_tup (pv 3) pe_int (fun _ _ => rfl)) pe_bl rfl)) pss_nil)))))
      (pss_one (ps_expr (pe_bm PySem.F.plainAttrs_list PySem.F.slot_list_extend PySem.F.type_list_extend mt_extend (pv 2) (pa_cons (pe_lc (own := [("part", 4), ("_", 5)]) (g := gTup K 2 (gCons (gName 5) (gCons (gName 4) gNil))) (te := tVar 4) (by rfl) scTo.nd (pi_list (pe_call DK.G hr (by rfl) DK.m DK.k DK.b .nil pass0 (pa_cons (pv 3) pa_nil)))
            (blkOk_by (own := [("part", 4), ("_", 5)]) (N := NTo) (sc := defScope sTo) (by decide +kernel)) (fun _ _ _ _ _ => by exact (pg_tup rfl (pgs_cons (by exact (pg_name (i := 5) scTo.nd rfl (Or.inl rfl))) (pgs_cons (by exact (pg_name (i := 4) scTo.nd rfl (Or.inl rfl))) pgs_nil)))) (fun _ _ _ _ _ => pts_nil)
            (fun _ _ _ _ _ => pv 4)) pa_nil)))))))
      (pss_one (ps_ret (pv 1))))), ?_⟩
    obtain ⟨va, vs0, rfl, hva, hvs0⟩ := hv.tup
    refine asg_run fun Td nT => fun a1 n1 => fun a2 n2 => fun a3 n3 => fun a4 n4 => ?_
    have s1 := same_new (u := .dK []) (same_id (H := H)) nT
    have s2 := same_new (u := .dK []) (same_id (H := upd H Td (.dK []))) n1
    have s3 := same_new (u := .dK []) (same_id (H := upd (upd H Td (.dK [])) a1 (.dK []))) n2
    have s4 := same_new (u := .dK []) (same_id (H := upd (upd (upd H Td (.dK [])) a1 (.dK [])) a2 (.dK []))) n3
    have s5 := same_new (u := .dK []) (same_id (H := upd (upd (upd (upd H Td (.dK [])) a1 (.dK [])) a2 (.dK [])) a3 (.dK []))) n4
    have e1 : (upd H Td (.dK [])) Td = some (.dK []) := upd_same
    have e2 : (upd (upd H Td (.dK [])) a1 (.dK [])) a1 = some (.dK []) := upd_same
    have e3 : (upd (upd (upd H Td (.dK [])) a1 (.dK [])) a2 (.dK [])) a2 = some (.dK []) := upd_same
    have e4 : (upd (upd (upd (upd H Td (.dK [])) a1 (.dK [])) a2 (.dK [])) a3 (.dK [])) a3 = some (.dK []) := upd_same
    have e5 : (upd (upd (upd (upd (upd H Td (.dK [])) a1 (.dK [])) a2 (.dK [])) a3 (.dK [])) a4 (.dK [])) a4 = some (.dK []) := upd_same
    generalize upd (upd (upd (upd (upd H Td (.dK [])) a1 (.dK [])) a2 (.dK [])) a3 (.dK [])) a4 (.dK []) = H5 at *
    generalize upd (upd (upd (upd H Td (.dK [])) a1 (.dK [])) a2 (.dK [])) a3 (.dK []) = H4 at *
    generalize upd (upd (upd H Td (.dK [])) a1 (.dK [])) a2 (.dK []) = H3 at *
    generalize upd (upd H Td (.dK [])) a1 (.dK []) = H2 at *
    generalize upd H Td (.dK []) = H1 at *
    have t1 : Td ≠ a1 := ne_of_none e1 n1
    have t2 : Td ≠ a2 := ne_of_none (s2 _ _ e1) n2
    have t3 : Td ≠ a3 := ne_of_none (s3 _ _ (s2 _ _ e1)) n3
    have t4 : Td ≠ a4 := ne_of_none (s4 _ _ (s3 _ _ (s2 _ _ e1))) n4
    have n12 : a1 ≠ a2 := ne_of_none e2 n2
    have n13 : a1 ≠ a3 := ne_of_none (s3 _ _ e2) n3
    have n14 : a1 ≠ a4 := ne_of_none (s4 _ _ (s3 _ _ e2)) n4
    have n23 : a2 ≠ a3 := ne_of_none e3 n3
    have n24 : a2 ≠ a4 := ne_of_none (s4 _ _ e3) n4
    have n34 : a3 ≠ a4 := ne_of_none e4 n4
    have s05 := s1.trans (s2.trans (s3.trans (s4.trans s5)))
    refine ⟨s5 _ _ (s4 _ _ (s3 _ _ (s2 _ _ e1))), dTd a1 a2 a3 a4, rfl, by show 4 ≤ 15; decide, ?_⟩
    have em : mergeK [] (dTd a1 a2 a3 a4) = dTd a1 a2 a3 a4 := rfl
    rw [em]
    have sT : Same H (upd H5 Td (.dK (dTd a1 a2 a3 a4))) := fun b o z => by
      rw [upd_ne (ne_of_none z nT)]
      exact s05 _ _ z
    have T6 : TdAt (upd H5 Td (.dK (dTd a1 a2 a3 a4))) Td a1 a2 a3 a4 ([], [], [], []) := ⟨upd_same, (upd_ne t1.symm).trans (s5 _ _ (s4 _ _ (s3 _ _ e2))), (upd_ne t2.symm).trans (s5 _ _ (s4 _ _ e3)), (upd_ne t3.symm).trans (s5 _ _ e4), (upd_ne t4.symm).trans e5, t1, t2, t3, t4, n12, n13, n14, n23, n24, n34⟩
    generalize upd H5 Td (.dK (dTd a1 a2 a3 a4)) = H6 at sT T6 ⊢
    have m1 : H a1 = none := none_of s1 n1
    have m2 : H a2 = none := none_of (s1.trans s2) n2
    have m3 : H a3 = none := none_of (s1.trans (s2.trans s3)) n3
    have m4 : H a4 = none := none_of (s1.trans (s2.trans (s3.trans s4))) n4
    clear e1 e2 e3 e4 e5 s1 s2 s3 s4 s5 s05 n1 n2 n3 n4 H1 H2 H3 H4 H5
    dsimp only
    refine asg_run ⟨_, rfl, va, vs0, rfl, .inr (same_seqT sT hva), fun L nL => ?_⟩
    have nL0 : H L = none := none_of sT nL
    have sL := same_new (u := .lst vs0) sT nL
    have TL := T6.same (same_new (u := .lst vs0) same_id nL)
    have hL : (upd H6 L (.lst vs0)) L = some (.lst vs0) := upd_same
    generalize upd H6 L (.lst vs0) = H7 at sL TL hL ⊢
    refine seq_postS (fun σ' H' => ∃ o2 o3 o4 o5 : Option V, σ' = [some (.ref va), some (.ref Td), o2, o3, o4, o5] ∧ Same H H' ∧ TdAt H' Td a1 a2 a3 a4 b) (fun rr kk => ?_) (fun σ' H8 hh => ?_)
    · refine ⟨fun m σ' H' => ∃ (o3 o4 o5 : Option V) (xs : List V) (ws : List Dt) (b' : TB), σ' = [some (.ref va), some (.ref Td), some (.ref L), o3, o4, o5] ∧ H' L = some (.lst xs) ∧ PtL K H xs ws ∧ TdAt H' Td a1 a2 a3 a4 b' ∧ Same H H' ∧ toldW m ws b' = some b, ⟨fuelC, _, _, _, vs0, ts, ([], [], [], []), rfl, hL, hvs0, TL, sL, hb⟩, ?_⟩
      rintro m σ' H1 ⟨o3, o4, o5, xs, ws, b', rfl, hL, hxs, hT, s1, hm⟩
      refine ⟨_, rfl, _, .inl ⟨xs, SqL.of hL, rfl⟩, ?_⟩
      cases m with
      | zero => cases hm
      | succ m =>
      unfold toldW at hm
      cases hl : ws.getLast? with
      | none =>
        rw [hl] at hm
        have : ws = [] := List.getLast?_eq_none_iff.mp hl
        subst this
        obtain rfl := hxs.nil
        cases hm
        exact iteF (kk _ _ ⟨_, _, _, _, rfl, s1, hT⟩)
      | some tt =>
      rw [hl] at hm
      dsimp only at hm
      have hcond : (okd 300 tt && (hasF "test" tt || hasF "filter" tt) && decide ((kpOf tt).length ≤ 500) && decide (ws.length ≤ 500) && okB b' && (kpOf tt).all fun p => noq p.2) = true := by
        split at hm
        · assumption
        · cases hm
      rw [if_pos hcond] at hm
      obtain ⟨b2, hb2⟩ : ∃ b2, toldStep tt b' = some b2 := by
        cases hx : toldStep tt b' with
        | none => rw [hx] at hm; cases hm
        | some b2 => exact ⟨b2, rfl⟩
      rw [hb2] at hm
      dsimp only at hm
      unfold okB at hcond
      rw [Bool.and_eq_true, Bool.and_eq_true, Bool.and_eq_true, Bool.and_eq_true, Bool.and_eq_true, Bool.and_eq_true, Bool.and_eq_true, Bool.and_eq_true, decide_eq_true_eq, decide_eq_true_eq, decide_eq_true_eq, decide_eq_true_eq, decide_eq_true_eq, decide_eq_true_eq, Bool.or_eq_true, List.all_eq_true] at hcond
      obtain ⟨⟨⟨⟨⟨hok, hhf⟩, hkl⟩, hwl⟩, ⟨⟨hb1, hbb2⟩, hb3⟩, hb4⟩, hnq⟩ := hcond
      obtain ⟨ini, rfl⟩ : ∃ ini, ws = ini ++ [tt] := by
        obtain ⟨ini, h⟩ := List.getLast?_eq_some_iff.mp hl
        exact ⟨ini, h⟩
      rw [List.dropLast_concat] at hm
      obtain ⟨xi, x, rfl, hxi, hx⟩ := ptl_last hxs
      have hform : ∃ wd a, tt = .tup (.str wd :: a) := by
        unfold toldStep at hb2
        split at hb2
        · exact ⟨_, _, rfl⟩
        · cases hb2
      obtain ⟨wd, a, rfl⟩ := hform
      have hx0 := hx
      obtain ⟨xa, xv, rfl, hxa, hxv⟩ := hx.tup
      obtain ⟨w0, av, rfl, hw0, hav⟩ := hxv.cons
      obtain rfl := hw0.str
      have et : (!(xi ++ [V.ref xa]).isEmpty) = true := by
        cases xi <;> rfl
      rw [et]
      refine iteT ⟨fun σ' H' => ∃ (o3 o4 o5 : Option V) (xs : List V) (ws : List Dt) (b' : TB), σ' = [some (.ref va), some (.ref Td), some (.ref L), o3, o4, o5] ∧ H' L = some (.lst xs) ∧ PtL K H xs ws ∧ TdAt H' Td a1 a2 a3 a4 b' ∧ Same H H' ∧ toldW m ws b' = some b, fun _ _ h => ⟨m, Nat.lt_succ_self m, h⟩, ?_⟩
      refine asg_run ⟨_, rfl, .inl ⟨rfl, _, SqL.of hL⟩, L, _, .ref xa, rfl, rfl, hL, by simp, ?_⟩
      rw [List.dropLast_concat]
      have hT := hT.but (H' := upd H1 L (.lst xi)) hL but_put
      have s2 : Same H (upd H1 L (.lst xi)) := fun b o ho => by rw [upd_ne (ne_of_none ho nL0)]; exact s1 _ _ ho
      have hL2 : (upd H1 L (.lst xi)) L = some (.lst xi) := upd_same
      generalize upd H1 L (.lst xi) = H2 at hT s2 hL2 ⊢
      dsimp only
      -- what is told of one term
      refine seq_postS (fun σ' H' => σ' = [some (.ref va), some (.ref Td), some (.ref L), some (.ref xa), o4, o5] ∧ H' L = some (.lst xi) ∧ TdAt H' Td a1 a2 a3 a4 b2 ∧ Same H H') (fun rr k2 => ?_) (fun σ' H3 hh => ?_)
      · have e2 : (if false = true then !inV (V.str wd) [V.str "field", V.str "item"] else inV (V.str wd) [V.str "field", V.str "item"]) = decide (wd = "field" ∨ wd = "item") := by
          rw [if_neg (by decide), show ([V.str "field", V.str "item"] : List V) = (["field", "item"] : List Str).map V.str from rfl, inV_strs]
          simp
        refine ⟨_, rfl, xa, _, 0, _, rfl, rfl, same_seqT s2 hxa, at_0 _ _, few (by show 2 ≤ 1000; decide), fun A nA => ?_⟩
        have sA := same_new (u := .tup [.str "field", .str "item"]) (same_id (H := H2)) nA
        refine ⟨A, _, rfl, .inr (SqT.of upd_same), rfl, rfl, _, rfl, ?_⟩
        rw [e2]
        have hT := hT.same sA
        have s3 := s2.trans sA
        have hL3 := sA _ _ hL2
        generalize upd H2 A _ = H3 at hT s3 hL3 ⊢
        have hxa3 := same_seqT s3 hxa
        unfold toldStep at hb2
        dsimp only at hb2
        by_cases c1 : wd = "field"
        · rw [if_pos c1] at hb2
          rw [decide_eq_true (.inl c1 : wd = "field" ∨ wd = "item")]
          cases a with
          | nil => cases hb2
          | cons t1 ar =>
            obtain ⟨v1, av1, rfl, hv1, _⟩ := hav.cons
            cases t1 with
            | str k =>
              obtain rfl := hv1.str
              obtain rfl := Option.some.inj hb2
              have hg : DGet H3 Td (.str wd) (some (.ref a1)) := by
                rw [c1]
                exact DGet.k (k := Sum.inr "field") hT.h
              refine iteT ⟨_, rfl, _, rfl, xa, _, 0, _, rfl, rfl, hxa3, at_0 _ _, Td, .ref a1, rfl, hg, _, rfl, xa, _, 1, _, rfl, rfl, hxa3, atI_nat (j := 1) rfl, a1, _, rfl, DPut.k (k := Sum.inr k) hT.h1 (by unfold dS; rw [List.length_map]; exact small_d hb1), ?_⟩
              exact k2 _ _ ⟨rfl, (upd_ne (ne_of hL3 hT.h1 (by intro z; cases z))).trans hL3, hT.put1 k, same_put s3 m1⟩
            | _ => cases hb2
        rw [if_neg c1] at hb2
        by_cases c2 : wd = "item"
        · rw [if_pos c2] at hb2
          rw [decide_eq_true (.inr c2 : wd = "field" ∨ wd = "item")]
          cases a with
          | nil => cases hb2
          | cons t1 ar =>
            obtain ⟨v1, av1, rfl, hv1, _⟩ := hav.cons
            cases t1 with
            | int k =>
              obtain rfl := hv1.int
              obtain rfl := Option.some.inj hb2
              have hg : DGet H3 Td (.str wd) (some (.ref a2)) := by
                rw [c2]
                exact DGet.k (k := Sum.inr "item") hT.h
              refine iteT ⟨_, rfl, _, rfl, xa, _, 0, _, rfl, rfl, hxa3, at_0 _ _, Td, .ref a2, rfl, hg, _, rfl, xa, _, 1, _, rfl, rfl, hxa3, atI_nat (j := 1) rfl, a2, _, rfl, DPut.k (k := Sum.inl k) hT.h2 (by unfold dI; rw [List.length_map]; exact small_d hbb2), ?_⟩
              exact k2 _ _ ⟨rfl, (upd_ne (ne_of hL3 hT.h2 (by intro z; cases z))).trans hL3, hT.put2 k, same_put s3 m2⟩
            | _ => cases hb2
        rw [if_neg c2] at hb2
        rw [decide_eq_false (fun z => z.elim c1 c2 : ¬ (wd = "field" ∨ wd = "item"))]
        refine iteF ?_
        by_cases c3 : wd = "equal"
        · rw [if_pos c3] at hb2
          have d3 : decide (wd = "equal") = true := decide_eq_true c3
          cases a with
          | nil => cases hb2
          | cons t1 ar =>
            obtain ⟨v1, av1, rfl, hv1, _⟩ := hav.cons
            cases t1 with
            | int k =>
              obtain rfl := hv1.int
              obtain rfl := Option.some.inj hb2
              refine ⟨_, rfl, xa, _, 0, _, rfl, rfl, hxa3, at_0 _ _, rfl, _, rfl, ?_⟩
              rw [dec_s, d3]
              refine iteT ⟨_, rfl, xa, _, 1, _, rfl, rfl, hxa3, atI_nat (j := 1) rfl, .int k, .int k, rfl, pt_int k, _, rfl, iteT ?_⟩
              refine ⟨_, rfl, Td, .ref a3, rfl, DGet.k (k := Sum.inr "number") hT.h, _, rfl, xa, _, 1, _, rfl, rfl, hxa3, atI_nat (j := 1) rfl, a3, _, rfl, DPut.k (k := Sum.inl k) hT.h3 (by unfold dI; rw [List.length_map]; exact small_d hb3), ?_⟩
              exact k2 _ _ ⟨rfl, (upd_ne (ne_of hL3 hT.h3 (by intro z; cases z))).trans hL3, hT.put3 k, same_put s3 m3⟩
            | str k =>
              obtain rfl := hv1.str
              obtain rfl := Option.some.inj hb2
              refine ⟨_, rfl, xa, _, 0, _, rfl, rfl, hxa3, at_0 _ _, rfl, _, rfl, ?_⟩
              rw [dec_s, d3]
              refine iteT ⟨_, rfl, xa, _, 1, _, rfl, rfl, hxa3, atI_nat (j := 1) rfl, .str k, .str k, rfl, pt_str k, _, rfl, iteF ?_⟩
              refine ⟨_, rfl, xa, _, 0, _, rfl, rfl, hxa3, at_0 _ _, rfl, _, rfl, ?_⟩
              rw [dec_s, d3]
              refine iteT ⟨_, rfl, xa, _, 1, _, rfl, rfl, hxa3, atI_nat (j := 1) rfl, isS (.str k) ⟨_, rfl, iteT ?_⟩⟩
              refine ⟨_, rfl, Td, .ref a4, rfl, DGet.k (k := Sum.inr "text") hT.h, _, rfl, xa, _, 1, _, rfl, rfl, hxa3, atI_nat (j := 1) rfl, a4, _, rfl, DPut.k (k := Sum.inr k) hT.h4 (by unfold dS; rw [List.length_map]; exact small_d hb4), ?_⟩
              exact k2 _ _ ⟨rfl, (upd_ne (ne_of hL3 hT.h4 (by intro z; cases z))).trans hL3, hT.put4 k, same_put s3 m4⟩
            | _ => cases hb2
        · rw [if_neg c3] at hb2
          obtain rfl := Option.some.inj hb2
          have d3 : decide (wd = "equal") = false := decide_eq_false c3
          refine ⟨_, rfl, xa, _, 0, _, rfl, rfl, hxa3, at_0 _ _, rfl, _, rfl, ?_⟩
          rw [dec_s, d3]
          refine iteF (iteF ?_)
          refine ⟨_, rfl, xa, _, 0, _, rfl, rfl, hxa3, at_0 _ _, rfl, _, rfl, ?_⟩
          rw [dec_s, d3]
          exact iteF (iteF (k2 _ _ ⟨rfl, hL3, hT, s3⟩))
      · obtain ⟨rfl, hL3, hT, s3⟩ := hh
        obtain ⟨kd, hkd⟩ : ∃ k, hasF k (.tup (.str wd :: a)) = true := by
          rcases hhf with h | h
          · exact ⟨_, h⟩
          · exact ⟨_, h⟩
        refine ⟨_, rfl, .inl ⟨rfl, _, SqL.of hL3⟩, _, rfl, .ref xa, Dt.tup (.str wd :: a), kd, H, rfl, s3, hx0.1, hok, hkd, fun H4 Lk qs s4 nLk hLk hqs hq12 => ⟨Lk, rfl, ⟨_, SqL.of hLk⟩, fun D nD => ?_⟩⟩
        generalize hKP : kpOf (.tup (.str wd :: a)) = KP at *
        have lqs := Paired.length hqs
        have hL4 := s4 _ _ hL3
        have s04 := s3.trans s4
        have hDL : D ≠ L := fun z => by rw [z, hL4] at nD; cases nD
        refine lc_list (K := K) (a := Lk) (xs := qs.map V.ref) (fun j H' => ∃ vs : List V, Same H4 H' ∧ H' D = some (.lst vs) ∧ PtL K H vs ((KP.take j).map (·.2))) ⟨[], same_new same_id nD, upd_same, ptl_nil⟩ (fun j H' _ h => by obtain ⟨_, z, _⟩ := h; exact SqL.of (z _ _ hLk)) ?_ ?_
        · rintro j z H' hz ⟨vs, s7, hD, hvs⟩
          rw [List.getElem?_map] at hz
          cases hqj : qs[j]? with
          | none => rw [hqj] at hz; cases hz
          | some qj =>
            rw [hqj] at hz
            cases hz
            have hjl : j < KP.length := by rw [← lqs]; exact (List.getElem?_eq_some_iff.mp hqj).1
            obtain ⟨q2, hq2, bv, hbv, hdb⟩ := paired_get hqs (List.getElem?_eq_getElem hjl)
            rw [hqj] at hq2
            cases hq2
            refine ⟨qj, _, rfl, SqT.of (s7 _ _ hbv), rfl, _, _, rfl, _, _, rfl, rfl, rfl, _, rfl, vs, hD, ?_, vs ++ [bv], ?_, upd_same, ?_⟩
            · rw [hvs.len, List.length_map, List.length_take, sizeLine_eq]
              omega
            · exact fun b' o ho => (upd_ne (ne_of_none ho nD)).trans (s7 _ _ ho)
            · rw [List.take_add_one, List.getElem?_eq_getElem hjl, List.map_append]
              exact hvs.app (ptl_cons ⟨hdb, hnq _ (List.getElem_mem hjl)⟩ ptl_nil)
        · rintro H5 ⟨vs, s5, hD, hvs⟩
          rw [List.length_map, lqs, List.take_length] at hvs
          have hL5 := s5 _ _ hL4
          refine ⟨L, D, xi, vs, rfl, rfl, hL5, hD, ?_, ?_⟩
          · rw [hxi.len, hvs.len, List.length_map, sizeLine_eq]
            rw [List.length_append, List.length_singleton] at hwl
            omega
          · refine ⟨_, _, _, xi ++ vs, ini ++ KP.map (·.2), b2, rfl, upd_same, hxi.app hvs, ?_, same_put (s04.trans s5) nL0, hm⟩
            exact (hT.same (s4.trans s5)).but hL5 but_put
    · obtain ⟨o2, o3, o4, o5, rfl, s8, hT⟩ := hh
      exact ret_run ⟨_, rfl, q _ _ _ _ _ _ s8 hT⟩
end
end Toy


namespace Toy
open PySem PySem.Spec L2 PyProof.Rows PySem.W
/-! ### names between, keys of leaves -/
theorem scNx : FnScope ["name", "kept"] ["name"] (defScope sNx) := ⟨rfl, rfl, rfl, by decide +kernel, rfl, by decide +kernel, by decide +kernel⟩
abbrev NNb : List Str := ["low", "high", "found", "name"]
theorem scNb : FnScope NNb ["low", "high"] (defScope sNb) := ⟨rfl, rfl, rfl, by decide +kernel, rfl, by decide +kernel, by decide +kernel⟩
abbrev NOk : List Str := ["datum", "sort", "place", "inner", "many"]
theorem scOk : FnScope NOk ["datum"] (defScope sOk) := ⟨rfl, rfl, rfl, by decide +kernel, rfl, by decide +kernel, by decide +kernel⟩
def spNx : Sp := fun vs H Q _ => ∃ x : Str, vs = [.str x] ∧ x.length < 8 ∧ Q (.str (x ++ "a")) H
def spNb (K : PySem.W.Frag) : Sp := fun vs H Q _ => ∃ (x : Str) (hv : V), vs = [.str x, hv] ∧ x.length ≤ 5 ∧ (hv = .non ∨ ∃ h : Str, hv = .str h) ∧ ∀ H' v, Same H H' → Q v H'
def spOk : Sp := fun vs H Q _ => ∃ v : V, vs = [v] ∧ ((∃ i, v = .int i) ∨ ∃ x : Str, v = .str x ∧ x.length ≤ 1000) ∧ ∀ H' r, Same H H' → Q r H'
theorem len_a (x : Str) : (x ++ ("a" : Str)).length = x.length + 1 := by
  show (x.cps ++ _).size = _
  rw [Array.size_append]
  rfl
section
variable {P : Program} {w : World} {K : PySem.W.Frag} {mg : Str → Option Value} {base : Heap}
theorem ok_nx {f : Addr} {fd : FuncData} {u8 : Value} (F : Fun K "_next_name" "_next_name" sNx f fd) (L : BT mg) (m8 : mg "MOST_LETTERS" = some u8) (r8 : RelV (.int 8) u8) : FnOk P w K mg base CX0 1 f fd ["name"] spNx := by
  refine F.ok (k := 0) scNx (fun vs H Q E h => ?_) (fun cdv A outer s H vs Q E hr h => ?_)
  · obtain ⟨x, rfl, _⟩ := h
    rfl
  · obtain ⟨x, rfl, hx, q⟩ := h
    refine ⟨_, pss_cons (ps_if (pt_cmpR op_lt (pe_callB call_len_str (by rfl) L.len PySem.boot_len (pa_cons (pv 0) pa_nil)) (pe_glob (v := .int 8) (by rfl) m8 r8) (nomark _)) (pss_one (ps_ret (pe_op op_add_str (pv 0) pe_str))) pss_nil)
      pss_nv, ?_⟩
    refine ⟨_, rfl, x, rfl, few (by omega), _, _, rfl, rfl, _, rfl, ?_⟩
    rw [decide_eq_true (show (x.length : Int) < 8 by omega)]
    exact iteT (ret_run ⟨_, rfl, x, _, rfl, rfl, by rw [sizeLine_eq]; show x.length + 1 ≤ _; omega, q⟩)
theorem ok_nb {f fX : Addr} {fd dX : FuncData} {u2 : Value} (F : Fun K "_names_between" "_names_between" sNb f fd) (L : BT mg) (m2 : mg "MOST_IN_GAP" = some u2) (r2 : RelV (.int 2) u2) (DX : Dn P w K mg base CX0 1 "_next_name" ["name"] spNx fX dX) : FnOk P w K mg base CX0 2 f fd ["low", "high"] (spNb K) := by
  refine F.ok (k := 1) scNb (fun vs H Q E h => ?_) (fun cdv A outer s H vs Q E hr h => ?_)
  · obtain ⟨x, hv, rfl, _⟩ := h
    rfl
  · obtain ⟨x, hv, rfl, hx, hh, q⟩ := h
    refine ⟨_, pss_cons (ps_set (i := 2) scNb.nd rfl (Or.inl rfl) (pe_lst pa_nil))
      (pss_cons (ps_set (i := 3) scNb.nd rfl (Or.inl rfl) (pe_call DX.G hr (by rfl) DX.m DX.k DX.b .nil pass0 (pa_cons (pv 0) pa_nil)))
      (pss_cons (ps_while PassesOwn.never (PW.pt (pw_and (pt_truth (pv 3) (by intro _; rfl)) (pw_and (pt_cmpR op_lt (pe_callB call_len_seq (by rfl) L.len PySem.boot_len (pa_cons (pv 2) pa_nil)) (pe_glob (v := .int 2) (by rfl) m2 r2) (nomark _)) (pw_and1 (PW.pt (pw_or (pt_cmpR op_isN (pv 1) pe_non (nomark _)) (pw_or1 (pt_cmpR op_lt_str (pv 3) (pv 1) (nomark _))))))))) (pss_cons (ps_expr (pe_bm PySem.F.plainAttrs_list PySem.F.slot_list_append PySem.F.type_list_append mt_append (pv 2) (pa_cons (pv 3) pa_nil)))
      (pss_one (ps_set (i := 3) scNb.nd rfl (Or.inl rfl) (pe_call DX.G hr (by rfl) DX.m DX.k DX.b .nil pass0 (pa_cons (pv 3) pa_nil))))))
      (pss_one (ps_ret (pe_callTy call_tuple_of (by rfl) L.tuple (by decide +kernel) (pa_cons (pv 2) pa_nil)))))), ?_⟩
    refine asg_run ⟨Nat.zero_le _, fun Lf nL => ?_⟩
    have sL := same_new (u := .lst []) (same_id (H := H)) nL
    have hL : (upd H Lf (.lst [])) Lf = some (.lst []) := upd_same
    generalize upd H Lf (.lst []) = H1 at sL hL ⊢
    dsimp only
    refine asg_run ⟨_, rfl, x, rfl, by omega, ?_⟩
    dsimp only
    refine seq_postS (fun σ' H' => ∃ (o3 : Option V) (xs : List V), σ' = [some (.str x), some hv, some (.ref Lf), o3] ∧ H' Lf = some (.lst xs) ∧ Same H H') (fun rr kk => ?_) (fun σ' H2 h2 => ?_)
    · refine ⟨fun m σ' H' => ∃ (xs : List V) (y : Str), σ' = [some (.str x), some hv, some (.ref Lf), some (.str y)] ∧ H' Lf = some (.lst xs) ∧ Same H H' ∧ m + xs.length = 2 ∧ y.length ≤ 6 + xs.length, ⟨2, [], x ++ "a", rfl, hL, sL, rfl, by rw [len_a]; show x.length + 1 ≤ 6 + 0; omega⟩, ?_⟩
      rintro m σ' H2 ⟨xs, y, rfl, hL2, s2, hm, hy⟩
      have ex : rr _ [some (.str x), some hv, some (.ref Lf), some (.str y)] H2 := kk _ _ ⟨_, xs, rfl, hL2, s2⟩
      refine ⟨_, rfl, _, ⟨few (by omega), rfl⟩, ite2 (fun _ => ?_) (fun _ => iteF ex)⟩
      refine ⟨_, rfl, Lf, xs, rfl, .inl (SqL.of hL2), _, _, rfl, rfl, _, rfl, ite2 (fun c2 => ?_) (fun _ => iteF ex)⟩
      have hx2 : xs.length < 2 := by have := of_decide_eq_true c2; omega
      have body : ∃ N : L2.St → Hp → Prop, (∀ σ' H', N σ' H' → ∃ m', m' < m ∧ ∃ (xs : List V) (y : Str), σ' = [some (.str x), some hv, some (.ref Lf), some (.str y)] ∧ H' Lf = some (.lst xs) ∧ Same H H' ∧ m' + xs.length = 2 ∧ y.length ≤ 6 + xs.length) ∧ tSeq (tDrop (tBM K "list" rAppend (tVar 2) (tCons (tVar 3) tNil))) (tAsg (tCall spNx [] E0 (tCons (tVar 3) tNil)) (gName 3)) { nx := N, rt := Q, bk := rr { nx := fun x H' => Q V.non H', rt := Q }, ct := N } [some (.str x), some hv, some (.ref Lf), some (.str y)] H2 := by
        refine ⟨fun σ' H' => ∃ (xs : List V) (y : Str), σ' = [some (.str x), some hv, some (.ref Lf), some (.str y)] ∧ H' Lf = some (.lst xs) ∧ Same H H' ∧ (m - 1) + xs.length = 2 ∧ y.length ≤ 6 + xs.length, fun _ _ h => ⟨m - 1, by omega, h⟩, ?_⟩
        refine ⟨_, rfl, .inl ⟨rfl, _, SqL.of hL2⟩, _, rfl, Lf, xs, .str y, rfl, rfl, hL2, by rw [sizeLine_eq]; omega, ?_⟩
        refine ⟨_, rfl, y, rfl, by omega, ?_⟩
        refine ⟨xs ++ [.str y], y ++ "a", rfl, upd_same, same_put s2 (nL), ?_, ?_⟩
        · rw [List.length_append, List.length_singleton]
          omega
        · rw [len_a, List.length_append, List.length_singleton]
          omega
      rcases hh with rfl | ⟨hs, rfl⟩
      · exact ⟨_, rfl, rfl, _, rfl, iteT (iteT body)⟩
      · exact ⟨_, rfl, rfl, _, rfl, iteF ⟨_, rfl, _, rfl, y, hs, rfl, rfl, _, rfl, ite2 (fun _ => body) (fun _ => ex)⟩⟩
    · obtain ⟨o3, xs, rfl, hL2, s2⟩ := h2
      exact ret_run ⟨_, rfl, Lf, xs, rfl, .inl ⟨SqL.of hL2, fun T nT => q _ _ (s2.trans (same_new same_id nT))⟩⟩
theorem ok_ok {f fS aS : Addr} {fd dS : FuncData} (F : Fun K "order_key" "order_key" sOk f fd) (L : BT mg) (mS : mg "SORTS" = some (.ref aS)) (SK : TupK K aS sorts7) (SD : ∃ o, K.lookup aS = some o ∧ o.cls = .type "tuple" ∧ o.dict = none) (DS : Dn P w K mg base CX0 1 "sort_of" ["datum"] (spSo K) fS dS) : FnOk P w K mg base CX0 2 f fd ["datum"] spOk := by
  refine F.ok (k := 1) scOk (fun vs H Q E h => ?_) (fun cdv A outer s H vs Q E hr h => ?_)
  · obtain ⟨v, rfl, _⟩ := h
    rfl
  · obtain ⟨v, rfl, hv, q⟩ := h
    refine ⟨_, pss_cons (ps_set (i := 1) scOk.nd rfl (Or.inl rfl) (pe_call DS.G hr (by rfl) DS.m DS.k DS.b .nil pass0 (pa_cons (pv 0) pa_nil)))
      (pss_cons (ps_set (i := 2) scOk.nd rfl (Or.inl rfl) (pe_bm PySem.F.plainAttrs_tuple PySem.F.slot_tuple_index PySem.F.type_tuple_index mt_tup_index (pe_glob (v := .ref aS) (by rfl) mS rfl) (pa_cons (pv 1) pa_nil)))
      (pss_cons (ps_if (pt_cmpR op_eq (pv 1) pe_str (nomark _)) (pss_one (ps_ret (pe_tup (pa_cons pe_int (pa_cons (pv 2) (pa_cons (pe_ifExp (pt_cmpR op_gt (pv 0) pe_int (nomark _)) (pe_op op_sub (pe_op op_mul pe_int (pv 0)) pe_int) (pe_op op_mul (pe_un un_neg pe_int) (pv 0))) pa_nil)))))) pss_nil)
      (pss_cons (ps_if (pt_cmpR op_eq (pv 1) pe_str (nomark _)) (pss_one (ps_ret (pe_tup (pa_cons pe_int (pa_cons (pv 2) (pa_cons (pe_callB call_len_str (by rfl) L.len PySem.boot_len (pa_cons (pv 0) pa_nil)) (pa_cons (pv 0) pa_nil))))))) pss_nil)
      pss_nv))), ?_⟩
    have hidx : ∀ (R : VK) (z : Str) (j : Nat), sorts7[j]? = some z → (∀ m, m < j → sorts7[m]? ≠ some z) → R (.int (j : Int)) H → True := fun _ _ _ _ _ _ => trivial
    have tyS : ∀ H', tyV K "tuple" (.ref aS) H' := fun _ => .inr (.inl ⟨rfl, SD⟩)
    rcases hv with ⟨i, rfl⟩ | ⟨x, rfl, hx⟩
    · refine asg_run ⟨_, rfl, .int i, .int i, rfl, pt_int i, ?_⟩
      dsimp only
      refine asg_run ⟨tyS H, _, rfl, aS, sorts7, "number", 3, rfl, rfl, SK H, rfl, by decide +kernel, ?_⟩
      dsimp only
      refine ⟨_, rfl, rfl, _, rfl, iteT (ret_run ⟨_, rfl, _, rfl, _, _, rfl, rfl, _, rfl, ite2 (fun c => ?_) (fun c => ?_)⟩)⟩
      · exact ⟨_, rfl, _, _, rfl, rfl, .inl ⟨by decide, by decide⟩, _, _, rfl, rfl, few (by show 3 ≤ 1000; decide), fun e ne => q _ _ (same_new same_id ne)⟩
      · exact ⟨_, rfl, _, rfl, _, _, rfl, rfl, .inl ⟨by decide, by decide⟩, few (by show 3 ≤ 1000; decide), fun e ne => q _ _ (same_new same_id ne)⟩
    · refine asg_run ⟨_, rfl, .str x, .str x, rfl, pt_str x, ?_⟩
      dsimp only
      refine asg_run ⟨tyS H, _, rfl, aS, sorts7, "text", 4, rfl, rfl, SK H, rfl, by decide +kernel, ?_⟩
      dsimp only
      refine ⟨_, rfl, rfl, _, rfl, iteF (nx_run ?_)⟩
      dsimp only
      refine ⟨_, rfl, rfl, _, rfl, iteT (ret_run ⟨_, rfl, _, rfl, x, rfl, few hx, _, rfl, few (by show 4 ≤ 1000; decide), fun e ne => q _ _ (same_new same_id ne)⟩)⟩
end
end Toy


/-! max of ints, with a default -/
namespace L2
open PySem PySem.Spec PyProof.Rows
def rMaxDf (K : PySem.W.Frag) : List V → List V → Hp → VK → Prop := fun vs zs H Q => ∃ (a : Addr) (ns : List Int) (d : Int), vs = [V.ref a] ∧ zs = [.int d] ∧ SqL K H a (ns.map V.int) ∧
  ∀ m, (ns = [] → m = d) → (ns ≠ [] → m ∈ ns ∧ ∀ y ∈ ns, y ≤ m) → Q (.int m) H
theorem maxOf_spec : ∀ (xs : List Int) (x : Int), PySem.W.maxOf x xs ∈ x :: xs ∧ ∀ y ∈ x :: xs, y ≤ PySem.W.maxOf x xs
  | [], x => ⟨by simp [PySem.W.maxOf], fun y hy => by rw [List.mem_singleton.mp hy]; exact Int.le_refl _⟩
  | z :: xs, x => by
    have e : PySem.W.maxOf x (z :: xs) = PySem.W.maxOf (if x < z then z else x) xs := by
      show List.foldl _ (if decide (x < z) = true then z else x) xs = _
      unfold PySem.W.maxOf
      by_cases h : x < z <;> simp [h]
    obtain ⟨h1, h2⟩ := maxOf_spec xs (if x < z then z else x)
    rw [e]
    by_cases h : x < z
    · rw [if_pos h] at h1 h2 ⊢
      refine ⟨List.mem_cons_of_mem _ h1, fun y hy => ?_⟩
      rcases List.mem_cons.mp hy with rfl | hy
      · have := h2 z List.mem_cons_self
        omega
      · exact h2 y hy
    · rw [if_neg h] at h1 h2 ⊢
      refine ⟨?_, fun y hy => ?_⟩
      · rcases List.mem_cons.mp h1 with q | q
        · rw [q]; exact List.mem_cons_self
        · exact List.mem_cons_of_mem _ (List.mem_cons_of_mem _ q)
      · rcases List.mem_cons.mp hy with rfl | hy
        · exact h2 _ List.mem_cons_self
        · rcases List.mem_cons.mp hy with rfl | hy
          · have := h2 x List.mem_cons_self
            omega
          · exact h2 y (List.mem_cons_of_mem _ hy)
section
variable {X : Cx}
theorem cr_maxDf (hc : X.calm = true) (hu : X.A.units + 1 < cLine) : CallRK X (.builtin "max") [Str.ofString "default"] (rMaxDf X.K) := by
  intro pins s σ H vs zs us ws Q I r rz h
  obtain ⟨a, ns, d, rfl, rfl, hs, q⟩ := h
  obtain ⟨its, rv, hl, _⟩ := I.list hs
  rw [Vals.ref1 r]
  obtain ⟨w1, rfl, e1⟩ := vals1 rz
  obtain ⟨t1, rfl⟩ := e1
  show wpAny _ _ (call (.builtin "max") [.ref a] [(Str.ofString "default", Value.int d t1)]) _ _ s
  refine PySem.W.max_list_datum_default (α := Int) (xs := ns) (I.ok.hd hc) hl.isList (PySem.W.HoldAll.of_ints rv.ints) (by show X.A.units + 1 + 0 < cLine; omega) (fun e h' tk hk => ?_) fun y ys i v h' tk e hi hv hk => ?_
  · exact ⟨.int d, H, I.kept hk, ⟨_, rfl⟩, q d (fun _ => rfl) (fun n => absurd e n)⟩
  · obtain ⟨t, rfl⟩ := PySem.W.int_of_holds hv
    obtain ⟨h1, h2⟩ := maxOf_spec ys y
    exact ⟨.int _, H, I.kept hk, ⟨_, rfl⟩, q _ (fun z => by rw [e] at z; cases z) (fun _ => by rw [e]; exact ⟨h1, h2⟩)⟩
end
end L2


namespace Toy
open PySem PySem.Spec L2 PyProof.Rows PySem.W
/-! ### names are made -/
abbrev NNm : List Str := ["self", "terms", "told", "ends", "low", "high"]
theorem scNm : FnScope NNm ["self", "terms"] (defScope sNm) := ⟨rfl, rfl, rfl, by decide +kernel, rfl, by decide +kernel, by decide +kernel⟩
def okN (b : TB) : Bool := decide (b.1.length ≤ 1) && b.1.all (fun x => decide (x.length ≤ 5)) && decide (b.2.1.length ≤ 60) && decide (b.2.2.1.length ≤ 1) && decide (b.2.2.2.length ≤ 1) && b.2.2.2.all fun x => decide (x.length ≤ 1000)
def spNm (K : PySem.W.Frag) (CN : Addr) : Sp := fun vs H Q _ => ∃ (x dx : Addr) (v : V) (ts : List Dt) (b : TB), vs = [.ref x, v] ∧ H x = some (.ins CN dx []) ∧ Pt K H v (.tup ts) ∧ toldW fuelC ts ([], [], [], []) = some b ∧ okN b = true ∧
  ∀ H', (∀ c o, c ≠ x → H c = some o → H' c = some o) → NamAt K CN H' x b.1 → Q .non H'
theorem sqT_ins {K : PySem.W.Frag} {H : Hp} {x t C dx : Addr} {fs : List (Str × V)} {u : HO} {us : List V} (hx : H x = some (.ins C dx fs)) (h : SqT K H t us) : SqT K (upd H x u) t us := by
  rcases h with (h | ⟨o, h⟩) | h
  · refine .inl (.inl ((upd_ne fun z => ?_).trans h))
    rw [z, hx] at h
    cases h
  · refine .inl (.inr ⟨o, (upd_ne fun z => ?_).trans h⟩)
    rw [z, hx] at h
    cases h
  · exact .inr h
theorem TdAt.ins {H : Hp} {Td a1 a2 a3 a4 x C dx : Addr} {fs : List (Str × V)} {u : HO} {b : TB} (h : TdAt H Td a1 a2 a3 a4 b) (hx : H x = some (.ins C dx fs)) : TdAt (upd H x u) Td a1 a2 a3 a4 b := by
  have z : ∀ {c : Addr} {m : List (Key × V)}, H c = some (.dK m) → (upd H x u) c = some (.dK m) := fun {c m} e => (upd_ne (fun z => by rw [z, hx] at e; cases e)).trans e
  exact ⟨z h.h, z h.h1, z h.h2, z h.h3, z h.h4, h.t1, h.t2, h.t3, h.t4, h.n12, h.n13, h.n14, h.n23, h.n24, h.n34⟩
theorem perm_small {α : Type} {xs ys : List α} (h : ys.Perm xs) (hl : xs.length ≤ 1) : ys = xs := by
  match xs, hl with
  | [], _ => exact List.perm_nil.mp h
  | [a], _ => exact List.perm_singleton.mp h
theorem ptl_strs {K : PySem.W.Frag} {H : Hp} : ∀ ks : List Str, PtL K H (ks.map V.str) (ks.map Dt.str)
  | [] => ptl_nil
  | k :: ks => ptl_cons (pt_str k) (ptl_strs ks)
theorem keys_dI (ks : List Int) : ((dI ks).map fun kv => kV kv.1) = ks.map V.int := by
  unfold dI
  rw [List.map_map]
  rfl
theorem but_same {x : Addr} {H H1 H2 : Hp} (k : ∀ c o, c ≠ x → H c = some o → H1 c = some o) (s : Same H1 H2) : ∀ c o, c ≠ x → H c = some o → H2 c = some o := fun c o hc e => s _ _ (k c o hc e)
theorem but_upd {x : Addr} {H H1 : Hp} {u : HO} (k : ∀ c o, c ≠ x → H c = some o → H1 c = some o) : ∀ c o, c ≠ x → H c = some o → (upd H1 x u) c = some o := fun c o hc e => (upd_ne hc).trans (k c o hc e)
section
variable {P : Program} {w : World} {K : PySem.W.Frag} {mg : Str → Option Value} {base : Heap} {CV CN CU : Addr}
theorem ok_nm {f fT fB fO : Addr} {fd dT dB dO : FuncData} (F : Fun K "__init__" "Names.__init__" sNm f fd) (T : NamC K CN) (L : BT mg) (DT : Dn P w K mg base CX0 2 "_told_by" ["terms"] (spTo K) fT dT) (DB : Dn P w K mg base CX0 2 "_names_between" ["low", "high"] (spNb K) fB dB) (DO : Dn P w K mg base CX0 2 "order_key" ["datum"] spOk fO dO) : FnOk P w K mg base CX0 5 f fd ["self", "terms"] (spNm K CN) := by
  refine F.ok (k := 4) scNm (fun vs H Q E h => ?_) (fun cdv A outer s H vs Q E hr h => ?_)
  · obtain ⟨x, dx, v, ts, b, rfl, _⟩ := h
    rfl
  · obtain ⟨x, dx, v, ts, b, rfl, hx, hv, hb, hok, q⟩ := h
    have hr2 := hr.mono (show 2 ≤ 4 by decide)
    have hu := hu_of hr
    refine ⟨_, pss_cons (ps_set (i := 2) scNm.nd rfl (Or.inl rfl) (pe_call DT.G hr2 (by rfl) DT.m DT.k DT.b .nil pass0 (pa_cons (pv 1) pa_nil)))
      (pss_cons (ps_fld (pv 0) (pe_callTy call_tuple_of (by rfl) L.tuple (by decide +kernel) (pa_cons (pe_callB (call_sortedD rfl) (by rfl) L.sorted (by decide +kernel) (pa_cons (pe_dget hu (pv 2) pe_str (fun _ _ => rfl)) pa_nil)) pa_nil)) rfl)
      (pss_cons (ps_fld (pv 0) (pe_op op_add pe_int (pe_callBK (cr_maxDf rfl hu) (by rfl) L.max (by decide +kernel) (pa_cons (pe_callTy (call_listD rfl) (by rfl) L.list (by decide +kernel) (pa_cons (pe_dget hu (pv 2) pe_str (fun _ _ => rfl)) pa_nil)) pa_nil) (pk_cons (pe_un un_neg pe_int) pk_nil))) rfl)
      (pss_cons (ps_fld (pv 0) (pe_callTy call_tuple_of (by rfl) L.tuple (by decide +kernel) (pa_cons (pe_callBK (cr_sortedK1 rfl DO.G DO.b hr) (by rfl) L.sorted (by decide +kernel) (pa_cons (pe_dget hu (pv 2) pe_str (fun _ _ => rfl)) pa_nil) (pk_cons (pe_glob (v := .ref fO) (by rfl) DO.m rfl) pk_nil)) pa_nil)) rfl)
      (pss_cons (ps_fld (pv 0) (pe_callTy call_tuple_of (by rfl) L.tuple (by decide +kernel) (pa_cons (pe_callBK (cr_sortedK1 rfl DO.G DO.b hr) (by rfl) L.sorted (by decide +kernel) (pa_cons (pe_dget hu (pv 2) pe_str (fun _ _ => rfl)) pa_nil) (pk_cons (pe_glob (v := .ref fO) (by rfl) DO.m rfl) pk_nil)) pa_nil)) rfl)
      (pss_cons (ps_set (i := 3) scNm.nd rfl (Or.inl rfl) (pe_op op_catA (pe_op op_catA (pe_tup (pa_cons pe_str pa_nil)) (pe_fld (pv 0) rfl)) (pe_tup (pa_cons pe_non pa_nil))))
      (pss_one (ps_fld (pv 0) (pe_callTy call_tuple_of (by rfl) L.tuple (by decide +kernel) (pa_cons (pe_lc (own := [("low", 4), ("high", 5)]) (g := gTup K 2 (gCons (gName 4) (gCons (gName 5) gNil))) (te := tCall (spNb K) [] E0 (tCons (tVar 4) (tCons (tVar 5) tNil))) (by rfl) scNm.nd (RZ.pi_zipA (by rfl) L.zip (pa_cons (pv 3) (pa_cons (pe_slice sl_tupA (pv 3) (po_some pe_int) po_none) pa_nil)))
            (blkOk_by (own := [("low", 4), ("high", 5)]) (N := NNm) (sc := defScope sNm) (by decide +kernel)) (fun _ _ _ _ _ => by exact (pg_tup rfl (pgs_cons (by exact (pg_name (i := 4) scNm.nd rfl (Or.inl rfl))) (pgs_cons (by exact (pg_name (i := 5) scNm.nd rfl (Or.inl rfl))) pgs_nil)))) (fun _ _ _ _ _ => pts_nil)
            (fun _ _ _ _ _ => pe_call DB.G hr2 (by rfl) DB.m DB.k DB.b .nil pass0 (pa_cons (pv 4) (pa_cons (pv 5) pa_nil)))) pa_nil)) rfl))))))), ?_⟩
    unfold okN at hok
    simp only [Bool.and_eq_true, decide_eq_true_eq, List.all_eq_true] at hok
    obtain ⟨⟨⟨⟨⟨o1, o2⟩, o3⟩, o4⟩, o5⟩, o6⟩ := hok
    refine asg_run ⟨_, rfl, v, ts, b, rfl, hv, hb, fun H1 Td a1 a2 a3 a4 s1 hT => ?_⟩
    dsimp only
    obtain ⟨fs, is, ns, tx⟩ := b
    dsimp only at o1 o2 o3 o4 o5 o6 hT q
    have hx1 := s1 _ _ hx
    have k1 : ∀ c o, c ≠ x → H c = some o → H1 c = some o := fun c o _ e => s1 _ _ e
    -- fields
    refine ⟨_, rfl, Td, .ref a1, rfl, DGet.k (k := Sum.inr "field") hT.h, a1, dS fs, fs, rfl, .inl hT.h1, by unfold dS; rw [List.map_map]; rfl, by omega, fun ys p hp _ np => ?_⟩
    obtain rfl := perm_small hp o1
    refine ⟨p, _, rfl, .inl ⟨SqL.of upd_same, fun TF nTF => ?_⟩⟩
    have s2 := (same_new (u := .lst (ys.map V.str)) (same_id (H := H1)) np).trans (same_new (u := .tup (ys.map V.str)) same_id nTF)
    have hTF : (upd (upd H1 p (.lst (ys.map V.str))) TF (.tup (ys.map V.str))) TF = some (.tup (ys.map V.str)) := upd_same
    generalize upd (upd H1 p (.lst (ys.map V.str))) TF (.tup (ys.map V.str)) = H2 at s2 hTF ⊢
    have hx2 := s2 _ _ hx1
    refine ⟨_, rfl, x, CN, dx, [], rfl, hx2, T.cl, T.n1, by decide, ?_⟩
    have hT3 : TdAt (upd H2 x (.ins CN dx (putF "fields" (.ref TF) []))) Td a1 a2 a3 a4 (ys, is, ns, tx) := (hT.same s2).ins hx2
    have k3 := but_upd (u := .ins CN dx (putF "fields" (.ref TF) [])) (but_same k1 s2)
    have hF3 : SqT K (upd H2 x (.ins CN dx (putF "fields" (.ref TF) []))) TF (ys.map V.str) := sqT_ins hx2 (SqT.of hTF)
    have hx3 : (upd H2 x (.ins CN dx (putF "fields" (.ref TF) []))) x = some (.ins CN dx [("fields", .ref TF)]) := upd_same
    generalize upd H2 x (.ins CN dx (putF "fields" (.ref TF) [])) = H3 at hT3 k3 hF3 hx3 ⊢
    clear hT hx1 k1 s2 hx2 hTF
    dsimp only
    -- many
    refine ⟨_, rfl, Td, .ref a2, rfl, DGet.k (k := Sum.inr "item") hT3.h, a2, dI is, rfl, .inl hT3.h2, fun p2 np2 => ⟨_, rfl, p2, is, -1, rfl, rfl, SqL.of (by rw [upd_same, keys_dI]), fun mm _ _ => ⟨_, _, rfl, rfl, _, rfl, ?_⟩⟩⟩
    have s4 := same_new (u := .lst ((dI is).map fun kv => kV kv.1)) (same_id (H := H3)) np2
    generalize upd H3 p2 (.lst ((dI is).map fun kv => kV kv.1)) = H4 at s4 ⊢
    have hx4 := s4 _ _ hx3
    refine ⟨x, CN, dx, _, rfl, hx4, T.cl, T.n2, by show 1 < 1000; decide, ?_⟩
    have hT5 : TdAt (upd H4 x (.ins CN dx (putF "many" (.int (1 + mm)) [("fields", .ref TF)]))) Td a1 a2 a3 a4 (ys, is, ns, tx) := (hT3.same s4).ins hx4
    have k5 := but_upd (u := .ins CN dx (putF "many" (.int (1 + mm)) [("fields", .ref TF)])) (but_same k3 s4)
    have hF5 : SqT K (upd H4 x (.ins CN dx (putF "many" (.int (1 + mm)) [("fields", .ref TF)]))) TF (ys.map V.str) := sqT_ins hx4 (same_seqT s4 hF3)
    have hx5 : (upd H4 x (.ins CN dx (putF "many" (.int (1 + mm)) [("fields", .ref TF)]))) x = some (.ins CN dx [("fields", .ref TF), ("many", .int (1 + mm))]) := upd_same
    generalize upd H4 x (.ins CN dx (putF "many" (.int (1 + mm)) [("fields", .ref TF)])) = H5 at hT5 k5 hF5 hx5 ⊢
    clear hT3 k3 hF3 hx3 s4 hx4 np2
    dsimp only
    -- numbers
    refine ⟨_, rfl, Td, .ref a3, rfl, DGet.k (k := Sum.inr "number") hT5.h, a3, dI ns, rfl, rfl, .inl hT5.h3, by unfold dI; rw [List.length_map]; omega, fun kx hkx => ?_, fun H6 T6 s6 n6 h6 => ⟨T6, _, rfl, .inl ⟨SqL.of h6, fun T7 n7 => ?_⟩⟩⟩
    · obtain ⟨i, _, rfl⟩ := List.mem_map.mp hkx
      exact fun H' s' Q' q' => ⟨.int i, rfl, .inl ⟨i, rfl⟩, q'⟩
    have s7 := s6.trans (same_new (u := .tup ((dI ns).map fun kx => kV kx.1)) same_id n7)
    generalize upd H6 T7 (.tup ((dI ns).map fun kx => kV kx.1)) = H7 at s7 ⊢
    have hx7 := s7 _ _ hx5
    refine ⟨_, rfl, x, CN, dx, _, rfl, hx7, T.cl, T.n3, by show 2 < 1000; decide, ?_⟩
    have hT8 : TdAt (upd H7 x (.ins CN dx (putF "numbers" (.ref T7) [("fields", .ref TF), ("many", .int (1 + mm))]))) Td a1 a2 a3 a4 (ys, is, ns, tx) := (hT5.same s7).ins hx7
    have k8 := but_upd (u := .ins CN dx (putF "numbers" (.ref T7) [("fields", .ref TF), ("many", .int (1 + mm))])) (but_same k5 s7)
    have hF8 : SqT K (upd H7 x (.ins CN dx (putF "numbers" (.ref T7) [("fields", .ref TF), ("many", .int (1 + mm))]))) TF (ys.map V.str) := sqT_ins hx7 (same_seqT s7 hF5)
    have hx8 : (upd H7 x (.ins CN dx (putF "numbers" (.ref T7) [("fields", .ref TF), ("many", .int (1 + mm))]))) x = some (.ins CN dx [("fields", .ref TF), ("many", .int (1 + mm)), ("numbers", .ref T7)]) := upd_same
    generalize upd H7 x (.ins CN dx (putF "numbers" (.ref T7) [("fields", .ref TF), ("many", .int (1 + mm))])) = H8 at hT8 k8 hF8 hx8 ⊢
    clear hT5 k5 hF5 hx5 s7 hx7 s6 h6 n6 n7
    dsimp only
    -- texts
    refine ⟨_, rfl, Td, .ref a4, rfl, DGet.k (k := Sum.inr "text") hT8.h, a4, dS tx, rfl, rfl, .inl hT8.h4, by unfold dS; rw [List.length_map]; omega, fun kx hkx => ?_, fun H9 T9 s9 n9 h9 => ⟨T9, _, rfl, .inl ⟨SqL.of h9, fun T10 n10 => ?_⟩⟩⟩
    · obtain ⟨y, hy, rfl⟩ := List.mem_map.mp hkx
      exact fun H' s' Q' q' => ⟨.str y, rfl, .inr ⟨y, rfl, o6 y hy⟩, q'⟩
    have s10 := s9.trans (same_new (u := .tup ((dS tx).map fun kx => kV kx.1)) same_id n10)
    generalize upd H9 T10 (.tup ((dS tx).map fun kx => kV kx.1)) = H10 at s10 ⊢
    have hx10 := s10 _ _ hx8
    refine ⟨_, rfl, x, CN, dx, _, rfl, hx10, T.cl, T.n4, by show 3 < 1000; decide, ?_⟩
    have k11 := but_upd (u := .ins CN dx (putF "texts" (.ref T10) [("fields", .ref TF), ("many", .int (1 + mm)), ("numbers", .ref T7)])) (but_same k8 s10)
    have hF11 : SqT K (upd H10 x (.ins CN dx (putF "texts" (.ref T10) [("fields", .ref TF), ("many", .int (1 + mm)), ("numbers", .ref T7)]))) TF (ys.map V.str) := sqT_ins hx10 (same_seqT s10 hF8)
    have hx11 : (upd H10 x (.ins CN dx (putF "texts" (.ref T10) [("fields", .ref TF), ("many", .int (1 + mm)), ("numbers", .ref T7)]))) x = some (.ins CN dx [("fields", .ref TF), ("many", .int (1 + mm)), ("numbers", .ref T7), ("texts", .ref T10)]) := upd_same
    generalize upd H10 x (.ins CN dx (putF "texts" (.ref T10) [("fields", .ref TF), ("many", .int (1 + mm)), ("numbers", .ref T7)])) = H11 at k11 hF11 hx11 ⊢
    clear hT8 k8 hF8 hx8 s10 hx10 s9 h9 n9 n10
    dsimp only
    -- ends
    refine asg_run ⟨few (by show 1 ≤ 1000; decide), fun A nA => ⟨_, rfl, x, CN, dx, _, .ref TF, rfl, same_new same_id nA _ _ hx11, T.cl, T.n1, rfl, ?_⟩⟩
    have sA := same_new (u := .tup [.str ""]) (same_id (H := H11)) nA
    refine catA_run (ts := [.str ""]) (rs := ys.map Dt.str) (SqT.of upd_same) (same_seqT sA hF11) (ptl_cons (pt_str "") ptl_nil) (ptl_strs ys) (by rw [List.length_map]; show 1 + ys.length ≤ 3000; omega) fun H12 B s12 hB => ⟨few (by show 1 ≤ 1000; decide), fun C nC => ?_⟩
    have s13 := same_new (u := .tup [.non]) (same_id (H := H12)) nC
    obtain ⟨B', bv, eB, hBs, hbv⟩ := hB.tup
    cases eB
    refine catA_run (rs := [.non]) (same_seqT s13 hBs) (SqT.of upd_same) (hbv.same s13) (ptl_cons pt_non ptl_nil) (by rw [List.length_append, List.length_map]; show 1 + ys.length + 1 ≤ 3000; omega) fun H14 G s14 hG => ?_
    have s1114 := sA.trans (s12.trans (s13.trans s14))
    have hx14 := s1114 _ _ hx11
    have k14 := but_same k11 s1114
    have hF14 := same_seqT s1114 hF11
    clear hB hBs hbv s14 s13 s12 sA hx11 k11 hF11
    have hG : Pt K H14 (.ref G) (.tup (([Dt.str ""] ++ ys.map Dt.str) ++ [Dt.non])) := hG
    obtain ⟨G', gv, eG, hGs, hgv⟩ := hG.tup
    cases eG
    have hgl : gv.length = ys.length + 2 := by
      rw [hgv.len]
      simp
    refine ⟨_, rfl, ?_⟩
    refine Gv.run (K := K) (H := H14) (te := tSl (rSlA K) (tVar 3) (tPart (tC (.int 1))) tNoPart) (r := .tup ((([Dt.str ""] ++ ys.map Dt.str) ++ [Dt.non]).drop 1)) (gv_d1 (gv_var rfl hG)) same_id fun H15 vc s15 hCp => ?_
    obtain ⟨Cc, cv, rfl, hC, hcv⟩ := hCp.tup
    have hG15 := same_seqT s15 hGs
    have hgv15 := hgv.same s15
    refine ⟨G, Cc, gv, cv, rfl, .inr ⟨hG15, hC, fun D nD => ?_⟩⟩
    refine ⟨fun i m H' => m + i = ys.length + 1 ∧ Same H15 H' ∧ ∃ zs : List V, H' D = some (.lst zs) ∧ zs.length = i, ⟨ys.length + 1, rfl, same_new same_id nD, [], upd_same, rfl⟩, fun i m H' hW => ?_⟩
    obtain ⟨em, s2, zs, hD, hzl⟩ := hW
    have hG2 := same_seqT s2 hG15
    have hC2 := same_seqT s2 hC
    by_cases hi : i < ys.length + 1
    · have hcl : cv.length = ys.length + 1 := by
        rw [hcv.len]
        simp
      obtain ⟨y1, m1⟩ : ∃ y0, gv[i]? = some y0 := ⟨gv[i]'(by omega), List.getElem?_eq_getElem (by omega)⟩
      obtain ⟨y2, m2⟩ : ∃ y0, cv[i]? = some y0 := ⟨cv[i]'(by omega), List.getElem?_eq_getElem (by omega)⟩
      have e1 : ∃ z : Str, y1 = .str z ∧ z.length ≤ 5 := by
        obtain ⟨t1, ht1, hp1⟩ := hgv15.get m1
        rw [List.getElem?_append_left (by simp; omega)] at ht1
        cases i with
        | zero =>
          cases ht1
          exact ⟨_, hp1.str, by show 0 ≤ 5; decide⟩
        | succ i =>
          have ht1 : (ys.map Dt.str)[i]? = some t1 := ht1
          rw [List.getElem?_map] at ht1
          cases hyi : ys[i]? with
          | none => rw [hyi] at ht1; cases ht1
          | some z =>
            rw [hyi] at ht1
            cases ht1
            exact ⟨z, hp1.str, o2 z (List.mem_of_getElem? hyi)⟩
      have e2 : y2 = .non ∨ ∃ z : Str, y2 = .str z := by
        obtain ⟨t1, ht1, hp1⟩ := hcv.get m2
        rw [List.getElem?_drop] at ht1
        by_cases hl : 1 + i < ys.length + 1
        · rw [List.getElem?_append_left (by simp; omega)] at ht1
          rw [show 1 + i = i + 1 by omega] at ht1
          have ht1 : (ys.map Dt.str)[i]? = some t1 := ht1
          rw [List.getElem?_map] at ht1
          cases hyi : ys[i]? with
          | none => rw [hyi] at ht1; cases ht1
          | some z =>
            rw [hyi] at ht1
            cases ht1
            exact .inr ⟨z, hp1.str⟩
        · have : 1 + i = ([Dt.str ""] ++ ys.map Dt.str).length := by simp; omega
          rw [this, List.getElem?_append_right (Nat.le_refl _), Nat.sub_self] at ht1
          cases ht1
          exact .inl hp1.non
      obtain ⟨z1, rfl, hz1⟩ := e1
      refine .inr ⟨⟨_, _, _, _, hG2, hC2, m1, m2⟩, fun H3 => Same H15 H3 ∧ ∃ zs : List V, H3 D = some (.lst zs) ∧ zs.length = i + 1, fun H3 hN => ⟨m - 1, by omega, by omega, hN.1, hN.2⟩, fun v H3 hy => ?_⟩
      obtain ⟨T1, x1, x2, rfl, nT, rfl, f1, f2⟩ := hy
      obtain rfl : x1 = .str z1 := Option.some.inj ((f1 _ hG2).symm.trans m1)
      obtain rfl : x2 = y2 := Option.some.inj ((f2 _ hC2).symm.trans m2)
      have nDT : D ≠ T1 := ne_of_none hD nT
      have sT := same_new (u := .tup [.str z1, x2]) s2 nT
      refine ⟨T1, _, rfl, SqT.of upd_same, rfl, _, _, rfl, _, _, rfl, rfl, rfl, _, rfl, _, rfl, z1, x2, rfl, hz1, e2, fun H5 v5 s5 => ?_⟩
      refine ⟨zs, s5 _ _ ((upd_ne nDT).trans hD), by rw [hzl, sizeLine_eq]; omega, same_put (sT.trans s5) nD, zs ++ [v5], upd_same, by rw [List.length_append, hzl]; rfl⟩
    · have hik : i = ys.length + 1 := by omega
      subst hik
      refine .inl ⟨⟨_, _, hG2, hC2, .inr (by rw [hcv.len]; simp)⟩, D, zs, rfl, .inl ⟨SqL.of hD, fun TG nTG => ?_⟩⟩
      have s16 := s15.trans (s2.trans (same_new (u := .tup zs) same_id nTG))
      have hx16 := s16 _ _ hx14
      refine ⟨_, rfl, x, CN, dx, _, rfl, hx16, T.cl, T.n5, by show 4 < 1000; decide, ?_⟩
      exact q _ (but_upd (but_same k14 s16)) ⟨dx, TF, .int (1 + mm), .ref T7, .ref T10, .ref TG, upd_same, sqT_ins hx16 (same_seqT s16 hF14)⟩
end
end Toy


namespace L2
open PySem PySem.Spec PyProof.Rows PySem.W
theorem passXa {P : Program} {w : World} {X : Cx} : Passes (L2.CX P w) X E0 := by
  intro pins σ H s e s' I h
  obtain ⟨a, B, H', cls, d, _, _, _, _, _, _, _, h⟩ := h
  exact h.elim
end L2
namespace Toy
open PySem PySem.Spec L2 PyProof.Rows PySem.W
/-! ### sketched -/
abbrev NVi : List Str := ["self", "names", "sketches", "puts", "base"]
theorem scVi : FnScope NVi NVi (defScope sVi) := ⟨rfl, rfl, rfl, by decide +kernel, rfl, by decide +kernel, by decide +kernel⟩
abbrev NSn : List Str := ["names", "f", "g", "sketch", "view", "asked"]
theorem scSn : FnScope NSn ["names", "f", "g", "sketch"] (defScope sSn) := ⟨rfl, rfl, rfl, by decide +kernel, rfl, by decide +kernel, by decide +kernel⟩
theorem scSd : FnScope ["f", "g", "sketch"] ["f", "g", "sketch"] (defScope sSd) := ⟨rfl, rfl, rfl, by decide +kernel, rfl, by decide +kernel, by decide +kernel⟩
def spVi (K : PySem.W.Frag) (CV CN : Addr) : Sp := fun vs H Q _ => ∃ (x dx nm S T0 : Addr) (v : V) (sk : Dt) (fs : List Str), vs = [.ref x, .ref nm, .ref S, .ref T0, .int 0] ∧ H x = some (.ins CV dx []) ∧ NamAt K CN H nm fs ∧ SqT K H S [v] ∧ Pt K H v sk ∧ SqT K H T0 [] ∧
  ∀ H', (∀ c o, c ≠ x → H c = some o → H' c = some o) → ViewAt K CV CN H' x sk fs → Q .non H'
def spSn (K : PySem.W.Frag) (CN : Addr) : Sp := fun vs H Q _ => ∃ (nm : Addr) (fs : List Str) (f g sk : V) (tf tg ts : Dt), vs = [.ref nm, f, g, sk] ∧ NamAt K CN H nm fs ∧ fs.length ≤ 1000 ∧ Pt K H f tf ∧ Pt K H g tg ∧ Pt K H sk ts ∧ Gives K H Q (sketchT fs tf tg ts)
def spSd (K : PySem.W.Frag) : Sp := fun vs H Q _ => ∃ (f g sk : V) (tf tg ts : Dt) (b : TB), vs = [f, g, sk] ∧ Pt K H f tf ∧ Pt K H g tg ∧ Pt K H sk ts ∧ chW fuelC [([], tf)] = true ∧ chW fuelC [([], tg)] = true ∧ toldW fuelC [tf, tg] ([], [], [], []) = some b ∧ okN b = true ∧ Gives K H Q (sketchT b.1 tf tg ts)
structure ClsU (K : PySem.W.Frag) (c : Addr) : Prop where
  x : XfC K c
  n1 : PySem.W.findIn K (.ref c) "place" = some none
  n2 : PySem.W.findIn K (.ref c) "question" = some none
  mt : PySem.W.exmOne K (.ref c) (.ref c) = some true
structure MkD (P : Program) (w : World) (K : PySem.W.Frag) (mg : Str → Option Value) (base : Heap) (lvl : Nat) (C : Addr) (n : Str) (ps : List Str) (sp : Sp) (f : Addr) (fd : FuncData) : Prop where
  mk' : Mk K C f
  G : FnOk P w K mg base CX0 lvl f fd ps sp
  m : mg n = some (.ref C)
  b : Binds K fd ps []
theorem takeA {X : Cx} : Takes X (fun _ _ _ _ => False) := fun _ _ x => by
  obtain ⟨_, _, _, _, _, _, _, _, _, _, _, _, _, _, _, _, z⟩ := x
  exact z.elim
theorem made_sameA {H : Hp} {x dx : Addr} {u : HO} (nx : H x = none) (ndx : H dx = none) : Same H (upd (upd H dx (.own x)) x u) := by
  intro b o e
  rw [upd_ne (ne_of_none e nx), upd_ne (ne_of_none e ndx)]
  exact e
theorem sqT_butN {K : PySem.W.Frag} {H H' : Hp} {L t C dx : Addr} {f : List (Str × V)} {us : List V} (b : ∀ c o, c ≠ L → H c = some o → H' c = some o) (hx : H L = some (.ins C dx f)) (h : SqT K H t us) : SqT K H' t us := by
  rcases h with (h | ⟨o, h⟩) | h
  · exact .inl (.inl (b _ _ (fun z => by rw [z, hx] at h; cases h) h))
  · exact .inl (.inr ⟨o, b _ _ (fun z => by rw [z, hx] at h; cases h) h⟩)
  · exact .inr h
mutual
theorem dv_butN {K : PySem.W.Frag} {H H' : Hp} {L C dx : Addr} {f : List (Str × V)} (b : ∀ c o, c ≠ L → H c = some o → H' c = some o) (hL : H L = some (.ins C dx f)) : ∀ {v : V} {t : Dt}, Dv K H v t → noq t = true → Dv K H' v t
  | _, _, .non, _ => .non
  | _, _, .bl b, _ => .bl b
  | _, _, .int b, _ => .int b
  | _, _, .str b, _ => .str b
  | _, _, .tup h d, n => .tup (sqT_butN b hL h) (dvl_butN b hL d (by simpa [noq] using n))
  | _, _, .lst _, n => by simp [noq] at n
  | _, _, .dct _, n => by simp [noq] at n
theorem dvl_butN {K : PySem.W.Frag} {H H' : Hp} {L C dx : Addr} {f : List (Str × V)} (b : ∀ c o, c ≠ L → H c = some o → H' c = some o) (hL : H L = some (.ins C dx f)) : ∀ {vs : List V} {ts : List Dt}, DvL K H vs ts → noqL ts = true → DvL K H' vs ts
  | _, _, .nil, _ => .nil
  | _, _, .cons a c, n => by
    simp only [noqL, Bool.and_eq_true] at n
    exact .cons (dv_butN b hL a n.1) (dvl_butN b hL c n.2)
end
def tLenA (n : Nat) (t : TE) : TE := fun σ H Q => σ.length = n → t σ H Q
theorem pe_lenA {X : Cx} {e : Expr} {t : TE} (n : Nat) (h : PE X e t) (hn : X.N.length = n := by rfl) : PE X e (tLenA n t) := ⟨fun pins s σ H Q I z => h.run pins s σ H Q I (z (hn ▸ I.len))⟩
section
variable {P : Program} {w : World} {K : PySem.W.Frag} {mg : Str → Option Value} {base : Heap} {CV CN CU : Addr}
theorem ok_vi {f : Addr} {fd : FuncData} {dvs : List V} (F : FunD K "__init__" "View.__init__" (defArgs sVi) (defBody sVi) (defScope sVi) dvs [] f fd) (T : ViewC K CV) : FnOk P w K mg base CX0 1 f fd NVi (spVi K CV CN) := by
  refine F.ok (k := 0) scVi (fun vs H Q E h => ?_) (fun cdv A outer s H vs Q E hr h => ?_)
  · obtain ⟨x, dx, nm, S, T0, v, sk, fs, rfl, _⟩ := h
    rfl
  · obtain ⟨x, dx, nm, S, T0, v, sk, fs, rfl, hx, hN, hS, hv, hT, q⟩ := h
    refine ⟨_, pss_cons (ps_fld (pv 0) (pv 1) rfl)
      (pss_cons (ps_fld (pv 0) (pv 2) rfl)
      (pss_cons (ps_fld (pv 0) (pv 3) rfl)
      (pss_one (ps_fld (pv 0) (pv 4) rfl)))), ?_⟩
    have nb : ∀ {u : HO} {H1 : Hp}, (∀ c o, c ≠ x → H c = some o → H1 c = some o) → ∀ c o, c ≠ x → H c = some o → (upd H1 x u) c = some o := fun k => but_upd k
    refine ⟨_, rfl, _, rfl, x, CV, dx, _, rfl, hx, T.cl, T.n1, by show 0 < 1000; decide, ?_⟩
    have k1 : ∀ c o, c ≠ x → H c = some o → (upd H x (.ins CV dx (putF "names" (.ref nm) []))) c = some o := fun c o hc e => (upd_ne hc).trans e
    have h1 : (upd H x (.ins CV dx (putF "names" (.ref nm) []))) x = some (.ins CV dx [("names", .ref nm)]) := upd_same
    generalize upd H x (.ins CV dx (putF "names" (.ref nm) [])) = H1 at k1 h1 ⊢
    dsimp only
    refine ⟨_, rfl, _, rfl, x, CV, dx, _, rfl, h1, T.cl, T.n2, by show 1 < 1000; decide, ?_⟩
    have k2 := but_upd (u := .ins CV dx (putF "sketches" (.ref S) [("names", .ref nm)])) k1
    have h2 : (upd H1 x (.ins CV dx (putF "sketches" (.ref S) [("names", .ref nm)]))) x = some (.ins CV dx [("names", .ref nm), ("sketches", .ref S)]) := upd_same
    generalize upd H1 x (.ins CV dx (putF "sketches" (.ref S) [("names", .ref nm)])) = H2 at k2 h2 ⊢
    dsimp only
    refine ⟨_, rfl, _, rfl, x, CV, dx, _, rfl, h2, T.cl, T.n3, by show 2 < 1000; decide, ?_⟩
    have k3 := but_upd (u := .ins CV dx (putF "puts" (.ref T0) [("names", .ref nm), ("sketches", .ref S)])) k2
    have h3 : (upd H2 x (.ins CV dx (putF "puts" (.ref T0) [("names", .ref nm), ("sketches", .ref S)]))) x = some (.ins CV dx [("names", .ref nm), ("sketches", .ref S), ("puts", .ref T0)]) := upd_same
    generalize upd H2 x (.ins CV dx (putF "puts" (.ref T0) [("names", .ref nm), ("sketches", .ref S)])) = H3 at k3 h3 ⊢
    dsimp only
    refine ⟨_, rfl, _, rfl, x, CV, dx, _, rfl, h3, T.cl, T.n4, by show 3 < 1000; decide, ?_⟩
    have k4 := but_upd (u := .ins CV dx (putF "base" (.int 0) [("names", .ref nm), ("sketches", .ref S), ("puts", .ref T0)])) k3
    have h4 : (upd H3 x (.ins CV dx (putF "base" (.int 0) [("names", .ref nm), ("sketches", .ref S), ("puts", .ref T0)]))) x = some (.ins CV dx (vwF nm S T0)) := upd_same
    generalize upd H3 x (.ins CV dx (putF "base" (.int 0) [("names", .ref nm), ("sketches", .ref S), ("puts", .ref T0)])) = H4 at k4 h4 ⊢
    have bx : ∀ {t : Addr} {us : List V}, SqT K H t us → SqT K H4 t us := fun h => by
      rcases h with (h | ⟨o, h⟩) | h
      · exact .inl (.inl (k4 _ _ (fun z => by rw [z, hx] at h; cases h) h))
      · exact .inl (.inr ⟨o, k4 _ _ (fun z => by rw [z, hx] at h; cases h) h⟩)
      · exact .inr h
    obtain ⟨dn, TF, a, b, c, d, e1, e2⟩ := hN
    have hv4 : Pt K H4 v sk := ⟨dv_butN k4 hx hv.1 hv.2, hv.2⟩
    exact q H4 k4 ⟨dx, nm, S, T0, v, h4, ⟨dn, TF, a, b, c, d, k4 _ _ (fun z => by rw [z, hx] at e1; cases e1) e1, bx e2⟩, bx hS, hv4, bx hT⟩
theorem ok_sn {f fR fV : Addr} {fd dR dV : FuncData} {p0 : Addr} {dsv : List Value} (F : Fun K "sketched_named" "sketched_named" sSn f fd) (C : ClsU K CU) (mU : mg "Unsettled" = some (.ref CU)) (DR : Dn P w K mg base (L2.CX P w) 16 "row_in" ["view", "term"] (spRo K CV CN CU) fR dR)
    (MV : Mk K CV fV) (GV : FnOk P w K mg base CX0 1 fV dV NVi (spVi K CV CN)) (mV : mg "View" = some (.ref CV)) (vV : Vals [.ref p0, .int 0] dsv) (bV : Binds K dV NVi dsv) (hp0 : ∀ H : Hp, SqT K H p0 []) : FnOk P w K mg base CX0 17 f fd ["names", "f", "g", "sketch"] (spSn K CN) := by
  refine F.ok (k := 16) scSn (fun vs H Q E h => ?_) (fun cdv A outer s H vs Q E hr h => ?_)
  · obtain ⟨nm, fs, f, g, sk, tf, tg, ts, rfl, _⟩ := h
    rfl
  · obtain ⟨nm, fs, ff, g, sk, tf, tg, ts, rfl, hN, hfl, hf, hg, hs, q⟩ := h
    have hr2 := hr.mono (show 2 ≤ 16 by decide)
    refine ⟨_, pss_cons (ps_set (i := 4) scSn.nd rfl (Or.inl rfl) (pe_make MV GV hr2 (by rfl) mV bV vV pass0 (pa_cons (pv 0) (pa_cons (pe_tup (pa_cons (pv 3) pa_nil)) pa_nil))))
      (pss_one (ps_try_as (X := (cxOf CX0 P w K mg base NSn "sketched_named" (defScope sSn) f cdv A outer s H E).nox) (c := .ref CU) (i := 5)
      (tb := fun W D σ H => ∃ Ech : XK, (∀ cls d σ' H', Ech cls d H' → W cls d σ' H') ∧ tRet (tTup (tCons (tC (.str "rows")) (tCons (tCall (spRo K CV CN CU) [] Ech (tCons (tVar 4) (tCons (tVar 1) tNil))) (tCons (tCall (spRo K CV CN CU) [] Ech (tCons (tVar 4) (tCons (tVar 2) tNil))) tNil)))) D σ H)
      rfl rfl scSn.nd rfl rfl ⟨rfl, by decide, .inl mU⟩ takeA (fun W pn xe tk _ => ?_)
      (fun a oe cls d pn hz hf => pss_one (ps_ret (pe_tup (pa_cons pe_str (pa_cons (pe_xf C.x C.n1 hz hf (pe_lenA 6 (pv 5))) (pa_cons (pe_xf C.x C.n2 hz hf (pe_lenA 6 (pv 5))) pa_nil)))))))), ?_⟩
    · refine ⟨fun pins s' σ H' D I h' => ?_⟩
      obtain ⟨Ech, hW, h3⟩ := h'
      exact (pss_one (ps_ret (pe_tup (pa_cons pe_str (pa_cons (pe_call (E := Ech) DR.G hr (by rfl) DR.m DR.k DR.b .nil (passes_call tk hW) (pa_cons (pv 4) (pa_cons (pv 1) pa_nil))) (pa_cons (pe_call (E := Ech) DR.G hr (by rfl) DR.m DR.k DR.b .nil (passes_call tk hW) (pa_cons (pv 4) (pa_cons (pv 2) pa_nil))) pa_nil)))))).run pins s' σ H' D I h3
    · refine asg_run ⟨_, rfl, _, rfl, few (by show 1 ≤ 1000; decide), fun S nS => fun x dx nx ndx ne => ?_⟩
      have s0 := same_new (u := .tup [sk]) (same_id (H := H)) nS
      have hS : (upd H S (.tup [sk])) S = some (.tup [sk]) := upd_same
      generalize upd H S (.tup [sk]) = H1 at s0 hS nx ndx ⊢
      have s1 := made_sameA (u := .ins CV dx []) nx ndx
      refine ⟨x, dx, nm, S, p0, sk, ts, fs, rfl, upd_same, hN.same (s0.trans s1), SqT.of (s1 _ _ hS), hs.same (s0.trans s1), hp0 _, fun H' kk hV => ⟨rfl, ?_⟩⟩
      have s2 : Same H H' := fun b o e => kk b o (ne_of_none (s0 _ _ e) nx) (s1 _ _ (s0 _ _ e))
      have hf := hf.same s2
      have hg := hg.same s2
      have q := q.up s2
      dsimp only
      refine ⟨fun cls d H2 => ∃ (dd : Addr) (pl qu : Dt) (v u n : V), cls = .ref CU ∧ d = some dd ∧ H2 dd = some (.xd [("question", u), ("place", v), ("number", n)]) ∧ Pt K H2 v pl ∧ Pt K H2 u qu ∧ Same H' H2 ∧ sketchT fs tf tg ts = some (.tup [.str "ask", pl, qu]), fun cls d σ' H2 hh => ?_, ?_⟩
      · obtain ⟨dd, pl, qu, v, u, n, rfl, rfl, e3, hp, hu, s3, e4⟩ := hh
        have sl : ∀ {a : Addr}, (σ'.set 5 (some (.ref a))).length = 6 → (σ'.set 5 (some (.ref a)))[5]? = some (some (.ref a)) := fun lz => List.getElem?_set_self (by rw [List.length_set] at lz; rw [lz]; decide)
        refine ⟨true, C.mt, fun _ a _ => fun lz => ⟨_, sl lz, rfl, rfl, dd, _, _, rfl, e3, rfl, fun lz => ⟨_, sl lz, rfl, rfl, dd, _, _, rfl, e3, rfl, few (by show 3 ≤ 1000; decide), fun T nT => ?_⟩⟩, fun z => by cases z⟩
        rw [e4] at q
        have s4 := same_new (u := .tup [.str "ask", v, u]) (same_id (H := H2)) nT
        exact q _ _ (s3.trans s4) (pt_tup (SqT.of upd_same) (ptl_cons (pt_str "ask") (ptl_cons (hp.same s4) (ptl_cons (hu.same s4) ptl_nil))))
      · unfold sketchT at q ⊢
        refine ⟨_, rfl, _, rfl, x, ts, fs, ff, tf, rfl, hV, hf, hfl, ?_⟩
        cases h1 : rowT fs ts fuelR (begunT tf) with
        | none => rw [h1] at q; exact q.elim
        | some an =>
          rw [h1] at q
          cases an with
          | ask p1 p2 => exact fun H2 dd v u n s3 e hp hu => ⟨dd, p1, p2, v, u, n, rfl, rfl, e, hp, hu, s3, rfl⟩
          | ok ra =>
            intro H2 va s3 hva
            have hva : Pt K H2 va ra := hva
            refine ⟨_, rfl, _, rfl, x, ts, fs, g, tg, rfl, hV.same s3, hg.same s3, hfl, ?_⟩
            dsimp only at q
            cases h2 : rowT fs ts fuelR (begunT tg) with
            | none => rw [h2] at q; exact q.elim
            | some an2 =>
              rw [h2] at q
              cases an2 with
              | ask p1 p2 => exact fun H3 dd v u n s4 e hp hu => ⟨dd, p1, p2, v, u, n, rfl, rfl, e, hp, hu, s3.trans s4, rfl⟩
              | ok rb =>
                intro H3 vb s4 hvb
                have hvb : Pt K H3 vb rb := hvb
                refine ⟨few (by show 3 ≤ 1000; decide), fun T nT => ?_⟩
                have s5 := same_new (u := .tup [.str "rows", va, vb]) (same_id (H := H3)) nT
                exact q _ _ (s3.trans (s4.trans s5)) (pt_tup (SqT.of upd_same) (ptl_cons (pt_str "rows") (ptl_cons (hva.same (s4.trans s5)) (ptl_cons (hvb.same s5) ptl_nil))))
theorem ok_sd {f fD fN fM : Addr} {fd dD dN dM : FuncData} (F : Fun K "sketched" "sketched" sSd f fd) (DD : Dn P w K mg base CX0 2 "demand_chooser" ["term"] (spDc K) fD dD) (DN : Dn P w K mg base CX0 17 "sketched_named" ["names", "f", "g", "sketch"] (spSn K CN) fN dN) (MN : MkD P w K mg base 5 CN "Names" ["self", "terms"] (spNm K CN) fM dM) : FnOk P w K mg base CX0 18 f fd ["f", "g", "sketch"] (spSd K) := by
  refine F.ok (k := 17) scSd (fun vs H Q E h => ?_) (fun cdv A outer s H vs Q E hr h => ?_)
  · obtain ⟨f, g, sk, tf, tg, ts, b, rfl, _⟩ := h
    rfl
  · obtain ⟨ff, g, sk, tf, tg, ts, b, rfl, hf, hg, hs, c1, c2, hb, hok, q⟩ := h
    have hr2 := hr.mono (show 2 ≤ 17 by decide)
    have hr6 := hr.mono (show 6 ≤ 17 by decide)
    refine ⟨_, pss_cons (ps_expr (pe_call DD.G hr2 (by rfl) DD.m DD.k DD.b .nil pass0 (pa_cons (pv 0) pa_nil)))
      (pss_cons (ps_expr (pe_call DD.G hr2 (by rfl) DD.m DD.k DD.b .nil pass0 (pa_cons (pv 1) pa_nil)))
      (pss_one (ps_ret (pe_call DN.G hr (by rfl) DN.m DN.k DN.b .nil pass0 (pa_cons (pe_make MN.mk' MN.G hr6 (by rfl) MN.m MN.b .nil pass0 (pa_cons (pe_tup (pa_cons (pv 0) (pa_cons (pv 1) pa_nil))) pa_nil)) (pa_cons (pv 0) (pa_cons (pv 1) (pa_cons (pv 2) pa_nil)))))))), ?_⟩
    refine ⟨_, rfl, ff, tf, rfl, hf, c1, fun H1 s1 => ?_⟩
    refine ⟨_, rfl, g, tg, rfl, hg.same s1, c2, fun H2 s2 => ?_⟩
    have s12 := s1.trans s2
    refine ⟨_, rfl, _, rfl, few (by show 2 ≤ 1000; decide), fun A nA => fun x dx nx ndx ne => ?_⟩
    have s3 := s12.trans (same_new (u := .tup [ff, g]) same_id nA)
    have hA : Pt K (upd H2 A (.tup [ff, g])) (.ref A) (.tup [tf, tg]) := pt_tup (SqT.of upd_same) (ptl_cons (hf.same s3) (ptl_cons (hg.same s3) ptl_nil))
    generalize upd H2 A (.tup [ff, g]) = H3 at s3 hA nx ndx ⊢
    have s4 := made_sameA (u := .ins CN dx []) nx ndx
    refine ⟨x, dx, .ref A, [tf, tg], b, rfl, upd_same, hA.same s4, hb, hok, fun H' kk hN => ⟨rfl, ?_⟩⟩
    have s5 : Same H H' := fun c o e => kk c o (ne_of_none (s3 _ _ e) nx) (s4 _ _ (s3 _ _ e))
    have hl1 : b.1.length ≤ 1000 := by
      unfold okN at hok
      simp only [Bool.and_eq_true, decide_eq_true_eq] at hok
      omega
    exact ⟨_, rfl, _, rfl, _, rfl, x, b.1, ff, g, sk, tf, tg, ts, rfl, hN, hl1, hf.same s5, hg.same s5, hs.same s5, q.up s5⟩
end
end Toy


namespace Toy
open PySem PySem.Spec L2 PyProof.Rows PySem.W
/-! ### values in any order -/
theorem op_neE {X : Cx} (hu : X.A.units + 64 < cLine) : OpR X (compareOp .NotEq) (fun x y H Q => ∃ (a b : Addr) (xs : List V), x = .ref a ∧ y = .ref b ∧ H a = some (.lst xs) ∧ H b = some (.lst []) ∧ Q (.bl (!xs.isEmpty)) H) := by
  intro pins s σ H x y v u Q I rx ry h
  obtain ⟨a, b, xs, rfl, rfl, ha, hb, q⟩ := h
  cases rx
  cases ry
  obtain ⟨its, r, pl, _⟩ := I.list (SqL.of ha)
  obtain ⟨its2, r2, pl2, _⟩ := I.list (SqL.of hb)
  cases r2
  have hu' : X.A.units < cLine := by omega
  cases r with
  | nil =>
    exact SeqAt.RcNeAt.lists (e := fun _ => true) pl.isList pl2.isList rfl hu' (fun j h1 _ => by simp at h1) _ _ _ _ ⟨.bl false, H, I, rfl, q⟩
  | cons r1 rr =>
    exact SeqAt.RcNeAt.lists_lengths pl.isList pl2.isList (by simp) hu' _ _ _ _ ⟨.bl true, H, I, rfl, q⟩

theorem erase_perm {α : Type} : ∀ (l : List α) (j : Nat) (h : j < l.length), (l[j] :: l.eraseIdx j).Perm l
  | x :: l, 0, _ => List.Perm.refl _
  | x :: l, j + 1, h => (List.Perm.swap x _ _).trans (.cons x (erase_perm l j (Nat.lt_of_succ_lt_succ h)))
theorem erase_map {α β : Type} (f : α → β) : ∀ (l : List α) (j : Nat), (l.map f).eraseIdx j = (l.eraseIdx j).map f
  | [], _ => rfl
  | _ :: _, 0 => rfl
  | x :: l, j + 1 => congrArg (f x :: ·) (erase_map f l j)

def spShuf : Sp := fun vs H Q _ => ∃ (d p : Addr) (l : Tl) (n : Nat) (ks : List V), vs = [.ref d, .ref p] ∧ Tape H d l n ∧ n ≤ 900000 ∧ H p = some (.lst ks) ∧ ks.length ≤ 40 ∧
  ∀ H' R (ys : List V), But d H H' → Tape H' d l (n + ks.length) → H R = none → H' R = some (.lst ys) → ys.Perm ks → Q (.ref R) H'
section
variable {P : Program} {w : World} {K : PySem.W.Frag} {mg : Str → Option Value} {base : Heap}
theorem scSf : FnScope ["_law_tape", "_law_items", "_law_left", "_law_found"] ["_law_tape", "_law_items"] (defScope sShuf) := ⟨rfl, rfl, rfl, by decide +kernel, rfl, by decide +kernel, by decide +kernel⟩
theorem ok_shuf {f fD : Addr} {fd fdD : FuncData} (F : Fun K "_law_shuffled" "_law_shuffled" sShuf f fd) (GD : FnOk P w K mg base CX0 1 fD fdD ["_law_tape", "_law_many"] spDraw) (mD : mg "_law_draw" = some (.ref fD)) (kD : PySem.W.keepIn K (.ref fD) = true) (bD : Binds K fdD ["_law_tape", "_law_many"] []) (mLen : mg "len" = none) (mList : mg "list" = none) :
    FnOk P w K mg base CX0 2 f fd ["_law_tape", "_law_items"] spShuf := by
  refine F.ok scSf (fun vs H Q E h => ?_) (fun cdv A outer s H vs Q E hr h => ?_)
  · obtain ⟨d, p, l, n, ks, rfl, _⟩ := h
    rfl
  · obtain ⟨d, p, l, n, ks, rfl, hT, hn, hp, hlen, q⟩ := h
    refine ⟨_, pss_cons (ps_par (i := 2) (j := 3) rfl scSf.nd rfl rfl (by decide) rfl rfl (pa_cons (pe_callTy call_list_of (by rfl) mList (by decide +kernel) (pa_cons (pv 1) pa_nil)) (pa_cons (pe_lst pa_nil) pa_nil)) (by rfl))
      (pss_cons (ps_while PassesOwn.never (pt_cmpR (op_neE hr.units) (pv 2) (pe_lst pa_nil) (nomark _))
        (pss_one (ps_expr (pe_bm PySem.F.plainAttrs_list PySem.F.slot_list_append PySem.F.type_list_append mt_append (pv 3) (pa_cons (pe_bm PySem.F.plainAttrs_list PySem.F.slot_list_pop PySem.F.type_list_pop mt_popAt (pv 2)
          (pa_cons (pe_call GD hr (by rfl) mD kD bD .nil pass0 (pa_cons (pv 0) (pa_cons (pe_callB call_len_seq (by rfl) mLen PySem.boot_len (pa_cons (pv 2) pa_nil)) pa_nil))) pa_nil)) pa_nil)))))
      (pss_one (ps_ret (pv 3)))), ?_⟩
    refine ⟨_, rfl, p, _, rfl, .inl (SqL.of hp), fun L nL => ⟨Nat.zero_le _, fun G nG => ⟨_, _, rfl, ?_⟩⟩⟩
    have nLG : L ≠ G := ne_of_none upd_same nG
    have nG0 : H G = none := by rw [upd_ne nLG.symm] at nG; exact nG
    have hd0 : ∃ o, H d = some o := by
      obtain ⟨ns, a, f, h1, _⟩ := hT
      exact ⟨_, h1⟩
    obtain ⟨od, hd0⟩ := hd0
    have ndL : d ≠ L := ne_of_none hd0 nL
    have hl0 : ∃ o, H l.a = some o := by
      obtain ⟨ns, a, f, _, h1, _⟩ := hT
      exact ⟨_, h1⟩
    obtain ⟨ol, hl0⟩ := hl0
    have nlL : l.a ≠ L := ne_of_none hl0 nL
    have nlG : l.a ≠ G := ne_of_none hl0 nG0
    have ndG : d ≠ G := ne_of_none hd0 nG0
    refine ⟨fun m σ H' => ∃ xs ys : List V, m = xs.length ∧ σ = [some (.ref d), some (.ref p), some (.ref L), some (.ref G)] ∧ (xs ++ ys).Perm ks ∧ Tape H' d l (n + ys.length) ∧ H' L = some (.lst xs) ∧ H' G = some (.lst ys) ∧ But d H H',
      ⟨_, ks, [], rfl, rfl, by rw [List.append_nil], (hT.same (same_new (same_new (fun _ _ z => z) nL) nG)), (upd_ne nLG).trans upd_same, upd_same, Same.but (same_new (same_new (fun _ _ z => z) nL) nG) d⟩, fun m σ H1 hW => ?_⟩
    obtain ⟨xs, ys, rfl, rfl, hpm, hT1, hL, hG, hb⟩ := hW
    have lens : xs.length + ys.length = ks.length := by rw [← List.length_append]; exact hpm.length_eq
    refine ⟨_, rfl, Nat.zero_le _, fun e ne => ⟨L, e, xs, rfl, rfl, (upd_ne (ne_of_none hL ne)).trans hL, upd_same, _, rfl, ?_⟩⟩
    have s1 : Same H1 (upd H1 e (.lst [])) := same_new (fun _ _ z => z) ne
    cases xs with
    | nil =>
      have hq : (!(([] : List V)).isEmpty) = false := rfl
      rw [hq]
      refine iteF ⟨_, rfl, q _ G ys (hb.trans (Same.but s1 d)) (hT1.same s1 |> fun t => by
        have e2 : ys.length = ks.length := by simpa using lens
        rw [e2] at t
        exact t) nG0 (s1 _ _ hG) (by simpa using hpm)⟩
    | cons x xs =>
      have hq : (!(x :: xs).isEmpty) = true := rfl
      rw [hq]
      refine iteT ?_
      have hL1 := s1 _ _ hL
      have hG1 := s1 _ _ hG
      have lp : (x :: xs).length = xs.length + 1 := rfl
      refine ⟨fun σ' H' => ∃ xs' ys' : List V, xs.length = xs'.length ∧ σ' = [some (.ref d), some (.ref p), some (.ref L), some (.ref G)] ∧ (xs' ++ ys').Perm ks ∧ Tape H' d l (n + ys'.length) ∧ H' L = some (.lst xs') ∧ H' G = some (.lst ys') ∧ But d H H',
        fun σ' H' ⟨xs', ys', h1, h2⟩ => ⟨xs.length, Nat.lt_succ_self _, xs', ys', h1, h2⟩, ?_⟩
      have lens' : xs.length + 1 + ys.length = ks.length := by simpa using lens
      refine ⟨_, rfl, .inl ⟨rfl, _, SqL.of hG1⟩, _, rfl, .inl ⟨rfl, _, SqL.of hL1⟩, _, rfl, _, rfl, L, _, rfl, .inl (SqL.of hL1), d, l, n + ys.length, _, rfl, hT1.same s1, by omega, by rw [lp]; omega, by rw [lp]; omega, fun H2 r b2 t2 r0 r1 => ?_⟩
      rw [lp] at r1
      obtain ⟨j, rfl⟩ : ∃ j : Nat, r = (j : Int) := ⟨r.toNat, by omega⟩
      have hj : j < (x :: xs).length := by simp only [List.length_cons]; omega
      have hL2 := b2 _ _ ndL.symm hL1
      have hG2 := b2 _ _ ndG.symm hG1
      have g1 : (x :: xs)[j]? = some (x :: xs)[j] := List.getElem?_eq_getElem hj
      refine ⟨L, _, _, j, _, rfl, rfl, hL2, by omega, by omega, by rw [seqIndex_of (by omega) (by rw [lp]; omega)]; simp, g1, ?_⟩
      refine ⟨G, _, _, rfl, rfl, (upd_ne nLG.symm).trans hG2, small1000 (by omega), (x :: xs).eraseIdx j, ys ++ [(x :: xs)[j]], ?_, rfl, ?_, ?_, ?_, ?_, ?_⟩
      · rw [List.length_eraseIdx, if_pos hj]
        simp
      · refine List.Perm.trans ?_ hpm
        have z := erase_perm (x :: xs) j hj
        have z2 : ((x :: xs).eraseIdx j ++ (ys ++ [(x :: xs)[j]])).Perm ((x :: xs)[j] :: (x :: xs).eraseIdx j ++ ys) := by
          rw [← List.append_assoc]
          exact List.perm_append_comm.trans (by simp)
        exact z2.trans (List.Perm.append_right ys z)
      · rw [List.length_append]
        obtain ⟨ms, a, f', h1, h2, h3⟩ := t2
        exact ⟨ms, a, f', by rw [upd_ne ndG, upd_ne ndL]; exact h1, by rw [upd_ne nlG, upd_ne nlL]; exact h2, h3⟩
      · rw [upd_ne nLG, upd_same]
      · rw [upd_same]
      · intro b o hb0 ho
        have h2 := b2 _ _ hb0 (s1 _ _ (hb b o hb0 ho))
        rw [upd_ne (ne_of_none ho nG0), upd_ne (ne_of_none ho nL)]
        exact h2
end
end Toy


namespace Toy
open PySem PySem.Spec L2 PyProof.Rows PySem.W
/-! ### the law's cases -/
theorem scEa : FnScope ["_law_f"] ["_law_f"] (defScope sEa) := ⟨rfl, rfl, rfl, by decide +kernel, rfl, by decide +kernel, by decide +kernel⟩
abbrev NCa : List Str := ["_law_a", "_law_n", "_law_t", "_law_hole", "_law_same", "_law_none", "_law_every", "_law_x", "_law_row", "_law_is_n", "_law_found", "_law_full"]
theorem scCa : FnScope NCa ["_law_a", "_law_n", "_law_t"] (defScope sCa) := ⟨rfl, rfl, rfl, by decide +kernel, rfl, by decide +kernel, by decide +kernel⟩
abbrev NLc : List Str := ["_law_a", "_law_n", "_law_t", "_law_hole", "_law_same", "_law_none", "_law_every", "_law_zero", "_law_one", "_law_row", "_law_is_t", "_law_more", "_law_found", "_law_first", "_law_other"]
theorem scLc : FnScope NLc ["_law_a", "_law_n", "_law_t"] (defScope sLc) := ⟨rfl, rfl, rfl, by decide +kernel, rfl, by decide +kernel, by decide +kernel⟩
def eachD (t : Dt) : Dt := .tup [.str "pipe", .tup [.str "every"], t]
def spEa (K : PySem.W.Frag) : Sp := fun vs H Q _ => ∃ (v : V) (t : Dt), vs = [v] ∧ Pt K H v t ∧ ∀ H' r, Same H H' → Pt K H' r (eachD t) → Q r H'
def casesA (a : Str) (n : Int) (t : Str) : List Dt := [c0 a n t, c1 a n t, c2 a n t, c3 a n t, c4 a n t, c5 a n t, c6 a n t, c7 a n t, c8 a n t, c9 a n t, c10 a n t, c11 a n t, c12 a n t, c13 a n t, c14 a n t, c15 a n t, c16 a n t, c17 a n t]
def casesB (a : Str) (n : Int) (t : Str) : List Dt := [c18 a n t, c19 a n t, c20 a n t, c21 a n t, c22 a n t, c23 a n t, c24 a n t, c25 a n t, c26 a n t, c27 a n t, c28 a n t, c29 a n t, c30 a n t, c31 a n t, c32 a n t, c33 a n t, c34 a n t, c35 a n t]
def spLc (K : PySem.W.Frag) : Sp := fun vs H Q _ => ∃ (a : Str) (n : Int) (t : Str), vs = [.str a, .int n, .str t] ∧ a.length ≤ 100 ∧ ∀ H' L xs, Same H H' → H L = none → H' L = some (.lst xs) → PtL K H' xs (casesB a n t) → Q (.ref L) H'
def spCa (K : PySem.W.Frag) : Sp := fun vs H Q _ => ∃ (a : Str) (n : Int) (t : Str), vs = [.str a, .int n, .str t] ∧ a.length ≤ 100 ∧ ∀ H' L xs, Same H H' → H L = none → H' L = some (.lst xs) → PtL K H' xs (casesA a n t ++ casesB a n t) → Q (.ref L) H'
/-- what the names hold -/
def StE (K : PySem.W.Frag) (H : Hp) (σ : L2.St) (env : List (Option Dt)) : Prop := σ.length = env.length ∧ ∀ (i : Nat) (r : Dt), env[i]? = some (some r) → ∃ v : V, σ[i]? = some (some v) ∧ Pt K H v r
structure CS (K : PySem.W.Frag) (H0 H : Hp) (σ : L2.St) (env : List (Option Dt)) (iL : Nat) (L : Addr) (ts : List Dt) : Prop where
  e : StE K H σ env
  g : σ[iL]? = some (some (.ref L))
  u : env[iL]? = some none
  l : ∃ xs, H L = some (.lst xs) ∧ PtL K H xs ts
  s : Same H0 H
  n : H0 L = none
def setL : List (Option Dt) → List Nat → List Dt → List (Option Dt)
  | env, i :: is, r :: rs => setL (env.set i (some r)) is rs
  | env, _, _ => env
def gNames : List Nat → TGs
  | [] => gNil
  | i :: l => gCons (gName i) (gNames l)
section
variable {K : PySem.W.Frag} {H H0 H1 : Hp} {σ : L2.St} {env : List (Option Dt)} {L : Addr} {ts rs : List Dt} {r r2 : Dt} {te : TE} {ta : TA} {rest : TS} {D : Ends} {iL : Nat}
theorem StE.same (h : StE K H σ env) (s : Same H H1) : StE K H1 σ env := ⟨h.1, fun i r e => by
  obtain ⟨v, e1, e2⟩ := h.2 i r e
  exact ⟨v, e1, e2.same s⟩⟩
theorem StE.but {xs : List V} (h : StE K H σ env) (b : But L H H1) (hL : H L = some (.lst xs)) : StE K H1 σ env := ⟨h.1, fun i r e => by
  obtain ⟨v, e1, e2⟩ := h.2 i r e
  exact ⟨v, e1, e2.but b hL⟩⟩
theorem StE.set {i : Nat} {v : V} (h : StE K H σ env) (hv : Pt K H v r) (hi : i < env.length) : StE K H (σ.set i (some v)) (env.set i (some r)) := ⟨by rw [List.length_set, List.length_set]; exact h.1, fun j r' e => by
  by_cases hj : i = j
  · subst hj
    rw [List.getElem?_set_self hi] at e
    cases e
    exact ⟨v, List.getElem?_set_self (by rw [h.1]; exact hi), hv⟩
  · rw [List.getElem?_set_ne hj] at e
    obtain ⟨u, e1, e2⟩ := h.2 j r' e
    exact ⟨u, by rw [List.getElem?_set_ne hj]; exact e1, e2⟩⟩
theorem gv_env {i : Nat} (h : StE K H σ env) (e : env[i]? = some (some r)) : Gv K (tVar i) σ H r := by
  obtain ⟨v, e1, e2⟩ := h.2 i r e
  exact gv_var e1 e2
theorem gv_each {te : TE} {t : Dt} (h : Gv K te σ H t) : Gv K (tCall (spEa K) [] E0 (tCons te tNil)) σ H (eachD t) := fun H1 s Q q => h H1 s _ fun H2 v s2 hv => ⟨v, t, rfl, hv, fun H3 r s3 hr => q H3 r (s2.trans s3) hr⟩
theorem gv_addS {te tf : TE} {a b : Str} (h : Gv K te σ H (.str a)) (k : Gv K tf σ H (.str b)) (hl : a.length + b.length ≤ 3000) : Gv K (tOp (fun x y H Q => ∃ i j, x = .str i ∧ y = .str j ∧ i.length + j.length ≤ sizeLine ∧ Q (.str (i ++ j)) H) te tf) σ H (.str (a ++ b)) := fun H1 s Q q => h H1 s _ fun H2 v s2 hv => k H2 (s.trans s2) _ fun H3 u s3 hu => by
  obtain rfl := hv.str
  obtain rfl := hu.str
  exact ⟨a, b, rfl, rfl, by rw [sizeLine_eq]; omega, q H3 _ (s2.trans s3) (pt_str _)⟩
theorem app_step (c : CS K H0 H σ env iL L ts) (g : Gv K te σ H r) (hl : ts.length ≤ 500) (k : ∀ H', CS K H0 H' σ env iL L (ts ++ [r]) → rest D σ H') : tSeq (tDrop (tBM K "list" rAppend (tVar iL) (tCons te tNil))) rest D σ H := by
  obtain ⟨xs, hL, hx⟩ := c.l
  refine ⟨_, c.g, .inl ⟨rfl, _, SqL.of hL⟩, g H same_id _ fun H1 x s1 hx1 => ?_⟩
  have hL1 := s1 _ _ hL
  refine ⟨L, xs, x, rfl, rfl, hL1, by rw [hx.len, sizeLine_eq]; omega, k _ ⟨(c.e.same s1).but but_put hL1, c.g, c.u, ⟨_, upd_same, ((hx.same s1).put hL1).app (ptl_cons (hx1.put hL1) ptl_nil)⟩, same_put (c.s.trans s1) c.n, c.n⟩⟩
theorem new_list (h : StE K H σ env) (g : GvA K ta σ H ts) (hl : ts.length ≤ 500) (hi : env[iL]? = some none) (k : ∀ H' L σ', CS K H H' σ' env iL L ts → rest D σ' H') : tSeq (tAsg (tLst ta) (gName iL)) rest D σ H := by
  refine g H same_id _ fun H1 xs s1 hx => ⟨by rw [hx.len, sizeLine_eq]; omega, fun L nL => ?_⟩
  have s2 := same_new (u := .lst xs) s1 nL
  have hz : iL < σ.length := by
    rw [h.1]
    exact (List.getElem?_eq_some_iff.mp hi).1
  refine k _ L _ ⟨⟨by rw [List.length_set]; exact h.1, fun i r e => ?_⟩, List.getElem?_set_self hz, hi, ⟨xs, upd_same, hx.same (same_new same_id nL)⟩, s2, none_of s1 nL⟩
  obtain ⟨v, e1, e2⟩ := (h.same s2).2 i r e
  refine ⟨v, ?_, e2⟩
  rw [List.getElem?_set_ne (fun z => ?_)]
  · exact e1
  · subst z
    rw [hi] at e
    cases e
theorem set_env {i : Nat} (h : StE K H σ env) (g : Gv K te σ H r) (hy : i < env.length) (k : ∀ H' σ', Same H H' → StE K H' σ' (env.set i (some r)) → rest D σ' H') : tSeq (tAsg te (gName i)) rest D σ H := g H same_id _ fun H1 v s1 hv => k H1 _ s1 ((h.same s1).set hv hy)
theorem set_par {i j : Nat} (h : StE K H σ env) (g : GvA K ta σ H [r, r2]) (hi : i < env.length) (hj : j < env.length) (k : ∀ H' σ', Same H H' → StE K H' σ' ((env.set i (some r)).set j (some r2)) → rest D σ' H') : tSeq (tPar i j ta) rest D σ H := g H same_id _ fun H1 vs s1 hv => by
  obtain ⟨v, us, rfl, h1, hv1⟩ := hv.cons
  obtain ⟨u, us, rfl, h2, hv2⟩ := hv1.cons
  obtain rfl := hv2.nil
  exact ⟨v, u, rfl, k H1 _ s1 (((h.same s1).set h1 hi).set h2 (by rw [List.length_set]; exact hj))⟩
theorem gnames_run : ∀ (is : List Nat) (xs : List V) (rs : List Dt) (σ : L2.St) (env : List (Option Dt)) (Q : L2.St → Hp → Prop), StE K H σ env → PtL K H xs rs → is.length = rs.length → (∀ i ∈ is, i < env.length) → (∀ σ', StE K H σ' (setL env is rs) → Q σ' H) → gNames is xs σ H Q
  | [], xs, [], σ, env, Q, h, hx, _, _, k => by
    obtain rfl := hx.nil
    exact ⟨rfl, k _ h⟩
  | i :: is, xs, r :: rs, σ, env, Q, h, hx, hl, hb, k => by
    obtain ⟨v, us, rfl, h1, h2⟩ := hx.cons
    exact ⟨v, us, rfl, gnames_run is us rs _ _ _ (h.set h1 (hb i (by simp))) h2 (by simpa using hl) (fun j hj => by rw [List.length_set]; exact hb j (by simp [hj])) k⟩
theorem unp {is : List Nat} {n : Nat} (h : StE K H σ env) (g : Gv K te σ H (.tup rs)) (hl : is.length = rs.length) (hn : rs.length = n) (hb : ∀ i ∈ is, i < env.length) (k : ∀ H' σ', Same H H' → StE K H' σ' (setL env is rs) → rest D σ' H') : tSeq (tAsg te (gTup K n (gNames is))) rest D σ H := g H same_id _ fun H1 v s1 hv => by
  obtain ⟨a, us, rfl, ha, hus⟩ := hv.tup
  exact ⟨a, us, rfl, ha, by rw [hus.len]; exact hn, gnames_run is us rs _ _ _ (h.same s1) hus hl hb fun σ' h' => k H1 σ' s1 h'⟩
theorem set_cs {i : Nat} (c : CS K H0 H σ env iL L ts) (g : Gv K te σ H r) (hy : i < env.length) (hne : i ≠ iL) (k : ∀ H' σ', CS K H0 H' σ' (env.set i (some r)) iL L ts → rest D σ' H') : tSeq (tAsg te (gName i)) rest D σ H := g H same_id _ fun H1 v s1 hv => k H1 _ ⟨(c.e.same s1).set hv hy, by rw [List.getElem?_set_ne hne]; exact c.g, by rw [List.getElem?_set_ne hne]; exact c.u, by
  obtain ⟨xs, h1, h2⟩ := c.l
  exact ⟨xs, s1 _ _ h1, h2.same s1⟩, c.s.trans s1, c.n⟩
end
section
variable {P : Program} {w : World} {K : PySem.W.Frag} {mg : Str → Option Value} {base : Heap}
theorem ok_ea {f : Addr} {fd : FuncData} (F : Fun K "_law_each" "_law_each" sEa f fd) : FnOk P w K mg base CX0 1 f fd ["_law_f"] (spEa K) := by
  refine F.ok (k := 0) scEa (fun vs H Q E h => ?_) (fun cdv A outer s H vs Q E hr h => ?_)
  · obtain ⟨v, t, rfl, _⟩ := h
    rfl
  · obtain ⟨v, t, rfl, hv, q⟩ := h
    refine ⟨_, pss_one (ps_ret (pe_tup (pa_cons pe_str (pa_cons (pe_tup (pa_cons pe_str pa_nil)) (pa_cons (pv 0) pa_nil))))), ?_⟩
    exact ret_run (Gv.run (K := K) (r := eachD t) (H := H) (by unfold eachD; (repeat' (first | exact gv_nil | exact gv_str _ | exact gv_int _ | exact gv_bl _ | exact gv_non | exact gv_var rfl (by assumption) | refine gv_tup ?_ (by simp <;> omega) | refine gv_cons ?_ ?_ | exact gv_ixv0 (by rfl) (by assumption) (by rfl) | exact gv_ixv1 (by rfl) (by assumption) (by rfl) | exact gv_ixv2 (by rfl) (by assumption) (by rfl) | exact gv_ixv3 (by rfl) (by assumption) (by rfl) | refine gv_star1 ?_ | refine gv_star ?_ ?_ | refine gv_d1 ?_ | refine gv_dl ?_ | refine gv_cat ?_ ?_ (by simp <;> omega)))) same_id fun H4 v4 s4 h4' => q _ _ s4 h4')
theorem ok_lc {f fE : Addr} {fd dE : FuncData} (F : Fun K "_law_list_cases" "_law_list_cases" sLc f fd) (DE : Dn P w K mg base CX0 1 "_law_each" ["_law_f"] (spEa K) fE dE) : FnOk P w K mg base CX0 2 f fd ["_law_a", "_law_n", "_law_t"] (spLc K) := by
  refine F.ok (k := 1) scLc (fun vs H Q E h => ?_) (fun cdv A outer s H vs Q E hr h => ?_)
  · obtain ⟨a, n, t, rfl, _⟩ := h
    rfl
  · obtain ⟨ta, n, t, rfl, ha, q⟩ := h
    refine ⟨_, pss_cons (ps_asg (pe_tup (pa_cons (pe_tup (pa_cons pe_str pa_nil)) (pa_cons (pe_tup (pa_cons pe_str pa_nil)) (pa_cons (pe_tup (pa_cons pe_str pa_nil)) (pa_cons (pe_tup (pa_cons pe_str pa_nil)) pa_nil))))) (pg_tup rfl (pgs_cons (pg_name (i := 3) scLc.nd rfl (.inl rfl)) (pgs_cons (pg_name (i := 4) scLc.nd rfl (.inl rfl)) (pgs_cons (pg_name (i := 5) scLc.nd rfl (.inl rfl)) (pgs_cons (pg_name (i := 6) scLc.nd rfl (.inl rfl)) pgs_nil))))))
      (pss_cons (ps_asg (pe_tup (pa_cons (pe_tup (pa_cons pe_str (pa_cons pe_int pa_nil))) (pa_cons (pe_tup (pa_cons pe_str (pa_cons pe_int pa_nil))) pa_nil))) (pg_tup rfl (pgs_cons (pg_name (i := 7) scLc.nd rfl (.inl rfl)) (pgs_cons (pg_name (i := 8) scLc.nd rfl (.inl rfl)) pgs_nil))))
      (pss_cons (ps_par (i := 9) (j := 10) rfl scLc.nd rfl rfl (by decide) rfl rfl (pa_cons (pe_tup (pa_cons (pe_tup (pa_cons (pe_tup pa_nil) pa_nil)) (pa_cons pe_bl pa_nil))) (pa_cons (pe_tup (pa_cons pe_str (pa_cons (pe_tup (pa_cons pe_str (pa_cons (pv 2) pa_nil))) (pa_cons (pv 4) (pa_cons (pv 5) pa_nil))))) pa_nil)) (by rfl))
      (pss_cons (ps_set (i := 11) scLc.nd rfl (Or.inl rfl) (pe_tup (pa_cons pe_str (pa_cons (pe_tup pa_nil) (pa_cons (pe_tup (pa_cons pe_str pa_nil)) pa_nil)))))
      (pss_cons (ps_set (i := 12) scLc.nd rfl (Or.inl rfl) (pe_lst (pa_cons (pe_tup (pa_cons (pv 8) (pa_cons (pv 4) (pa_cons (pe_tup (pa_cons pe_str (pa_cons (pe_tup pa_nil) (pa_cons pe_bl pa_nil)))) (pa_cons (pv 11) pa_nil))))) (pa_cons (pe_tup (pa_cons (pv 8) (pa_cons (pv 4) (pa_cons (pe_tup (pa_cons pe_str (pa_cons (pe_tup (pa_cons (pv 3) pa_nil)) (pa_cons pe_bl pa_nil)))) (pa_cons (pv 11) pa_nil))))) pa_nil))))
      (pss_cons (ps_expr (pe_bm PySem.F.plainAttrs_list PySem.F.slot_list_append PySem.F.type_list_append mt_append (pv 12) (pa_cons (pe_tup (pa_cons (pv 8) (pa_cons (pv 4) (pa_cons (pe_tup (pa_cons pe_str (pa_cons (pe_tup (pa_cons (pv 3) pa_nil)) (pa_cons pe_bl pa_nil)))) (pa_cons (pe_tup (pa_cons pe_str (pa_cons (pe_tup (pa_cons (pe_tup pa_nil) (pa_cons pe_bl pa_nil))) (pa_cons (pv 9) pa_nil)))) pa_nil))))) pa_nil)))
      (pss_cons (ps_expr (pe_bm PySem.F.plainAttrs_list PySem.F.slot_list_append PySem.F.type_list_append mt_append (pv 12) (pa_cons (pe_tup (pa_cons (pv 8) (pa_cons (pv 7) (pa_cons (pe_tup (pa_cons pe_str (pa_cons (pe_tup (pa_cons (pv 3) (pa_cons (pv 3) pa_nil))) (pa_cons pe_bl pa_nil)))) (pa_cons (pe_tup (pa_cons pe_str (pa_cons (pe_tup (pa_cons (pe_tup (pa_cons (pe_tup (pa_cons pe_int pa_nil)) pa_nil)) (pa_cons pe_bl pa_nil))) (pa_cons (pe_tup (pa_cons (pe_tup (pa_cons (pe_tup (pa_cons pe_int pa_nil)) pa_nil)) (pa_cons pe_bl pa_nil))) pa_nil)))) pa_nil))))) pa_nil)))
      (pss_cons (ps_expr (pe_bm PySem.F.plainAttrs_list PySem.F.slot_list_append PySem.F.type_list_append mt_append (pv 12) (pa_cons (pe_tup (pa_cons (pv 6) (pa_cons (pv 4) (pa_cons (pe_tup (pa_cons pe_str (pa_cons (pe_tup (pa_cons (pv 3) pa_nil)) (pa_cons pe_bl pa_nil)))) (pa_cons (pe_tup (pa_cons pe_str (pa_cons (pe_tup pa_nil) (pa_cons (pe_tup (pa_cons pe_str pa_nil)) pa_nil)))) pa_nil))))) pa_nil)))
      (pss_cons (ps_expr (pe_bm PySem.F.plainAttrs_list PySem.F.slot_list_append PySem.F.type_list_append mt_append (pv 12) (pa_cons (pe_tup (pa_cons (pv 6) (pa_cons (pv 4) (pa_cons (pe_tup (pa_cons pe_str (pa_cons (pe_tup (pa_cons (pv 3) (pa_cons (pv 3) pa_nil))) (pa_cons pe_bl pa_nil)))) (pa_cons (pe_tup (pa_cons pe_str (pa_cons (pe_tup (pa_cons (pe_tup (pa_cons (pe_tup (pa_cons pe_int pa_nil)) (pa_cons (pe_tup (pa_cons pe_int pa_nil)) pa_nil))) (pa_cons pe_bl pa_nil))) (pa_cons (pv 9) pa_nil)))) pa_nil))))) pa_nil)))
      (pss_cons (ps_expr (pe_bm PySem.F.plainAttrs_list PySem.F.slot_list_append PySem.F.type_list_append mt_append (pv 12) (pa_cons (pe_tup (pa_cons (pe_call DE.G hr (by rfl) DE.m DE.k DE.b .nil pass0 (pa_cons (pv 10) pa_nil)) (pa_cons (pv 4) (pa_cons (pe_tup (pa_cons pe_str (pa_cons (pe_tup (pa_cons (pv 3) pa_nil)) (pa_cons pe_bl pa_nil)))) (pa_cons (pe_tup (pa_cons pe_str (pa_cons (pe_tup (pa_cons pe_int pa_nil)) (pa_cons (pe_tup (pa_cons pe_str pa_nil)) pa_nil)))) pa_nil))))) pa_nil)))
      (pss_cons (ps_expr (pe_bm PySem.F.plainAttrs_list PySem.F.slot_list_append PySem.F.type_list_append mt_append (pv 12) (pa_cons (pe_tup (pa_cons (pe_call DE.G hr (by rfl) DE.m DE.k DE.b .nil pass0 (pa_cons (pv 10) pa_nil)) (pa_cons (pv 4) (pa_cons (pe_tup (pa_cons pe_str (pa_cons (pe_tup (pa_cons (pe_tup (pa_cons pe_str pa_nil)) pa_nil)) (pa_cons pe_bl pa_nil)))) (pa_cons (pe_tup (pa_cons pe_str (pa_cons (pe_tup (pa_cons pe_int pa_nil)) (pa_cons (pe_tup (pa_cons pe_str pa_nil)) pa_nil)))) pa_nil))))) pa_nil)))
      (pss_cons (ps_expr (pe_bm PySem.F.plainAttrs_list PySem.F.slot_list_append PySem.F.type_list_append mt_append (pv 12) (pa_cons (pe_tup (pa_cons (pe_call DE.G hr (by rfl) DE.m DE.k DE.b .nil pass0 (pa_cons (pv 10) pa_nil)) (pa_cons (pv 4) (pa_cons (pe_tup (pa_cons pe_str (pa_cons (pe_tup (pa_cons (pe_tup (pa_cons pe_str (pa_cons (pv 2) pa_nil))) pa_nil)) (pa_cons pe_bl pa_nil)))) (pa_cons (pe_tup (pa_cons pe_str (pa_cons (pe_tup pa_nil) (pa_cons (pe_tup (pa_cons pe_str pa_nil)) pa_nil)))) pa_nil))))) pa_nil)))
      (pss_cons (ps_expr (pe_bm PySem.F.plainAttrs_list PySem.F.slot_list_append PySem.F.type_list_append mt_append (pv 12) (pa_cons (pe_tup (pa_cons (pe_call DE.G hr (by rfl) DE.m DE.k DE.b .nil pass0 (pa_cons (pe_tup (pa_cons pe_str (pa_cons (pv 0) pa_nil))) pa_nil)) (pa_cons (pv 6) (pa_cons (pe_tup (pa_cons pe_str (pa_cons (pe_tup (pa_cons (pe_tup (pa_cons pe_str (pa_cons pe_non pa_nil))) (pa_cons (pv 3) pa_nil))) (pa_cons pe_bl pa_nil)))) (pa_cons (pe_tup (pa_cons pe_str (pa_cons (pe_tup pa_nil) (pa_cons (pe_tup (pa_cons pe_str pa_nil)) pa_nil)))) pa_nil))))) pa_nil)))
      (pss_cons (ps_expr (pe_bm PySem.F.plainAttrs_list PySem.F.slot_list_append PySem.F.type_list_append mt_append (pv 12) (pa_cons (pe_tup (pa_cons (pe_call DE.G hr (by rfl) DE.m DE.k DE.b .nil pass0 (pa_cons (pe_tup (pa_cons pe_str (pa_cons (pv 0) pa_nil))) pa_nil)) (pa_cons (pv 4) (pa_cons (pe_tup (pa_cons pe_str (pa_cons (pe_tup (pa_cons (pe_tup (pa_cons pe_str (pa_cons pe_non pa_nil))) (pa_cons (pv 3) pa_nil))) (pa_cons pe_bl pa_nil)))) (pa_cons (pe_tup (pa_cons pe_str (pa_cons (pe_tup (pa_cons (pe_tup pa_nil) (pa_cons pe_bl pa_nil))) (pa_cons (pv 9) pa_nil)))) pa_nil))))) pa_nil)))
      (pss_cons (ps_expr (pe_bm PySem.F.plainAttrs_list PySem.F.slot_list_append PySem.F.type_list_append mt_append (pv 12) (pa_cons (pe_tup (pa_cons (pe_tup (pa_cons pe_str (pa_cons (pv 6) (pa_cons (pe_tup (pa_cons pe_str pa_nil)) pa_nil)))) (pa_cons (pv 5) (pa_cons (pe_tup (pa_cons pe_str (pa_cons (pe_tup pa_nil) (pa_cons pe_bl pa_nil)))) (pa_cons (pe_tup (pa_cons pe_str (pa_cons (pe_tup (pa_cons (pe_tup pa_nil) (pa_cons pe_bl pa_nil))) (pa_cons (pe_tup (pa_cons (pe_tup pa_nil) (pa_cons pe_bl pa_nil))) pa_nil)))) pa_nil))))) pa_nil)))
      (pss_cons (ps_set (i := 13) scLc.nd rfl (Or.inl rfl) (pe_tup (pa_cons pe_str (pa_cons (pe_tup (pa_cons pe_str (pa_cons (pe_tup (pa_cons pe_str (pa_cons pe_str pa_nil))) (pa_cons (pe_tup (pa_cons pe_str (pa_cons (pv 7) (pa_cons (pe_tup (pa_cons pe_str (pa_cons (pv 1) pa_nil))) pa_nil)))) pa_nil)))) (pa_cons (pv 4) (pa_cons (pv 5) pa_nil))))))
      (pss_cons (ps_expr (pe_bm PySem.F.plainAttrs_list PySem.F.slot_list_append PySem.F.type_list_append mt_append (pv 12) (pa_cons (pe_tup (pa_cons (pv 13) (pa_cons (pv 5) (pa_cons (pe_tup (pa_cons pe_str (pa_cons (pe_tup pa_nil) (pa_cons pe_bl pa_nil)))) (pa_cons (pe_tup (pa_cons pe_str (pa_cons (pe_tup pa_nil) (pa_cons (pe_tup (pa_cons pe_str pa_nil)) pa_nil)))) pa_nil))))) pa_nil)))
      (pss_cons (ps_expr (pe_bm PySem.F.plainAttrs_list PySem.F.slot_list_append PySem.F.type_list_append mt_append (pv 12) (pa_cons (pe_tup (pa_cons (pv 13) (pa_cons (pv 5) (pa_cons (pe_tup (pa_cons pe_str (pa_cons (pe_tup (pa_cons (pv 3) pa_nil)) (pa_cons pe_bl pa_nil)))) (pa_cons (pe_tup (pa_cons pe_str (pa_cons (pe_tup (pa_cons pe_int pa_nil)) (pa_cons (pe_tup (pa_cons pe_str pa_nil)) pa_nil)))) pa_nil))))) pa_nil)))
      (pss_cons (ps_expr (pe_bm PySem.F.plainAttrs_list PySem.F.slot_list_append PySem.F.type_list_append mt_append (pv 12) (pa_cons (pe_tup (pa_cons (pv 13) (pa_cons (pv 5) (pa_cons (pe_tup (pa_cons pe_str pa_nil)) (pa_cons (pe_tup (pa_cons pe_str (pa_cons (pe_tup (pa_cons (pe_tup pa_nil) (pa_cons pe_bl pa_nil))) (pa_cons (pe_tup (pa_cons (pe_tup pa_nil) (pa_cons pe_bl pa_nil))) pa_nil)))) pa_nil))))) pa_nil)))
      (pss_cons (ps_set (i := 14) scLc.nd rfl (Or.inl rfl) (pe_tup (pa_cons pe_str (pa_cons (pe_tup (pa_cons pe_str (pa_cons (pe_tup (pa_cons pe_str (pa_cons pe_str pa_nil))) (pa_cons (pe_tup (pa_cons pe_str (pa_cons (pv 2) pa_nil))) pa_nil)))) (pa_cons (pv 4) (pa_cons (pv 5) pa_nil))))))
      (pss_cons (ps_expr (pe_bm PySem.F.plainAttrs_list PySem.F.slot_list_append PySem.F.type_list_append mt_append (pv 12) (pa_cons (pe_tup (pa_cons (pv 14) (pa_cons (pv 5) (pa_cons (pe_tup (pa_cons pe_str (pa_cons (pe_tup pa_nil) (pa_cons pe_bl pa_nil)))) (pa_cons (pe_tup (pa_cons pe_str (pa_cons (pv 9) (pa_cons (pe_tup (pa_cons (pe_tup pa_nil) (pa_cons pe_bl pa_nil))) pa_nil)))) pa_nil))))) pa_nil)))
      (pss_cons (ps_expr (pe_bm PySem.F.plainAttrs_list PySem.F.slot_list_append PySem.F.type_list_append mt_append (pv 12) (pa_cons (pe_tup (pa_cons (pv 14) (pa_cons (pv 5) (pa_cons (pe_tup (pa_cons pe_str pa_nil)) (pa_cons (pe_tup (pa_cons pe_str (pa_cons (pe_tup pa_nil) (pa_cons (pe_tup (pa_cons pe_str pa_nil)) pa_nil)))) pa_nil))))) pa_nil)))
      (pss_one (ps_ret (pe_op op_cat (pv 12) (pe_lst (pa_cons (pe_tup (pa_cons (pe_tup (pa_cons pe_str (pa_cons (pv 7) pa_nil))) (pa_cons (pe_tup (pa_cons pe_str (pa_cons (pv 7) (pa_cons (pv 4) pa_nil)))) (pa_cons (pe_tup (pa_cons pe_str (pa_cons pe_bl pa_nil))) (pa_cons (pe_tup (pa_cons pe_str (pa_cons (pe_tup (pa_cons (pe_tup pa_nil) (pa_cons pe_bl pa_nil))) (pa_cons (pe_tup (pa_cons (pe_tup pa_nil) (pa_cons pe_bl pa_nil))) pa_nil)))) pa_nil))))) pa_nil)))))))))))))))))))))))))), ?_⟩
    have hE : StE K H (L2.start NLc [.str ta, .int n, .str t]) [some (.str ta), some (.int n), some (.str t), none, none, none, none, none, none, none, none, none, none, none, none] := by
      refine ⟨rfl, fun i r e => ?_⟩
      match i, e with
      | 0, e => cases e; exact ⟨_, rfl, pt_str ta⟩
      | 1, e => cases e; exact ⟨_, rfl, pt_int n⟩
      | 2, e => cases e; exact ⟨_, rfl, pt_str t⟩
      | 3, e | 4, e | 5, e | 6, e | 7, e | 8, e | 9, e | 10, e | 11, e | 12, e | 13, e | 14, e => cases e
      | i + 15, e => cases e
    refine unp (is := [3, 4, 5, 6]) (rs := [.tup [.str "hole"], .tup [.str "same"], .tup [.str "none"], .tup [.str "every"]]) hE (by (repeat' (first | exact gv_nil | exact gv_str _ | exact gv_int _ | exact gv_bl _ | exact gv_non | exact gv_env (by assumption) rfl | refine gv_tup ?_ (by simp) | refine gv_cons ?_ ?_ | exact gv_each (gv_env (by assumption) rfl) | refine gv_each ?_))) rfl rfl (by simp) fun H1 σ1 s1 hE => ?_
    simp only [setL, List.set_cons_zero, List.set_cons_succ] at hE
    refine unp (is := [7, 8]) (rs := [.tup [.str "item", .int 0], .tup [.str "item", .int 1]]) hE (by (repeat' (first | exact gv_nil | exact gv_str _ | exact gv_int _ | exact gv_bl _ | exact gv_non | exact gv_env (by assumption) rfl | refine gv_tup ?_ (by simp) | refine gv_cons ?_ ?_ | exact gv_each (gv_env (by assumption) rfl) | refine gv_each ?_))) rfl rfl (by simp) fun H2 σ2 s2 hE => ?_
    simp only [setL, List.set_cons_zero, List.set_cons_succ] at hE
    refine set_par (i := 9) (j := 10) (r := .tup [.tup [.tup []], .bl true]) (r2 := .tup [.str "if", .tup [.str "equal", .str t], .tup [.str "same"], .tup [.str "none"]]) hE (by (repeat' (first | exact gv_nil | exact gv_str _ | exact gv_int _ | exact gv_bl _ | exact gv_non | exact gv_env (by assumption) rfl | refine gv_tup ?_ (by simp) | refine gv_cons ?_ ?_ | exact gv_each (gv_env (by assumption) rfl) | refine gv_each ?_))) (by simp) (by simp) fun H3 σ3 s3 hE => ?_
    simp only [setL, List.set_cons_zero, List.set_cons_succ] at hE
    refine set_env (i := 11) (r := .tup [.str "ask", .tup [], .tup [.str "more"]]) hE (by (repeat' (first | exact gv_nil | exact gv_str _ | exact gv_int _ | exact gv_bl _ | exact gv_non | exact gv_env (by assumption) rfl | refine gv_tup ?_ (by simp) | refine gv_cons ?_ ?_ | exact gv_each (gv_env (by assumption) rfl) | refine gv_each ?_))) (by simp) fun H4 σ4 s4 hE => ?_
    simp only [setL, List.set_cons_zero, List.set_cons_succ] at hE
    refine new_list (iL := 12) (ts := [c18 ta n t, c19 ta n t]) hE (by unfold c18 c19; (repeat' (first | exact gv_nil | exact gv_str _ | exact gv_int _ | exact gv_bl _ | exact gv_non | exact gv_env (by assumption) rfl | refine gv_tup ?_ (by simp) | refine gv_cons ?_ ?_ | exact gv_each (gv_env (by assumption) rfl) | refine gv_each ?_))) (by simp) rfl fun H5 L σ5 c => ?_
    have s04 := s1.trans (s2.trans (s3.trans s4))
    refine app_step (r := c20 ta n t) c (by have hE := c.e; unfold c20; (repeat' (first | exact gv_nil | exact gv_str _ | exact gv_int _ | exact gv_bl _ | exact gv_non | exact gv_env (by assumption) rfl | exact gv_addS (gv_env (by assumption) rfl) (gv_str _) (by show _ + 1 ≤ 3000; omega) | refine gv_tup ?_ (by simp) | refine gv_cons ?_ ?_ | exact gv_each (gv_env (by assumption) rfl) | refine gv_each ?_))) (by simp) fun H20 c => ?_
    simp only [List.cons_append, List.nil_append] at c
    refine app_step (r := c21 ta n t) c (by have hE := c.e; unfold c21; (repeat' (first | exact gv_nil | exact gv_str _ | exact gv_int _ | exact gv_bl _ | exact gv_non | exact gv_env (by assumption) rfl | exact gv_addS (gv_env (by assumption) rfl) (gv_str _) (by show _ + 1 ≤ 3000; omega) | refine gv_tup ?_ (by simp) | refine gv_cons ?_ ?_ | exact gv_each (gv_env (by assumption) rfl) | refine gv_each ?_))) (by simp) fun H21 c => ?_
    simp only [List.cons_append, List.nil_append] at c
    refine app_step (r := c22 ta n t) c (by have hE := c.e; unfold c22; (repeat' (first | exact gv_nil | exact gv_str _ | exact gv_int _ | exact gv_bl _ | exact gv_non | exact gv_env (by assumption) rfl | exact gv_addS (gv_env (by assumption) rfl) (gv_str _) (by show _ + 1 ≤ 3000; omega) | refine gv_tup ?_ (by simp) | refine gv_cons ?_ ?_ | exact gv_each (gv_env (by assumption) rfl) | refine gv_each ?_))) (by simp) fun H22 c => ?_
    simp only [List.cons_append, List.nil_append] at c
    refine app_step (r := c23 ta n t) c (by have hE := c.e; unfold c23; (repeat' (first | exact gv_nil | exact gv_str _ | exact gv_int _ | exact gv_bl _ | exact gv_non | exact gv_env (by assumption) rfl | exact gv_addS (gv_env (by assumption) rfl) (gv_str _) (by show _ + 1 ≤ 3000; omega) | refine gv_tup ?_ (by simp) | refine gv_cons ?_ ?_ | exact gv_each (gv_env (by assumption) rfl) | refine gv_each ?_))) (by simp) fun H23 c => ?_
    simp only [List.cons_append, List.nil_append] at c
    refine app_step (r := c24 ta n t) c (by have hE := c.e; unfold c24; (repeat' (first | exact gv_nil | exact gv_str _ | exact gv_int _ | exact gv_bl _ | exact gv_non | exact gv_env (by assumption) rfl | exact gv_addS (gv_env (by assumption) rfl) (gv_str _) (by show _ + 1 ≤ 3000; omega) | refine gv_tup ?_ (by simp) | refine gv_cons ?_ ?_ | exact gv_each (gv_env (by assumption) rfl) | refine gv_each ?_))) (by simp) fun H24 c => ?_
    simp only [List.cons_append, List.nil_append] at c
    refine app_step (r := c25 ta n t) c (by have hE := c.e; unfold c25; (repeat' (first | exact gv_nil | exact gv_str _ | exact gv_int _ | exact gv_bl _ | exact gv_non | exact gv_env (by assumption) rfl | exact gv_addS (gv_env (by assumption) rfl) (gv_str _) (by show _ + 1 ≤ 3000; omega) | refine gv_tup ?_ (by simp) | refine gv_cons ?_ ?_ | exact gv_each (gv_env (by assumption) rfl) | refine gv_each ?_))) (by simp) fun H25 c => ?_
    simp only [List.cons_append, List.nil_append] at c
    refine app_step (r := c26 ta n t) c (by have hE := c.e; unfold c26; (repeat' (first | exact gv_nil | exact gv_str _ | exact gv_int _ | exact gv_bl _ | exact gv_non | exact gv_env (by assumption) rfl | exact gv_addS (gv_env (by assumption) rfl) (gv_str _) (by show _ + 1 ≤ 3000; omega) | refine gv_tup ?_ (by simp) | refine gv_cons ?_ ?_ | exact gv_each (gv_env (by assumption) rfl) | refine gv_each ?_))) (by simp) fun H26 c => ?_
    simp only [List.cons_append, List.nil_append] at c
    refine app_step (r := c27 ta n t) c (by have hE := c.e; unfold c27; (repeat' (first | exact gv_nil | exact gv_str _ | exact gv_int _ | exact gv_bl _ | exact gv_non | exact gv_env (by assumption) rfl | exact gv_addS (gv_env (by assumption) rfl) (gv_str _) (by show _ + 1 ≤ 3000; omega) | refine gv_tup ?_ (by simp) | refine gv_cons ?_ ?_ | exact gv_each (gv_env (by assumption) rfl) | refine gv_each ?_))) (by simp) fun H27 c => ?_
    simp only [List.cons_append, List.nil_append] at c
    refine app_step (r := c28 ta n t) c (by have hE := c.e; unfold c28; (repeat' (first | exact gv_nil | exact gv_str _ | exact gv_int _ | exact gv_bl _ | exact gv_non | exact gv_env (by assumption) rfl | exact gv_addS (gv_env (by assumption) rfl) (gv_str _) (by show _ + 1 ≤ 3000; omega) | refine gv_tup ?_ (by simp) | refine gv_cons ?_ ?_ | exact gv_each (gv_env (by assumption) rfl) | refine gv_each ?_))) (by simp) fun H28 c => ?_
    simp only [List.cons_append, List.nil_append] at c
    refine app_step (r := c29 ta n t) c (by have hE := c.e; unfold c29; (repeat' (first | exact gv_nil | exact gv_str _ | exact gv_int _ | exact gv_bl _ | exact gv_non | exact gv_env (by assumption) rfl | exact gv_addS (gv_env (by assumption) rfl) (gv_str _) (by show _ + 1 ≤ 3000; omega) | refine gv_tup ?_ (by simp) | refine gv_cons ?_ ?_ | exact gv_each (gv_env (by assumption) rfl) | refine gv_each ?_))) (by simp) fun H29 c => ?_
    simp only [List.cons_append, List.nil_append] at c
    refine set_cs (i := 13) (r := .tup [.str "if", .tup [.str "and", .tup [.str "is", .str "list"], .tup [.str "at", .tup [.str "item", .int 0], .tup [.str "equal", .int n]]], .tup [.str "same"], .tup [.str "none"]]) c (by have hE := c.e; (repeat' (first | exact gv_nil | exact gv_str _ | exact gv_int _ | exact gv_bl _ | exact gv_non | exact gv_env (by assumption) rfl | refine gv_tup ?_ (by simp) | refine gv_cons ?_ ?_ | exact gv_each (gv_env (by assumption) rfl) | refine gv_each ?_))) (by simp) (by decide) fun H6 σ6 c => ?_
    simp only [List.set_cons_zero, List.set_cons_succ] at c
    refine app_step (r := c30 ta n t) c (by have hE := c.e; unfold c30; (repeat' (first | exact gv_nil | exact gv_str _ | exact gv_int _ | exact gv_bl _ | exact gv_non | exact gv_env (by assumption) rfl | exact gv_addS (gv_env (by assumption) rfl) (gv_str _) (by show _ + 1 ≤ 3000; omega) | refine gv_tup ?_ (by simp) | refine gv_cons ?_ ?_ | exact gv_each (gv_env (by assumption) rfl) | refine gv_each ?_))) (by simp) fun H30 c => ?_
    simp only [List.cons_append, List.nil_append] at c
    refine app_step (r := c31 ta n t) c (by have hE := c.e; unfold c31; (repeat' (first | exact gv_nil | exact gv_str _ | exact gv_int _ | exact gv_bl _ | exact gv_non | exact gv_env (by assumption) rfl | exact gv_addS (gv_env (by assumption) rfl) (gv_str _) (by show _ + 1 ≤ 3000; omega) | refine gv_tup ?_ (by simp) | refine gv_cons ?_ ?_ | exact gv_each (gv_env (by assumption) rfl) | refine gv_each ?_))) (by simp) fun H31 c => ?_
    simp only [List.cons_append, List.nil_append] at c
    refine app_step (r := c32 ta n t) c (by have hE := c.e; unfold c32; (repeat' (first | exact gv_nil | exact gv_str _ | exact gv_int _ | exact gv_bl _ | exact gv_non | exact gv_env (by assumption) rfl | exact gv_addS (gv_env (by assumption) rfl) (gv_str _) (by show _ + 1 ≤ 3000; omega) | refine gv_tup ?_ (by simp) | refine gv_cons ?_ ?_ | exact gv_each (gv_env (by assumption) rfl) | refine gv_each ?_))) (by simp) fun H32 c => ?_
    simp only [List.cons_append, List.nil_append] at c
    refine set_cs (i := 14) (r := .tup [.str "if", .tup [.str "or", .tup [.str "is", .str "list"], .tup [.str "equal", .str t]], .tup [.str "same"], .tup [.str "none"]]) c (by have hE := c.e; (repeat' (first | exact gv_nil | exact gv_str _ | exact gv_int _ | exact gv_bl _ | exact gv_non | exact gv_env (by assumption) rfl | refine gv_tup ?_ (by simp) | refine gv_cons ?_ ?_ | exact gv_each (gv_env (by assumption) rfl) | refine gv_each ?_))) (by simp) (by decide) fun H7 σ7 c => ?_
    simp only [List.set_cons_zero, List.set_cons_succ] at c
    refine app_step (r := c33 ta n t) c (by have hE := c.e; unfold c33; (repeat' (first | exact gv_nil | exact gv_str _ | exact gv_int _ | exact gv_bl _ | exact gv_non | exact gv_env (by assumption) rfl | exact gv_addS (gv_env (by assumption) rfl) (gv_str _) (by show _ + 1 ≤ 3000; omega) | refine gv_tup ?_ (by simp) | refine gv_cons ?_ ?_ | exact gv_each (gv_env (by assumption) rfl) | refine gv_each ?_))) (by simp) fun H33 c => ?_
    simp only [List.cons_append, List.nil_append] at c
    refine app_step (r := c34 ta n t) c (by have hE := c.e; unfold c34; (repeat' (first | exact gv_nil | exact gv_str _ | exact gv_int _ | exact gv_bl _ | exact gv_non | exact gv_env (by assumption) rfl | exact gv_addS (gv_env (by assumption) rfl) (gv_str _) (by show _ + 1 ≤ 3000; omega) | refine gv_tup ?_ (by simp) | refine gv_cons ?_ ?_ | exact gv_each (gv_env (by assumption) rfl) | refine gv_each ?_))) (by simp) fun H34 c => ?_
    simp only [List.cons_append, List.nil_append] at c
    have hE := c.e
    obtain ⟨xs, hL, hx⟩ := c.l
    have g35 : GvA K (tCons (tTup (tCons (tTup (tCons (tC (.str "try")) (tCons (tVar 7) tNil))) (tCons (tTup (tCons (tC (.str "other")) (tCons (tVar 7) (tCons (tVar 4) tNil)))) (tCons (tTup (tCons (tC (.str "leaf")) (tCons (tC (.bl true)) tNil))) (tCons (tTup (tCons (tC (.str "rows")) (tCons (tTup (tCons (tTup tNil) (tCons (tC (.bl true)) tNil))) (tCons (tTup (tCons (tTup tNil) (tCons (tC (.bl false)) tNil))) tNil)))) tNil))))) tNil) σ7 H34 [c35 ta n t] := by
      unfold c35
      (repeat' (first | exact gv_nil | exact gv_str _ | exact gv_int _ | exact gv_bl _ | exact gv_non | exact gv_env (by assumption) rfl | refine gv_tup ?_ (by simp) | refine gv_cons ?_ ?_ | exact gv_each (gv_env (by assumption) rfl) | refine gv_each ?_))
    refine ret_run ⟨_, c.g, g35 H34 same_id _ fun H35 vs s35 hvs => ⟨by rw [hvs.len, sizeLine_eq]; simp, fun B nB => ?_⟩⟩
    have sB := s35.trans (same_new (u := .lst vs) same_id nB)
    refine ⟨L, B, xs, vs, rfl, rfl, sB _ _ hL, upd_same, by rw [hx.len, hvs.len, sizeLine_eq]; simp, fun p np => ?_⟩
    have sP := sB.trans (same_new (u := .lst (xs ++ vs)) same_id np)
    exact q _ p _ (s04.trans (c.s.trans sP)) (none_of (s04.trans (c.s.trans sB)) np) upd_same ((hx.same sP).app (hvs.same ((same_new (u := .lst vs) same_id nB).trans (same_new (u := .lst (xs ++ vs)) same_id np))))
theorem ok_ca {f fE fL : Addr} {fd dE dL : FuncData} (F : Fun K "_law_cases" "_law_cases" sCa f fd) (DE : Dn P w K mg base CX0 1 "_law_each" ["_law_f"] (spEa K) fE dE) (DL : Dn P w K mg base CX0 2 "_law_list_cases" ["_law_a", "_law_n", "_law_t"] (spLc K) fL dL) : FnOk P w K mg base CX0 3 f fd ["_law_a", "_law_n", "_law_t"] (spCa K) := by
  refine F.ok (k := 2) scCa (fun vs H Q E h => ?_) (fun cdv A outer s H vs Q E hr h => ?_)
  · obtain ⟨a, n, t, rfl, _⟩ := h
    rfl
  · obtain ⟨ta, n, t, rfl, ha, q⟩ := h
    have hr1 := hr.mono (show 1 ≤ 2 by decide)
    refine ⟨_, pss_cons (ps_asg (pe_tup (pa_cons (pe_tup (pa_cons pe_str pa_nil)) (pa_cons (pe_tup (pa_cons pe_str pa_nil)) (pa_cons (pe_tup (pa_cons pe_str pa_nil)) (pa_cons (pe_tup (pa_cons pe_str pa_nil)) (pa_cons (pe_tup (pa_cons pe_str (pa_cons (pv 0) pa_nil))) pa_nil)))))) (pg_tup rfl (pgs_cons (pg_name (i := 3) scCa.nd rfl (.inl rfl)) (pgs_cons (pg_name (i := 4) scCa.nd rfl (.inl rfl)) (pgs_cons (pg_name (i := 5) scCa.nd rfl (.inl rfl)) (pgs_cons (pg_name (i := 6) scCa.nd rfl (.inl rfl)) (pgs_cons (pg_name (i := 7) scCa.nd rfl (.inl rfl)) pgs_nil)))))))
      (pss_cons (ps_par (i := 8) (j := 9) rfl scCa.nd rfl rfl (by decide) rfl rfl (pa_cons (pe_tup (pa_cons (pe_tup (pa_cons (pe_tup pa_nil) pa_nil)) (pa_cons pe_bl pa_nil))) (pa_cons (pe_tup (pa_cons pe_str (pa_cons (pe_tup (pa_cons pe_str (pa_cons (pv 1) pa_nil))) (pa_cons (pv 4) (pa_cons (pv 5) pa_nil))))) pa_nil)) (by rfl))
      (pss_cons (ps_set (i := 10) scCa.nd rfl (Or.inl rfl) (pe_lst (pa_cons (pe_tup (pa_cons (pv 4) (pa_cons (pv 5) (pa_cons (pv 3) (pa_cons (pe_tup (pa_cons pe_str (pa_cons (pv 8) (pa_cons (pe_tup (pa_cons (pe_tup pa_nil) (pa_cons pe_bl pa_nil))) pa_nil)))) pa_nil))))) (pa_cons (pe_tup (pa_cons (pv 5) (pa_cons (pv 4) (pa_cons (pv 3) (pa_cons (pe_tup (pa_cons pe_str (pa_cons (pe_tup (pa_cons (pe_tup pa_nil) (pa_cons pe_bl pa_nil))) (pa_cons (pv 8) pa_nil)))) pa_nil))))) pa_nil))))
      (pss_cons (ps_expr (pe_bm PySem.F.plainAttrs_list PySem.F.slot_list_append PySem.F.type_list_append mt_append (pv 10) (pa_cons (pe_tup (pa_cons (pv 4) (pa_cons (pv 7) (pa_cons (pv 3) (pa_cons (pe_tup (pa_cons pe_str (pa_cons (pe_tup pa_nil) (pa_cons (pe_tup (pa_cons pe_str pa_nil)) pa_nil)))) pa_nil))))) pa_nil)))
      (pss_cons (ps_expr (pe_bm PySem.F.plainAttrs_list PySem.F.slot_list_append PySem.F.type_list_append mt_append (pv 10) (pa_cons (pe_tup (pa_cons (pv 7) (pa_cons (pv 4) (pa_cons (pe_tup (pa_cons pe_str (pa_cons pe_non pa_nil))) (pa_cons (pe_tup (pa_cons pe_str (pa_cons (pe_tup (pa_cons (pe_tup pa_nil) (pa_cons pe_bl pa_nil))) (pa_cons (pv 8) pa_nil)))) pa_nil))))) pa_nil)))
      (pss_cons (ps_expr (pe_bm PySem.F.plainAttrs_list PySem.F.slot_list_append PySem.F.type_list_append mt_append (pv 10) (pa_cons (pe_tup (pa_cons (pv 7) (pa_cons (pv 4) (pa_cons (pe_tup (pa_cons pe_str pa_nil)) (pa_cons (pe_tup (pa_cons pe_str (pa_cons (pe_tup (pa_cons (pe_tup pa_nil) (pa_cons pe_bl pa_nil))) (pa_cons (pv 8) pa_nil)))) pa_nil))))) pa_nil)))
      (pss_cons (ps_expr (pe_bm PySem.F.plainAttrs_list PySem.F.slot_list_append PySem.F.type_list_append mt_append (pv 10) (pa_cons (pe_tup (pa_cons (pv 4) (pa_cons (pv 9) (pa_cons (pe_tup (pa_cons pe_str pa_nil)) (pa_cons (pe_tup (pa_cons pe_str (pa_cons (pe_tup pa_nil) (pa_cons (pe_tup (pa_cons pe_str pa_nil)) pa_nil)))) pa_nil))))) pa_nil)))
      (pss_cons (ps_expr (pe_bm PySem.F.plainAttrs_list PySem.F.slot_list_append PySem.F.type_list_append mt_append (pv 10) (pa_cons (pe_tup (pa_cons (pv 4) (pa_cons (pv 9) (pa_cons (pe_tup (pa_cons pe_str pa_nil)) (pa_cons (pe_tup (pa_cons pe_str (pa_cons (pv 8) (pa_cons (pe_tup (pa_cons (pe_tup pa_nil) (pa_cons pe_bl pa_nil))) pa_nil)))) pa_nil))))) pa_nil)))
      (pss_cons (ps_expr (pe_bm PySem.F.plainAttrs_list PySem.F.slot_list_append PySem.F.type_list_append mt_append (pv 10) (pa_cons (pe_tup (pa_cons (pv 4) (pa_cons (pv 9) (pa_cons (pe_tup (pa_cons pe_str (pa_cons pe_str pa_nil))) (pa_cons (pe_tup (pa_cons pe_str (pa_cons (pv 8) (pa_cons (pe_tup (pa_cons (pe_tup pa_nil) (pa_cons pe_bl pa_nil))) pa_nil)))) pa_nil))))) pa_nil)))
      (pss_cons (ps_expr (pe_bm PySem.F.plainAttrs_list PySem.F.slot_list_append PySem.F.type_list_append mt_append (pv 10) (pa_cons (pe_tup (pa_cons (pv 4) (pa_cons (pv 9) (pa_cons (pe_tup (pa_cons pe_str (pa_cons (pv 1) pa_nil))) (pa_cons (pe_tup (pa_cons pe_str (pa_cons (pv 8) (pa_cons (pv 8) pa_nil)))) pa_nil))))) pa_nil)))
      (pss_cons (ps_expr (pe_bm PySem.F.plainAttrs_list PySem.F.slot_list_append PySem.F.type_list_append mt_append (pv 10) (pa_cons (pe_tup (pa_cons (pe_tup (pa_cons pe_str (pa_cons (pe_tup (pa_cons pe_str (pa_cons pe_str pa_nil))) (pa_cons (pv 4) (pa_cons (pv 5) pa_nil))))) (pa_cons (pv 9) (pa_cons (pe_tup (pa_cons pe_str (pa_cons pe_str pa_nil))) (pa_cons (pe_tup (pa_cons pe_str (pa_cons (pv 8) (pa_cons (pe_tup (pa_cons (pe_tup pa_nil) (pa_cons pe_bl pa_nil))) pa_nil)))) pa_nil))))) pa_nil)))
      (pss_cons (ps_expr (pe_bm PySem.F.plainAttrs_list PySem.F.slot_list_append PySem.F.type_list_append mt_append (pv 10) (pa_cons (pe_tup (pa_cons (pv 7) (pa_cons (pv 4) (pa_cons (pe_tup (pa_cons pe_str (pa_cons (pe_tup pa_nil) (pa_cons (pe_tup (pa_cons pe_non (pa_cons pe_non pa_nil))) pa_nil)))) (pa_cons (pe_tup (pa_cons pe_str (pa_cons (pe_tup pa_nil) (pa_cons (pe_tup (pa_cons pe_str (pa_cons (pv 0) pa_nil))) pa_nil)))) pa_nil))))) pa_nil)))
      (pss_cons (ps_expr (pe_bm PySem.F.plainAttrs_list PySem.F.slot_list_append PySem.F.type_list_append mt_append (pv 10) (pa_cons (pe_tup (pa_cons (pv 7) (pa_cons (pv 4) (pa_cons (pe_tup (pa_cons pe_str (pa_cons (pe_tup (pa_cons (pe_tup (pa_cons (pv 0) (pa_cons (pe_tup (pa_cons pe_str pa_nil)) pa_nil))) pa_nil)) (pa_cons (pe_tup (pa_cons pe_non (pa_cons pe_non pa_nil))) pa_nil)))) (pa_cons (pe_tup (pa_cons pe_str (pa_cons (pe_tup (pa_cons (pe_tup pa_nil) (pa_cons pe_bl pa_nil))) (pa_cons (pv 8) pa_nil)))) pa_nil))))) pa_nil)))
      (pss_cons (ps_expr (pe_bm PySem.F.plainAttrs_list PySem.F.slot_list_append PySem.F.type_list_append mt_append (pv 10) (pa_cons (pe_tup (pa_cons (pv 7) (pa_cons (pv 4) (pa_cons (pe_tup (pa_cons pe_str (pa_cons (pe_tup (pa_cons (pe_tup (pa_cons (pv 0) (pa_cons (pv 3) pa_nil))) pa_nil)) (pa_cons (pe_tup (pa_cons pe_non (pa_cons pe_non pa_nil))) pa_nil)))) (pa_cons (pe_tup (pa_cons pe_str (pa_cons (pe_tup (pa_cons (pe_tup (pa_cons (pe_tup (pa_cons (pv 0) pa_nil)) pa_nil)) (pa_cons pe_bl pa_nil))) (pa_cons (pv 8) pa_nil)))) pa_nil))))) pa_nil)))
      (pss_cons (ps_expr (pe_bm PySem.F.plainAttrs_list PySem.F.slot_list_append PySem.F.type_list_append mt_append (pv 10) (pa_cons (pe_tup (pa_cons (pv 6) (pa_cons (pv 7) (pa_cons (pe_tup (pa_cons pe_str (pa_cons (pe_tup (pa_cons (pe_tup (pa_cons (pv 0) (pa_cons (pv 3) pa_nil))) pa_nil)) (pa_cons (pe_tup (pa_cons pe_non (pa_cons pe_non pa_nil))) pa_nil)))) (pa_cons (pe_tup (pa_cons pe_str (pa_cons (pe_tup pa_nil) (pa_cons (pe_tup (pa_cons pe_str (pa_cons pe_int pa_nil))) pa_nil)))) pa_nil))))) pa_nil)))
      (pss_cons (ps_expr (pe_bm PySem.F.plainAttrs_list PySem.F.slot_list_append PySem.F.type_list_append mt_append (pv 10) (pa_cons (pe_tup (pa_cons (pv 6) (pa_cons (pv 7) (pa_cons (pe_tup (pa_cons pe_str (pa_cons (pe_tup pa_nil) (pa_cons (pe_tup (pa_cons (pe_tup pa_nil) (pa_cons pe_non pa_nil))) pa_nil)))) (pa_cons (pe_tup (pa_cons pe_str (pa_cons (pe_tup pa_nil) (pa_cons (pe_tup (pa_cons pe_str (pa_cons (pv 0) pa_nil))) pa_nil)))) pa_nil))))) pa_nil)))
      (pss_cons (ps_expr (pe_bm PySem.F.plainAttrs_list PySem.F.slot_list_append PySem.F.type_list_append mt_append (pv 10) (pa_cons (pe_tup (pa_cons (pv 6) (pa_cons (pv 7) (pa_cons (pe_tup (pa_cons pe_str (pa_cons (pe_tup (pa_cons (pe_tup (pa_cons (pv 0) (pa_cons (pv 3) pa_nil))) pa_nil)) (pa_cons (pe_tup (pa_cons (pe_tup pa_nil) (pa_cons pe_non pa_nil))) pa_nil)))) (pa_cons (pe_tup (pa_cons pe_str (pa_cons (pe_tup pa_nil) (pa_cons (pe_tup (pa_cons pe_str (pa_cons pe_int pa_nil))) pa_nil)))) pa_nil))))) pa_nil)))
      (pss_cons (ps_set (i := 11) scCa.nd rfl (Or.inl rfl) (pe_tup (pa_cons pe_str (pa_cons (pe_tup (pa_cons (pe_tup (pa_cons (pv 0) (pa_cons (pv 3) pa_nil))) pa_nil)) (pa_cons (pe_tup (pa_cons (pe_tup pa_nil) (pa_cons (pe_tup (pa_cons (pe_tup (pa_cons (pe_op op_add_str (pv 0) pe_str) (pa_cons (pv 3) pa_nil))) pa_nil)) pa_nil))) pa_nil)))))
      (pss_cons (ps_expr (pe_bm PySem.F.plainAttrs_list PySem.F.slot_list_append PySem.F.type_list_append mt_append (pv 10) (pa_cons (pe_tup (pa_cons (pv 6) (pa_cons (pv 7) (pa_cons (pv 11) (pa_cons (pe_tup (pa_cons pe_str (pa_cons (pe_tup (pa_cons (pe_tup (pa_cons (pe_tup (pa_cons (pv 0) pa_nil)) (pa_cons (pe_tup (pa_cons (pe_op op_add_str (pv 0) pe_str) pa_nil)) pa_nil))) (pa_cons pe_bl pa_nil))) (pa_cons (pe_tup (pa_cons (pe_tup (pa_cons (pe_tup (pa_cons (pv 0) pa_nil)) pa_nil)) (pa_cons pe_bl pa_nil))) pa_nil)))) pa_nil))))) pa_nil)))
      (pss_cons (ps_expr (pe_bm PySem.F.plainAttrs_list PySem.F.slot_list_append PySem.F.type_list_append mt_append (pv 10) (pa_cons (pe_tup (pa_cons (pe_call DE.G hr1 (by rfl) DE.m DE.k DE.b .nil pass0 (pa_cons (pv 7) pa_nil)) (pa_cons (pv 7) (pa_cons (pv 11) (pa_cons (pe_tup (pa_cons pe_str (pa_cons (pe_tup (pa_cons (pv 0) pa_nil)) (pa_cons (pe_tup (pa_cons pe_str pa_nil)) pa_nil)))) pa_nil))))) pa_nil)))
      (pss_one (ps_ret (pe_op op_cat (pv 10) (pe_call DL.G hr (by rfl) DL.m DL.k DL.b .nil pass0 (pa_cons (pv 0) (pa_cons (pv 1) (pa_cons (pv 2) pa_nil)))))))))))))))))))))))))), ?_⟩
    have hE : StE K H (L2.start NCa [.str ta, .int n, .str t]) [some (.str ta), some (.int n), some (.str t), none, none, none, none, none, none, none, none, none] := by
      refine ⟨rfl, fun i r e => ?_⟩
      match i, e with
      | 0, e => cases e; exact ⟨_, rfl, pt_str ta⟩
      | 1, e => cases e; exact ⟨_, rfl, pt_int n⟩
      | 2, e => cases e; exact ⟨_, rfl, pt_str t⟩
      | 3, e | 4, e | 5, e | 6, e | 7, e | 8, e | 9, e | 10, e | 11, e => cases e
      | i + 12, e => cases e
    refine unp (is := [3, 4, 5, 6, 7]) (rs := [.tup [.str "hole"], .tup [.str "same"], .tup [.str "none"], .tup [.str "every"], .tup [.str "field", .str ta]]) hE (by (repeat' (first | exact gv_nil | exact gv_str _ | exact gv_int _ | exact gv_bl _ | exact gv_non | exact gv_env (by assumption) rfl | refine gv_tup ?_ (by simp) | refine gv_cons ?_ ?_ | exact gv_each (gv_env (by assumption) rfl) | refine gv_each ?_))) rfl rfl (by simp) fun H1 σ1 s1 hE => ?_
    simp only [setL, List.set_cons_zero, List.set_cons_succ] at hE
    refine set_par (i := 8) (j := 9) (r := .tup [.tup [.tup []], .bl true]) (r2 := .tup [.str "if", .tup [.str "equal", .int n], .tup [.str "same"], .tup [.str "none"]]) hE (by (repeat' (first | exact gv_nil | exact gv_str _ | exact gv_int _ | exact gv_bl _ | exact gv_non | exact gv_env (by assumption) rfl | refine gv_tup ?_ (by simp) | refine gv_cons ?_ ?_ | exact gv_each (gv_env (by assumption) rfl) | refine gv_each ?_))) (by simp) (by simp) fun H3 σ3 s3 hE => ?_
    simp only [setL, List.set_cons_zero, List.set_cons_succ] at hE
    refine new_list (iL := 10) (ts := [c0 ta n t, c1 ta n t]) hE (by unfold c0 c1; (repeat' (first | exact gv_nil | exact gv_str _ | exact gv_int _ | exact gv_bl _ | exact gv_non | exact gv_env (by assumption) rfl | refine gv_tup ?_ (by simp) | refine gv_cons ?_ ?_ | exact gv_each (gv_env (by assumption) rfl) | refine gv_each ?_))) (by simp) rfl fun H5 L σ5 c => ?_
    have s04 := s1.trans s3
    refine app_step (r := c2 ta n t) c (by have hE := c.e; unfold c2; (repeat' (first | exact gv_nil | exact gv_str _ | exact gv_int _ | exact gv_bl _ | exact gv_non | exact gv_env (by assumption) rfl | exact gv_addS (gv_env (by assumption) rfl) (gv_str _) (by show _ + 1 ≤ 3000; omega) | refine gv_tup ?_ (by simp) | refine gv_cons ?_ ?_ | exact gv_each (gv_env (by assumption) rfl) | refine gv_each ?_))) (by simp) fun H2 c => ?_
    simp only [List.cons_append, List.nil_append] at c
    refine app_step (r := c3 ta n t) c (by have hE := c.e; unfold c3; (repeat' (first | exact gv_nil | exact gv_str _ | exact gv_int _ | exact gv_bl _ | exact gv_non | exact gv_env (by assumption) rfl | exact gv_addS (gv_env (by assumption) rfl) (gv_str _) (by show _ + 1 ≤ 3000; omega) | refine gv_tup ?_ (by simp) | refine gv_cons ?_ ?_ | exact gv_each (gv_env (by assumption) rfl) | refine gv_each ?_))) (by simp) fun H3 c => ?_
    simp only [List.cons_append, List.nil_append] at c
    refine app_step (r := c4 ta n t) c (by have hE := c.e; unfold c4; (repeat' (first | exact gv_nil | exact gv_str _ | exact gv_int _ | exact gv_bl _ | exact gv_non | exact gv_env (by assumption) rfl | exact gv_addS (gv_env (by assumption) rfl) (gv_str _) (by show _ + 1 ≤ 3000; omega) | refine gv_tup ?_ (by simp) | refine gv_cons ?_ ?_ | exact gv_each (gv_env (by assumption) rfl) | refine gv_each ?_))) (by simp) fun H4 c => ?_
    simp only [List.cons_append, List.nil_append] at c
    refine app_step (r := c5 ta n t) c (by have hE := c.e; unfold c5; (repeat' (first | exact gv_nil | exact gv_str _ | exact gv_int _ | exact gv_bl _ | exact gv_non | exact gv_env (by assumption) rfl | exact gv_addS (gv_env (by assumption) rfl) (gv_str _) (by show _ + 1 ≤ 3000; omega) | refine gv_tup ?_ (by simp) | refine gv_cons ?_ ?_ | exact gv_each (gv_env (by assumption) rfl) | refine gv_each ?_))) (by simp) fun H5 c => ?_
    simp only [List.cons_append, List.nil_append] at c
    refine app_step (r := c6 ta n t) c (by have hE := c.e; unfold c6; (repeat' (first | exact gv_nil | exact gv_str _ | exact gv_int _ | exact gv_bl _ | exact gv_non | exact gv_env (by assumption) rfl | exact gv_addS (gv_env (by assumption) rfl) (gv_str _) (by show _ + 1 ≤ 3000; omega) | refine gv_tup ?_ (by simp) | refine gv_cons ?_ ?_ | exact gv_each (gv_env (by assumption) rfl) | refine gv_each ?_))) (by simp) fun H6 c => ?_
    simp only [List.cons_append, List.nil_append] at c
    refine app_step (r := c7 ta n t) c (by have hE := c.e; unfold c7; (repeat' (first | exact gv_nil | exact gv_str _ | exact gv_int _ | exact gv_bl _ | exact gv_non | exact gv_env (by assumption) rfl | exact gv_addS (gv_env (by assumption) rfl) (gv_str _) (by show _ + 1 ≤ 3000; omega) | refine gv_tup ?_ (by simp) | refine gv_cons ?_ ?_ | exact gv_each (gv_env (by assumption) rfl) | refine gv_each ?_))) (by simp) fun H7 c => ?_
    simp only [List.cons_append, List.nil_append] at c
    refine app_step (r := c8 ta n t) c (by have hE := c.e; unfold c8; (repeat' (first | exact gv_nil | exact gv_str _ | exact gv_int _ | exact gv_bl _ | exact gv_non | exact gv_env (by assumption) rfl | exact gv_addS (gv_env (by assumption) rfl) (gv_str _) (by show _ + 1 ≤ 3000; omega) | refine gv_tup ?_ (by simp) | refine gv_cons ?_ ?_ | exact gv_each (gv_env (by assumption) rfl) | refine gv_each ?_))) (by simp) fun H8 c => ?_
    simp only [List.cons_append, List.nil_append] at c
    refine app_step (r := c9 ta n t) c (by have hE := c.e; unfold c9; (repeat' (first | exact gv_nil | exact gv_str _ | exact gv_int _ | exact gv_bl _ | exact gv_non | exact gv_env (by assumption) rfl | exact gv_addS (gv_env (by assumption) rfl) (gv_str _) (by show _ + 1 ≤ 3000; omega) | refine gv_tup ?_ (by simp) | refine gv_cons ?_ ?_ | exact gv_each (gv_env (by assumption) rfl) | refine gv_each ?_))) (by simp) fun H9 c => ?_
    simp only [List.cons_append, List.nil_append] at c
    refine app_step (r := c10 ta n t) c (by have hE := c.e; unfold c10; (repeat' (first | exact gv_nil | exact gv_str _ | exact gv_int _ | exact gv_bl _ | exact gv_non | exact gv_env (by assumption) rfl | exact gv_addS (gv_env (by assumption) rfl) (gv_str _) (by show _ + 1 ≤ 3000; omega) | refine gv_tup ?_ (by simp) | refine gv_cons ?_ ?_ | exact gv_each (gv_env (by assumption) rfl) | refine gv_each ?_))) (by simp) fun H10 c => ?_
    simp only [List.cons_append, List.nil_append] at c
    refine app_step (r := c11 ta n t) c (by have hE := c.e; unfold c11; (repeat' (first | exact gv_nil | exact gv_str _ | exact gv_int _ | exact gv_bl _ | exact gv_non | exact gv_env (by assumption) rfl | exact gv_addS (gv_env (by assumption) rfl) (gv_str _) (by show _ + 1 ≤ 3000; omega) | refine gv_tup ?_ (by simp) | refine gv_cons ?_ ?_ | exact gv_each (gv_env (by assumption) rfl) | refine gv_each ?_))) (by simp) fun H11 c => ?_
    simp only [List.cons_append, List.nil_append] at c
    refine app_step (r := c12 ta n t) c (by have hE := c.e; unfold c12; (repeat' (first | exact gv_nil | exact gv_str _ | exact gv_int _ | exact gv_bl _ | exact gv_non | exact gv_env (by assumption) rfl | exact gv_addS (gv_env (by assumption) rfl) (gv_str _) (by show _ + 1 ≤ 3000; omega) | refine gv_tup ?_ (by simp) | refine gv_cons ?_ ?_ | exact gv_each (gv_env (by assumption) rfl) | refine gv_each ?_))) (by simp) fun H12 c => ?_
    simp only [List.cons_append, List.nil_append] at c
    refine app_step (r := c13 ta n t) c (by have hE := c.e; unfold c13; (repeat' (first | exact gv_nil | exact gv_str _ | exact gv_int _ | exact gv_bl _ | exact gv_non | exact gv_env (by assumption) rfl | exact gv_addS (gv_env (by assumption) rfl) (gv_str _) (by show _ + 1 ≤ 3000; omega) | refine gv_tup ?_ (by simp) | refine gv_cons ?_ ?_ | exact gv_each (gv_env (by assumption) rfl) | refine gv_each ?_))) (by simp) fun H13 c => ?_
    simp only [List.cons_append, List.nil_append] at c
    refine app_step (r := c14 ta n t) c (by have hE := c.e; unfold c14; (repeat' (first | exact gv_nil | exact gv_str _ | exact gv_int _ | exact gv_bl _ | exact gv_non | exact gv_env (by assumption) rfl | exact gv_addS (gv_env (by assumption) rfl) (gv_str _) (by show _ + 1 ≤ 3000; omega) | refine gv_tup ?_ (by simp) | refine gv_cons ?_ ?_ | exact gv_each (gv_env (by assumption) rfl) | refine gv_each ?_))) (by simp) fun H14 c => ?_
    simp only [List.cons_append, List.nil_append] at c
    refine app_step (r := c15 ta n t) c (by have hE := c.e; unfold c15; (repeat' (first | exact gv_nil | exact gv_str _ | exact gv_int _ | exact gv_bl _ | exact gv_non | exact gv_env (by assumption) rfl | exact gv_addS (gv_env (by assumption) rfl) (gv_str _) (by show _ + 1 ≤ 3000; omega) | refine gv_tup ?_ (by simp) | refine gv_cons ?_ ?_ | exact gv_each (gv_env (by assumption) rfl) | refine gv_each ?_))) (by simp) fun H15 c => ?_
    simp only [List.cons_append, List.nil_append] at c
    refine set_cs (i := 11) (r := .tup [.str "dict", .tup [.tup [.str ta, .tup [.str "hole"]]], .tup [.tup [], .tup [.tup [.str (ta ++ "a"), .tup [.str "hole"]]]]]) c (by have hE := c.e; (repeat' (first | exact gv_nil | exact gv_str _ | exact gv_int _ | exact gv_bl _ | exact gv_non | exact gv_env (by assumption) rfl | exact gv_addS (gv_env (by assumption) rfl) (gv_str _) (by show _ + 1 ≤ 3000; omega) | refine gv_tup ?_ (by simp) | refine gv_cons ?_ ?_ | exact gv_each (gv_env (by assumption) rfl) | refine gv_each ?_))) (by simp) (by decide) fun H6 σ6 c => ?_
    simp only [List.set_cons_zero, List.set_cons_succ] at c
    refine app_step (r := c16 ta n t) c (by have hE := c.e; unfold c16; (repeat' (first | exact gv_nil | exact gv_str _ | exact gv_int _ | exact gv_bl _ | exact gv_non | exact gv_env (by assumption) rfl | exact gv_addS (gv_env (by assumption) rfl) (gv_str _) (by show _ + 1 ≤ 3000; omega) | refine gv_tup ?_ (by simp) | refine gv_cons ?_ ?_ | exact gv_each (gv_env (by assumption) rfl) | refine gv_each ?_))) (by simp) fun H16 c => ?_
    simp only [List.cons_append, List.nil_append] at c
    refine app_step (r := c17 ta n t) c (by have hE := c.e; unfold c17; (repeat' (first | exact gv_nil | exact gv_str _ | exact gv_int _ | exact gv_bl _ | exact gv_non | exact gv_env (by assumption) rfl | exact gv_addS (gv_env (by assumption) rfl) (gv_str _) (by show _ + 1 ≤ 3000; omega) | refine gv_tup ?_ (by simp) | refine gv_cons ?_ ?_ | exact gv_each (gv_env (by assumption) rfl) | refine gv_each ?_))) (by simp) fun H17 c => ?_
    simp only [List.cons_append, List.nil_append] at c
    have hE := c.e
    obtain ⟨xs, hL, hx⟩ := c.l
    obtain ⟨v0, e0, h0⟩ := hE.2 0 _ rfl
    obtain ⟨v1, e1, h1⟩ := hE.2 1 _ rfl
    obtain ⟨v2, e2, h2⟩ := hE.2 2 _ rfl
    obtain rfl := h0.str
    obtain rfl := h1.int
    obtain rfl := h2.str
    refine ret_run ⟨_, c.g, _, e0, _, e1, _, e2, ta, n, t, rfl, ha, fun HB L2 ys sB nL2 hL2 hy => ?_⟩
    refine ⟨L, L2, xs, ys, rfl, rfl, sB _ _ hL, hL2, by rw [hx.len, hy.len, sizeLine_eq]; unfold casesB; simp, fun p np => ?_⟩
    have sP := sB.trans (same_new (u := .lst (xs ++ ys)) same_id np)
    exact q _ p _ (s04.trans (c.s.trans sP)) (none_of (s04.trans (c.s.trans sB)) np) upd_same ((hx.same sP).app (hy.same (same_new (u := .lst (xs ++ ys)) same_id np)))
end
end Toy


namespace Toy
open PySem PySem.Spec L2 PyProof.Rows PySem.W
/-! ### the cases are answered as they are due -/
def shwB (t : Dt) : Bool := (toPy t).showable && decide ((toPy t).depth ≤ 150) && decide ((toPy t).shown.length ≤ 100000)
def chkC : Dt → Bool
  | .tup [f, g, s, d] => chW fuelC [([], f)] && chW fuelC [([], g)] && shwB s && shwB d && (match toldW fuelC [f, g] ([], [], [], []) with
    | some b => okN b && (match sketchT b.1 f g s with
      | some x => eqD x d
      | none => false)
    | none => false)
  | _ => false
def asL : List Str := ["a", "b", "kk", "zzzz"]
def nsL : List Int := [0, 1, -1, 10 ^ 30, 7]
def tsL : List Str := ["", " ", "x", "a"]
mutual
theorem eqD_eq : ∀ {x y : Dt}, eqD x y = true → x = y
  | .non, .non, _ => rfl
  | .bl a, .bl b, h => by rw [eqD, decide_eq_true_iff] at h; rw [h]
  | .int a, .int b, h => by rw [eqD, decide_eq_true_iff] at h; rw [h]
  | .str a, .str b, h => by rw [eqD, decide_eq_true_iff] at h; rw [h]
  | .tup a, .tup b, h => by rw [eqD] at h; rw [eqDL_eq h]
theorem eqDL_eq : ∀ {x y : List Dt}, eqDL x y = true → x = y
  | [], [], _ => rfl
  | a :: l, b :: m, h => by
    rw [eqDL, Bool.and_eq_true] at h
    rw [eqD_eq h.1, eqDL_eq h.2]
end
mutual
theorem dv_sd {K : PySem.W.Frag} {H : Hp} : ∀ {v : V} {t : Dt}, Dv K H v t → noq t = true → L2.Sd K H v (toPy t)
  | _, _, .non, _ => by simp only [toPy]; exact .non
  | _, _, .bl b, _ => by simp only [toPy]; exact .bl b
  | _, _, .int b, _ => by simp only [toPy]; exact .int b
  | _, _, .str b, _ => by simp only [toPy]; exact .str b
  | _, _, .tup h d, n => by simp only [toPy]; exact .tup h (dv_sdL d (by simpa [noq] using n))
  | _, _, .lst _, n => by simp [noq] at n
  | _, _, .dct _, n => by simp [noq] at n
theorem dv_sdL {K : PySem.W.Frag} {H : Hp} : ∀ {vs : List V} {ts : List Dt}, DvL K H vs ts → noqL ts = true → L2.SdAll K H vs (toPyL ts)
  | _, _, .nil, _ => by simp only [toPyL]; exact .nil
  | _, _, .cons a b, n => by
    simp only [noqL, Bool.and_eq_true] at n
    simp only [toPyL]
    exact .cons (dv_sd a n.1) (dv_sdL b n.2)
end
theorem shw_of {K : PySem.W.Frag} {H : Hp} {v : V} {t : Dt} (h : Pt K H v t) (s : shwB t = true) : L2.Shw K H v (toPy t) := by
  unfold shwB at s
  rw [Bool.and_eq_true, Bool.and_eq_true, decide_eq_true_iff, decide_eq_true_iff] at s
  exact ⟨dv_sd h.1 h.2, s.1.1, s.1.2, by rw [sizeLine_eq]; omega⟩
end Toy


namespace Toy
open PySem PySem.Spec L2 PyProof.Rows PySem.W
theorem ch0 : ∀ a ∈ asL, ∀ n ∈ nsL, ∀ t ∈ tsL, chkC (c0 a n t) = true := by decide +kernel
theorem ch1 : ∀ a ∈ asL, ∀ n ∈ nsL, ∀ t ∈ tsL, chkC (c1 a n t) = true := by decide +kernel
theorem ch2 : ∀ a ∈ asL, ∀ n ∈ nsL, ∀ t ∈ tsL, chkC (c2 a n t) = true := by decide +kernel
theorem ch3 : ∀ a ∈ asL, ∀ n ∈ nsL, ∀ t ∈ tsL, chkC (c3 a n t) = true := by decide +kernel
theorem ch4 : ∀ a ∈ asL, ∀ n ∈ nsL, ∀ t ∈ tsL, chkC (c4 a n t) = true := by decide +kernel
theorem ch5 : ∀ a ∈ asL, ∀ n ∈ nsL, ∀ t ∈ tsL, chkC (c5 a n t) = true := by decide +kernel
theorem ch6 : ∀ a ∈ asL, ∀ n ∈ nsL, ∀ t ∈ tsL, chkC (c6 a n t) = true := by decide +kernel
theorem ch7 : ∀ a ∈ asL, ∀ n ∈ nsL, ∀ t ∈ tsL, chkC (c7 a n t) = true := by decide +kernel
theorem ch8 : ∀ a ∈ asL, ∀ n ∈ nsL, ∀ t ∈ tsL, chkC (c8 a n t) = true := by decide +kernel
end Toy


namespace Toy
open PySem PySem.Spec L2 PyProof.Rows PySem.W
theorem ch9 : ∀ a ∈ asL, ∀ n ∈ nsL, ∀ t ∈ tsL, chkC (c9 a n t) = true := by decide +kernel
theorem ch10 : ∀ a ∈ asL, ∀ n ∈ nsL, ∀ t ∈ tsL, chkC (c10 a n t) = true := by decide +kernel
theorem ch11 : ∀ a ∈ asL, ∀ n ∈ nsL, ∀ t ∈ tsL, chkC (c11 a n t) = true := by decide +kernel
theorem ch12 : ∀ a ∈ asL, ∀ n ∈ nsL, ∀ t ∈ tsL, chkC (c12 a n t) = true := by decide +kernel
theorem ch13 : ∀ a ∈ asL, ∀ n ∈ nsL, ∀ t ∈ tsL, chkC (c13 a n t) = true := by decide +kernel
theorem ch14 : ∀ a ∈ asL, ∀ n ∈ nsL, ∀ t ∈ tsL, chkC (c14 a n t) = true := by decide +kernel
theorem ch15 : ∀ a ∈ asL, ∀ n ∈ nsL, ∀ t ∈ tsL, chkC (c15 a n t) = true := by decide +kernel
theorem ch16 : ∀ a ∈ asL, ∀ n ∈ nsL, ∀ t ∈ tsL, chkC (c16 a n t) = true := by decide +kernel
theorem ch17 : ∀ a ∈ asL, ∀ n ∈ nsL, ∀ t ∈ tsL, chkC (c17 a n t) = true := by decide +kernel
end Toy


namespace Toy
open PySem PySem.Spec L2 PyProof.Rows PySem.W
theorem ch18 : ∀ a ∈ asL, ∀ n ∈ nsL, ∀ t ∈ tsL, chkC (c18 a n t) = true := by decide +kernel
theorem ch19 : ∀ a ∈ asL, ∀ n ∈ nsL, ∀ t ∈ tsL, chkC (c19 a n t) = true := by decide +kernel
theorem ch20 : ∀ a ∈ asL, ∀ n ∈ nsL, ∀ t ∈ tsL, chkC (c20 a n t) = true := by decide +kernel
theorem ch21 : ∀ a ∈ asL, ∀ n ∈ nsL, ∀ t ∈ tsL, chkC (c21 a n t) = true := by decide +kernel
theorem ch22 : ∀ a ∈ asL, ∀ n ∈ nsL, ∀ t ∈ tsL, chkC (c22 a n t) = true := by decide +kernel
theorem ch23 : ∀ a ∈ asL, ∀ n ∈ nsL, ∀ t ∈ tsL, chkC (c23 a n t) = true := by decide +kernel
theorem ch24 : ∀ a ∈ asL, ∀ n ∈ nsL, ∀ t ∈ tsL, chkC (c24 a n t) = true := by decide +kernel
theorem ch25 : ∀ a ∈ asL, ∀ n ∈ nsL, ∀ t ∈ tsL, chkC (c25 a n t) = true := by decide +kernel
theorem ch26 : ∀ a ∈ asL, ∀ n ∈ nsL, ∀ t ∈ tsL, chkC (c26 a n t) = true := by decide +kernel
end Toy


namespace Toy
open PySem PySem.Spec L2 PyProof.Rows PySem.W
theorem ch27 : ∀ a ∈ asL, ∀ n ∈ nsL, ∀ t ∈ tsL, chkC (c27 a n t) = true := by decide +kernel
theorem ch28 : ∀ a ∈ asL, ∀ n ∈ nsL, ∀ t ∈ tsL, chkC (c28 a n t) = true := by decide +kernel
theorem ch29 : ∀ a ∈ asL, ∀ n ∈ nsL, ∀ t ∈ tsL, chkC (c29 a n t) = true := by decide +kernel
theorem ch30 : ∀ a ∈ asL, ∀ n ∈ nsL, ∀ t ∈ tsL, chkC (c30 a n t) = true := by decide +kernel
theorem ch31 : ∀ a ∈ asL, ∀ n ∈ nsL, ∀ t ∈ tsL, chkC (c31 a n t) = true := by decide +kernel
theorem ch32 : ∀ a ∈ asL, ∀ n ∈ nsL, ∀ t ∈ tsL, chkC (c32 a n t) = true := by decide +kernel
theorem ch33 : ∀ a ∈ asL, ∀ n ∈ nsL, ∀ t ∈ tsL, chkC (c33 a n t) = true := by decide +kernel
theorem ch34 : ∀ a ∈ asL, ∀ n ∈ nsL, ∀ t ∈ tsL, chkC (c34 a n t) = true := by decide +kernel
theorem ch35 : ∀ a ∈ asL, ∀ n ∈ nsL, ∀ t ∈ tsL, chkC (c35 a n t) = true := by decide +kernel
end Toy


namespace Toy
open PySem PySem.Spec L2 PyProof.Rows PySem.W
/-! ### the law -/
abbrev NLw : List Str := ["_law_script", "_law_tape", "_law_turn", "_law_a", "_law_n", "_law_t", "_law_f", "_law_g", "_law_sketch", "_law_due", "_law_kept"]
theorem scLw : FnScope NLw ["_law_script"] (defScope sLaw) := ⟨rfl, rfl, rfl, by decide +kernel, rfl, by decide +kernel, by decide +kernel⟩
def spLaw (K : PySem.W.Frag) : Sp := fun vs H Q _ => ∃ (a : Addr) (ns : List Int), vs = [.ref a] ∧ SqL K H a (ns.map V.int) ∧ ns.length ≤ 63 ∧ ∀ H', Q (.bl true) H'
theorem sqT_butK {K : PySem.W.Frag} {H H' : Hp} {L t : Addr} {m : List (Key × V)} {us : List V} (b : But L H H') (hx : H L = some (.dK m)) (h : SqT K H t us) : SqT K H' t us := by
  rcases h with (h | ⟨o, h⟩) | h
  · exact .inl (.inl (b _ _ (fun z => by rw [z, hx] at h; cases h) h))
  · exact .inl (.inr ⟨o, b _ _ (fun z => by rw [z, hx] at h; cases h) h⟩)
  · exact .inr h
mutual
theorem dv_butK {K : PySem.W.Frag} {H H' : Hp} {L : Addr} {m : List (Key × V)} (b : But L H H') (hL : H L = some (.dK m)) : ∀ {v : V} {t : Dt}, Dv K H v t → noq t = true → Dv K H' v t
  | _, _, .non, _ => .non
  | _, _, .bl b, _ => .bl b
  | _, _, .int b, _ => .int b
  | _, _, .str b, _ => .str b
  | _, _, .tup h d, n => .tup (sqT_butK b hL h) (dvl_butK b hL d (by simpa [noq] using n))
  | _, _, .lst _, n => by simp [noq] at n
  | _, _, .dct _, n => by simp [noq] at n
theorem dvl_butK {K : PySem.W.Frag} {H H' : Hp} {L : Addr} {m : List (Key × V)} (b : But L H H') (hL : H L = some (.dK m)) : ∀ {vs : List V} {ts : List Dt}, DvL K H vs ts → noqL ts = true → DvL K H' vs ts
  | _, _, .nil, _ => .nil
  | _, _, .cons a c, n => by
    simp only [noqL, Bool.and_eq_true] at n
    exact .cons (dv_butK b hL a n.1) (dvl_butK b hL c n.2)
end
theorem chk_all {a : Str} {n : Int} {t : Str} (ha : a ∈ asL) (hn : n ∈ nsL) (ht : t ∈ tsL) : ∀ c ∈ casesA a n t ++ casesB a n t, chkC c = true := by
  intro c hc
  unfold casesA casesB at hc
  simp only [List.cons_append, List.nil_append, List.mem_cons, List.not_mem_nil, or_false] at hc
  rcases hc with rfl | rfl | rfl | rfl | rfl | rfl | rfl | rfl | rfl | rfl | rfl | rfl | rfl | rfl | rfl | rfl | rfl | rfl | rfl | rfl | rfl | rfl | rfl | rfl | rfl | rfl | rfl | rfl | rfl | rfl | rfl | rfl | rfl | rfl | rfl | rfl
  · exact ch0 a ha n hn t ht
  · exact ch1 a ha n hn t ht
  · exact ch2 a ha n hn t ht
  · exact ch3 a ha n hn t ht
  · exact ch4 a ha n hn t ht
  · exact ch5 a ha n hn t ht
  · exact ch6 a ha n hn t ht
  · exact ch7 a ha n hn t ht
  · exact ch8 a ha n hn t ht
  · exact ch9 a ha n hn t ht
  · exact ch10 a ha n hn t ht
  · exact ch11 a ha n hn t ht
  · exact ch12 a ha n hn t ht
  · exact ch13 a ha n hn t ht
  · exact ch14 a ha n hn t ht
  · exact ch15 a ha n hn t ht
  · exact ch16 a ha n hn t ht
  · exact ch17 a ha n hn t ht
  · exact ch18 a ha n hn t ht
  · exact ch19 a ha n hn t ht
  · exact ch20 a ha n hn t ht
  · exact ch21 a ha n hn t ht
  · exact ch22 a ha n hn t ht
  · exact ch23 a ha n hn t ht
  · exact ch24 a ha n hn t ht
  · exact ch25 a ha n hn t ht
  · exact ch26 a ha n hn t ht
  · exact ch27 a ha n hn t ht
  · exact ch28 a ha n hn t ht
  · exact ch29 a ha n hn t ht
  · exact ch30 a ha n hn t ht
  · exact ch31 a ha n hn t ht
  · exact ch32 a ha n hn t ht
  · exact ch33 a ha n hn t ht
  · exact ch34 a ha n hn t ht
  · exact ch35 a ha n hn t ht
theorem chk_at {c : Dt} (h : chkC c = true) : ∃ f g s d b, c = .tup [f, g, s, d] ∧ chW fuelC [([], f)] = true ∧ chW fuelC [([], g)] = true ∧ shwB s = true ∧ shwB d = true ∧ toldW fuelC [f, g] ([], [], [], []) = some b ∧ okN b = true ∧ sketchT b.1 f g s = some d := by
  unfold chkC at h
  split at h
  · rename_i f g s d
    simp only [Bool.and_eq_true] at h
    obtain ⟨⟨⟨⟨h1, h2⟩, h3⟩, h4⟩, h5⟩ := h
    cases hb : toldW fuelC [f, g] ([], [], [], []) with
    | none => rw [hb] at h5; cases h5
    | some b =>
      rw [hb] at h5
      simp only [Bool.and_eq_true] at h5
      obtain ⟨h6, h7⟩ := h5
      cases hs : sketchT b.1 f g s with
      | none => rw [hs] at h7; cases h7
      | some x =>
        rw [hs] at h7
        obtain rfl := eqD_eq h7
        exact ⟨f, g, s, x, b, rfl, h1, h2, h3, h4, hb, h6, hs⟩
  · cases h
section
variable {P : Program} {w : World} {K : PySem.W.Frag} {mg : Str → Option Value} {base : Heap}
theorem body_law {f fB fPi fSh fCa fSk : Addr} {dB dPi dSh dCa dSk : FuncData} (L : BT mg) (SY : SysD K)
    (DBg : Dn P w K mg base CX0 1 "_law_begin" ["_law_script"] (spBegin K) fB dB) (DPi : Dn P w K mg base CX0 2 "_law_pick" ["_law_tape", "_law_items"] spPick fPi dPi) (DSh : Dn P w K mg base CX0 2 "_law_shuffled" ["_law_tape", "_law_items"] spShuf fSh dSh)
    (DCa : Dn P w K mg base CX0 3 "_law_cases" ["_law_a", "_law_n", "_law_t"] (spCa K) fCa dCa) (DSk : Dn P w K mg base CX0 18 "sketched" ["f", "g", "sketch"] (spSd K) fSk dSk) :
    BodyOk P w K mg base 127 NLw "law" (defScope sLaw) (defBody sLaw) f (spLaw K) := by
  intro cdv s H vs Q E hr h
  obtain ⟨a, ns, rfl, hS, hlen, q⟩ := h
  have hr1 := hr.mono (show 1 ≤ 127 by decide)
  have hr2 := hr.mono (show 2 ≤ 127 by decide)
  have hr3 := hr.mono (show 3 ≤ 127 by decide)
  have hr18 := hr.mono (show 18 ≤ 127 by decide)
  have hu2 : (callerA.deeper (PyProof.Rows.envOfC "law" (defScope sLaw) s.heap.objs.size f cdv)).units + 200 < cLine := by
    have := hr.un
    omega
  have hgd : (callerA.deeper (PyProof.Rows.envOfC "law" (defScope sLaw) s.heap.objs.size f cdv)).guards = some [] := rfl
  refine ⟨_, PSs.nox (pss_cons (ps_set (i := 1) scLw.nd rfl (Or.inl rfl) (pe_call DBg.G hr1 (by rfl) DBg.m DBg.k DBg.b .nil pass0 (pa_cons (pv 0) pa_nil)))
      (pss_cons (ps_for PassesOwn.never rfl (pi_range1 (by rfl) L.range (pa_cons pe_int pa_nil)) (pg_name (i := 2) scLw.nd rfl (.inl rfl)) (pss_cons (ps_par (i := 3) (j := 4) rfl scLw.nd rfl rfl (by decide) rfl rfl (pa_cons (pe_call DPi.G hr2 (by rfl) DPi.m DPi.k DPi.b .nil pass0 (pa_cons (pv 1) (pa_cons (pe_lst (pa_cons pe_str (pa_cons pe_str (pa_cons pe_str (pa_cons pe_str pa_nil))))) pa_nil))) (pa_cons (pe_call DPi.G hr2 (by rfl) DPi.m DPi.k DPi.b .nil pass0 (pa_cons (pv 1) (pa_cons (pe_lst (pa_cons pe_int (pa_cons pe_int (pa_cons (pe_un un_neg pe_int) (pa_cons (pe_op op_pow pe_int pe_int) (pa_cons pe_int pa_nil)))))) pa_nil))) pa_nil)) (by rfl))
      (pss_cons (ps_set (i := 5) scLw.nd rfl (Or.inl rfl) (pe_call DPi.G hr2 (by rfl) DPi.m DPi.k DPi.b .nil pass0 (pa_cons (pv 1) (pa_cons (pe_lst (pa_cons pe_str (pa_cons pe_str (pa_cons pe_str (pa_cons pe_str pa_nil))))) pa_nil))))
      (pss_one (ps_for PassesOwn.never rfl (pi_list (pe_call DSh.G hr2 (by rfl) DSh.m DSh.k DSh.b .nil pass0 (pa_cons (pv 1) (pa_cons (pe_call DCa.G hr3 (by rfl) DCa.m DCa.k DCa.b .nil pass0 (pa_cons (pv 3) (pa_cons (pv 4) (pa_cons (pv 5) pa_nil)))) pa_nil)))) (pg_tup rfl (pgs_cons (pg_name (i := 6) scLw.nd rfl (.inl rfl)) (pgs_cons (pg_name (i := 7) scLw.nd rfl (.inl rfl)) (pgs_cons (pg_name (i := 8) scLw.nd rfl (.inl rfl)) (pgs_cons (pg_name (i := 9) scLw.nd rfl (.inl rfl)) pgs_nil))))) (pss_cons (ps_set (i := 10) scLw.nd rfl (Or.inl rfl) (pe_callB (show CallR _ (.builtin "repr") (rRepA K) from call_rep SY hu2 hgd) (by rfl) L.repr (by decide +kernel) (pa_cons (pv 8) pa_nil)))
      (pss_one (ps_if (PW.pt (pw_or (pt_cmpR op_ne (pe_callB (show CallR _ (.builtin "repr") (rRepA K) from call_rep SY hu2 hgd) (by rfl) L.repr (by decide +kernel) (pa_cons (pe_call DSk.G hr18 (by rfl) DSk.m DSk.k DSk.b .nil pass0 (pa_cons (pv 6) (pa_cons (pv 7) (pa_cons (pv 8) pa_nil)))) pa_nil)) (pe_callB (show CallR _ (.builtin "repr") (rRepA K) from call_rep SY hu2 hgd) (by rfl) L.repr (by decide +kernel) (pa_cons (pv 9) pa_nil)) (nomark _)) (pw_or1 (pt_cmpR op_ne (pe_callB (show CallR _ (.builtin "repr") (rRepA K) from call_rep SY hu2 hgd) (by rfl) L.repr (by decide +kernel) (pa_cons (pv 8) pa_nil)) (pv 10) (nomark _))))) (pss_one (ps_ret pe_bl)) pss_nil))))))))
      (pss_one (ps_ret pe_bl)))), ?_⟩
  refine asg_run ⟨_, rfl, a, ns, rfl, hS, hlen, fun H1 d l s1 nd nl nld hT => ?_⟩
  dsimp only
  refine seq_postS (fun σ' H' => True) (fun rr kk => ?_) (fun σ' H2 _ => ret_run (q _))
  refine ⟨2, rfl, by decide, by decide, ?_⟩
  refine for_range (lo := 0) (n := (2 : Int).toNat) (fun i σ H' => ∃ (o2 o3 o4 o5 o6 o7 o8 o9 o10 : Option V), σ = [some (.ref a), some (.ref d), o2, o3, o4, o5, o6, o7, o8, o9, o10] ∧ Tape H' d (tl0 l) (100 * i)) ⟨_, _, _, _, _, _, _, _, _, rfl, hT⟩ ?_ (fun _ _ _ => kk _ _ trivial)
  rintro tn σ H2 htn ⟨o2, o3, o4, o5, o6, o7, o8, o9, o10, rfl, t2⟩
  have htn2 : tn < 2 := htn
  refine gn_run ?_
  dsimp only
  refine ⟨_, rfl, few (by show 4 ≤ 1000; decide), fun T1 n1 => ⟨d, tl0 l, T1, 100 * tn, _, rfl, t2.same (same_new same_id n1), by omega, upd_same, (fun z => by cases z), by show 4 < 1000000; decide, fun H3 va b3 t3 hva => ?_⟩⟩
  refine ⟨_, rfl, _, rfl, _, _, rfl, rfl, ⟨by decide, by decide, by decide⟩, few (by show 5 ≤ 1000; decide), fun T2 n2 => ⟨d, tl0 l, T2, 100 * tn + 1, _, rfl, t3.same (same_new same_id n2), by omega, upd_same, (fun z => by cases z), by show 5 < 1000000; decide, fun H4 vn b4 t4 hvn => ⟨va, vn, rfl, ?_⟩⟩⟩
  dsimp only
  refine asg_run ⟨_, rfl, few (by show 4 ≤ 1000; decide), fun T3 n3 => ⟨d, tl0 l, T3, 100 * tn + 1 + 1, _, rfl, t4.same (same_new same_id n3), by omega, upd_same, (fun z => by cases z), by show 4 < 1000000; decide, fun H5 vt b5 t5 hvt => ?_⟩⟩
  obtain ⟨sa, rfl, hsa⟩ : ∃ x : Str, va = .str x ∧ x ∈ asL := by
    simp only [List.mem_cons, List.not_mem_nil, or_false] at hva
    unfold asL
    rcases hva with h | h | h | h <;> exact ⟨_, h, by simp⟩
  obtain ⟨sn, rfl, hsn⟩ : ∃ x : Int, vn = .int x ∧ x ∈ nsL := by
    simp only [List.mem_cons, List.not_mem_nil, or_false] at hvn
    unfold nsL
    rcases hvn with h | h | h | h | h
    · exact ⟨_, h, by simp⟩
    · exact ⟨_, h, by simp⟩
    · exact ⟨_, h, by simp⟩
    · exact ⟨_, h, by simp⟩
    · exact ⟨_, h, by simp⟩
  obtain ⟨st, rfl, hst⟩ : ∃ x : Str, vt = .str x ∧ x ∈ tsL := by
    simp only [List.mem_cons, List.not_mem_nil, or_false] at hvt
    unfold tsL
    rcases hvt with h | h | h | h <;> exact ⟨_, h, by simp⟩
  have hal : sa.length ≤ 100 := by
    have : ∀ x ∈ asL, x.length ≤ 100 := by decide +kernel
    exact this _ hsa
  refine ⟨_, rfl, _, rfl, _, rfl, _, rfl, sa, sn, st, rfl, hal, fun H6 Lc xs s6 nLc hLc hxs => ?_⟩
  have hxl : xs.length = 36 := by
    rw [hxs.len]
    rfl
  refine ⟨d, Lc, tl0 l, 100 * tn + 1 + 1 + 1, xs, rfl, t5.same s6, by omega, hLc, by omega, fun H7 R ys b7 t7 nR hR hperm => ⟨R, rfl, ⟨_, SqL.of hR⟩, ?_⟩⟩
  obtain ⟨kd, hkd⟩ : ∃ m, H6 d = some (.dK m) := by
    obtain ⟨ms, f1, f2, h1, _⟩ := t5.same s6
    exact ⟨_, h1⟩
  refine for_list (K := K) (a := R) (xs := ys) (fun j σ' H' => ∃ (p6 p7 p8 p9 p10 : Option V), σ' = [some (.ref a), some (.ref d), some (.int (0 + (tn : Int))), some (.str sa), some (.int sn), some (.str st), p6, p7, p8, p9, p10] ∧ Same H7 H') ?_ (fun j σ' H' _ h => by obtain ⟨_, _, _, _, _, _, z⟩ := h; exact SqL.of (z _ _ hR)) ?_ ?_
  · exact ⟨_, _, _, _, _, rfl, same_id⟩
  · rintro j y σ' H8 hy ⟨p6, p7, p8, p9, p10, rfl, s8⟩
    have hyx : y ∈ xs := hperm.mem_iff.mp (List.mem_of_getElem? hy)
    obtain ⟨iy, hiy⟩ := List.getElem?_of_mem hyx
    obtain ⟨c, hc, hpc⟩ := hxs.get hiy
    have hck := chk_all hsa hsn hst c (List.mem_of_getElem? hc)
    have hpc7 : Pt K H7 y c := ⟨dv_butK b7 hkd hpc.1 hpc.2, hpc.2⟩
    have hpc8 := hpc7.same s8
    obtain ⟨tf, tg, ts, td, b, rfl, c1, c2, c3, c4, c5, c6, c7⟩ := chk_at hck
    obtain ⟨ya, yv, rfl, hya, hyv⟩ := hpc8.tup
    obtain ⟨vf, yv1, rfl, hf, hyv1⟩ := hyv.cons
    obtain ⟨vg, yv2, rfl, hg, hyv2⟩ := hyv1.cons
    obtain ⟨vs, yv3, rfl, hs, hyv3⟩ := hyv2.cons
    obtain ⟨vd, yv4, rfl, hd, hyv4⟩ := hyv3.cons
    obtain rfl := hyv4.nil
    refine ⟨ya, _, rfl, hya, rfl, _, _, rfl, _, _, rfl, _, _, rfl, _, _, rfl, rfl, ?_⟩
    refine asg_run ⟨_, rfl, vs, toPy ts, rfl, shw_of hs c3, ?_⟩
    dsimp only
    refine ⟨_, rfl, _, rfl, _, rfl, vf, vg, vs, tf, tg, ts, b, rfl, hf, hg, hs, c1, c2, c5, c6, ?_⟩
    rw [c7]
    intro H9 vr s9 hr9
    refine ⟨vr, toPy td, rfl, shw_of hr9 c4, _, rfl, vd, toPy td, rfl, shw_of (hd.same s9) c4, rfl, _, rfl, ?_⟩
    rw [decide_eq_true rfl]
    refine iteF ⟨_, rfl, vs, toPy ts, rfl, shw_of (hs.same s9) c3, _, rfl, rfl, _, rfl, ?_⟩
    rw [decide_eq_true rfl]
    exact iteF ⟨_, _, _, _, _, rfl, s8.trans s9⟩
  · rintro σ' H8 ⟨p6, p7, p8, p9, p10, rfl, s8⟩
    exact ⟨_, _, _, _, _, _, _, _, _, rfl, (t7.same s8).more (by omega)⟩
end
end Toy


namespace Toy
open PySem PySem.Spec PyProof.Rows L2 PySem.KX
/-! ### the facts, read off the head's answer -/
theorem fun_of {K : PySem.W.Frag} {x q : Str} {st : Stmt} {f : Addr} {fd : FuncData} (F : FunD K x q (defArgs st) (defBody st) (defScope st) [] [] f fd) : Fun K x q st f fd := by
  obtain ⟨oc, od, dV, kV, doc, pm, an, cdv, ct, osl, rfl, lk, hcd, hD, _⟩ := F.ex
  rcases hD with ⟨_, rfl⟩ | ⟨e, _⟩
  · exact ⟨⟨oc, od, kV, doc, pm, an, cdv, ct, osl, rfl, lk, hcd⟩, F.kp⟩
  · exact absurd rfl e
theorem and2 {a b : Bool} (h : (a && b) = true) : a = true ∧ b = true := Bool.and_eq_true_iff.mp h
section
variable {K : PySem.W.Frag} (c : clsB K = true)
include c
theorem ex_own : Own K (CU K) (He.ma K (CU K) "__init__") "Exception" "Exception.__new__" "Exception.__init__" btL := by
  obtain ⟨o, h⟩ := and2 c
  obtain ⟨_, h⟩ := and2 h
  obtain ⟨_, h⟩ := and2 h
  obtain ⟨_, h⟩ := and2 h
  obtain ⟨_, h⟩ := and2 h
  obtain ⟨_, h⟩ := and2 h
  obtain ⟨s1, s2⟩ := and2 h
  obtain ⟨o1, o⟩ := and2 o
  obtain ⟨o2, o⟩ := and2 o
  obtain ⟨o3, o⟩ := and2 o
  obtain ⟨o4, o⟩ := and2 o
  obtain ⟨o5, o⟩ := and2 o
  obtain ⟨o6, o⟩ := and2 o
  obtain ⟨o7, o⟩ := and2 o
  obtain ⟨o8, o⟩ := and2 o
  obtain ⟨o9, o⟩ := and2 o
  obtain ⟨o10, o⟩ := and2 o
  obtain ⟨o11, o12⟩ := and2 o
  exact ⟨PySem.F.excBase_Exception, PySem.F.store_Exception, o1, o2, o3, He.eqO_ok o4, He.eqO_ok o5, He.eqO_ok o6, of_decide_eq_true o7, o8, He.eqO_ok o9, of_decide_eq_true o10, He.eqO_ok o11, of_decide_eq_true s1, of_decide_eq_true s2, of_decide_eq_true o12⟩
theorem ex_frees : Free K (CU K) "number" ∧ Free K (CU K) "place" ∧ Free K (CU K) "question" := by
  obtain ⟨_, h⟩ := and2 c
  obtain ⟨h1, h⟩ := and2 h
  obtain ⟨h2, h⟩ := and2 h
  obtain ⟨h3, _⟩ := and2 h
  obtain ⟨a1, b1⟩ := and2 h1
  obtain ⟨a2, b2⟩ := and2 h2
  obtain ⟨a3, b3⟩ := and2 h3
  exact ⟨⟨of_decide_eq_true a1, He.eqO_ok b1⟩, ⟨of_decide_eq_true a2, He.eqO_ok b2⟩, ⟨of_decide_eq_true a3, He.eqO_ok b3⟩⟩
theorem ex_clsU : ClsU K (CU K) := by
  have o := ex_own c
  obtain ⟨f1, f2, f3⟩ := ex_frees c
  obtain ⟨_, h⟩ := and2 c
  obtain ⟨_, h⟩ := and2 h
  obtain ⟨_, h⟩ := and2 h
  obtain ⟨_, h⟩ := and2 h
  obtain ⟨h2, _⟩ := and2 h
  exact ⟨⟨o.ga, o.gg, o.exc, o.dct⟩, f2.n, f3.n, of_decide_eq_true h2⟩
theorem ex_clR : ClR K (CU K) := by
  have o := ex_own c
  obtain ⟨_, h⟩ := and2 c
  obtain ⟨_, h⟩ := and2 h
  obtain ⟨_, h⟩ := and2 h
  obtain ⟨_, h⟩ := and2 h
  obtain ⟨_, h⟩ := and2 h
  obtain ⟨h1, _⟩ := and2 h
  exact ⟨o.exc, of_decide_eq_true h1⟩
end
theorem mk_cl3 {K : PySem.W.Frag} (c : clsB K = true) {qual : Str} {fd : FuncData} {a1 a2 a3 a4 q1 q2 q3 q4 r1 r2 r3 r4 p1 p2 p3 p4 : Pos}
    (F : FunD K "__init__" qual (argsOf [arg1 "self" a1, arg1 "number" a2, arg1 "place" a3, arg1 "question" a4]) [setS "number" q1 q2 q3 q4, setS "place" r1 r2 r3 r4, setS "question" p1 p2 p3 p4] (scOf ["self", "number", "place", "question"]) [] [] (He.ma K (CU K) "__init__") fd)
    (b1 : ∀ (kV doc pm : Value) (an : Option Addr) (cdv ct self v u w : Value), bindArgs (PySem.W.fnOf "__init__" qual (argsOf [arg1 "self" a1, arg1 "number" a2, arg1 "place" a3, arg1 "question" a4]) [setS "number" q1 q2 q3 q4, setS "place" r1 r2 r3 r4, setS "question" p1 p2 p3 p4] (scOf ["self", "number", "place", "question"]) .none kV doc pm an cdv ct) ⟨[self, v, u, w], []⟩ = pure [(("self" : Str), self), ("number", v), ("place", u), ("question", w)]) : Cl3 K (CU K) "number" "place" "question" := by
  have O := ex_own c
  obtain ⟨f1, f2, f3⟩ := ex_frees c
  refine ⟨⟨_, _, _, _, _, qual, fd, a1, a2, a3, a4, q1, q2, q3, q4, r1, r2, r3, r4, p1, p2, p3, p4, O, F, ?_⟩, f1, f2, f3, by decide +kernel, by decide +kernel, by decide +kernel, by decide +kernel, by decide +kernel, by decide +kernel, by decide +kernel, by decide +kernel, by decide +kernel, O.kp⟩
  obtain ⟨oc, od, dV, kV, doc, pm, an, cdv, ct, osl, rfl, lk, hcd, hD, _⟩ := F.ex
  rcases hD with ⟨_, rfl⟩ | ⟨e, _⟩
  · exact fun s self v u w => .of_eq (b1 kV doc pm an cdv ct (.ref self) v u w)
  · exact absurd rfl e
theorem vi_ok {K : PySem.W.Frag} (e : fnI K = viV) (c : viB K = true) : ∃ fd, FunD K "__init__" "View.__init__" (defArgs sVi) (defBody sVi) (defScope sVi) [.ref (p0 K), .int 0] [] (FV K) fd := by
  obtain ⟨kp, c2⟩ := and2 c
  unfold fnI He.fnW at e
  have ea : He.fAd K ("View", some "__init__") = FV K := rfl
  rw [ea] at e
  cases q : K.lookup (FV K) with
  | none =>
    rw [q] at c2
    cases c2
  | some o =>
    obtain ⟨oc, od, dt, osl⟩ := o
    rw [q] at c2 e
    cases dt with
    | func fd =>
      obtain ⟨n1, n2, n3, n4, n5, n6, n7, n8, n9, n10, n11, n12, n13, n14, n15⟩ := fd
      have e2 : (some (n1, n2, n3, n4, n5, n6, n7, n15) : He.FnW) = some (("__init__" : Str), ("View.__init__" : Str), defArgs sVi, .stmts (defBody sVi), defScope sVi, mainGlobals, [], builtinsNs) := e
      simp only [Option.some.injEq, Prod.mk.injEq] at e2
      obtain ⟨h1, h2, h3, h4, h5, h6, h7, h8⟩ := e2
      subst h1 h2 h3 h4 h5 h6 h7 h8
      have c3 : (PySem.W.codeIn K n13 "View.__init__" && (He.dflB K n8 [.ref (p0 K), .int 0] && He.kwdB K n9 [])) = true := c2
      obtain ⟨k1, k2⟩ := and2 c3
      obtain ⟨k3, k4⟩ := and2 k2
      exact ⟨_, ⟨oc, od, n8, n9, n10, n11, n12, n13, n14, osl, rfl, q, k1, He.dflB_ok k3, He.kwdB_ok k4⟩, kp⟩
    | _ => cases c2
theorem e0_ok {K : PySem.W.Frag} (h : e0B K = true) : ∀ H : Hp, SqT K H (p0 K) [] := by
  intro H
  unfold e0B at h
  split at h
  · rename_i c x its n sl e
    obtain ⟨h1, h2⟩ := and2 h
    have h1 := of_decide_eq_true h1
    have h2 := of_decide_eq_true h2
    subst h1
    exact .inr ⟨_, its, n, e, rfl, rfl, by rw [← Array.length_toList, h2]; exact Nat.zero_le _, by rw [h2]; exact .nil⟩
  · cases h
theorem so_ok {K : PySem.W.Frag} (h : soB K = true) : ∃ o, K.lookup (He.ga K "SORTS") = some o ∧ o.cls = .type "tuple" ∧ o.dict = none := by
  unfold soB at h
  split at h
  · rename_i c x sl e
    have h1 := of_decide_eq_true h
    subst h1
    exact ⟨_, e, rfl, rfl⟩
  · cases h
theorem sys_ok {K : PySem.W.Frag} (h : sysB K = true) : SysD K := by
  unfold sysB at h
  cases e : K.lookup sysModules with
  | none => rw [e] at h; cases h
  | some o =>
    rw [e] at h
    exact ⟨o, e, by simpa using h⟩
theorem facts {w : World} {K : PySem.W.Frag} {h : Heap} {mg : Str → Option Value} {f : Addr} (X : K.In h) (G : h.Ns mainGlobals mg) (hfa : mg ("law" : Str) = some (.ref f)) (S : He.SaysX fa fn ts tf exB w h K) (S2 : fnI K = viV) :
    ∃ fd : FuncData, FunD K "law" "law" (defArgs sLaw) (defBody sLaw) (defScope sLaw) [] [] f fd ∧ (∀ (s : Shared) (v : Value), BindsTo s fd ⟨[v], []⟩ [("_law_script", v)]) ∧ ∀ base : Heap, K.In base → base.Ns mainGlobals mg → BodyOk R.prog w K mg base 127 NLw "law" (defScope sLaw) (defBody sLaw) f (spLaw K) := by
  obtain ⟨dIi, FIi⟩ := S.t.d.def_ 0 (d := hdOf "is_integer" sIsInt) rfl
  have mIi := He.glo_ok X G (S.t.d.fact 0 (f := .glo "is_integer") rfl)
  obtain ⟨dSo, FSo⟩ := S.t.d.def_ 1 (d := hdOf "sort_of" sSo) rfl
  have mSo := He.glo_ok X G (S.t.d.fact 1 (f := .glo "sort_of") rfl)
  obtain ⟨dAl, FAl⟩ := S.t.d.def_ 2 (d := hdOf "alike" sAl) rfl
  have mAl := He.glo_ok X G (S.t.d.fact 2 (f := .glo "alike") rfl)
  obtain ⟨dOk, FOk⟩ := S.t.d.def_ 3 (d := hdOf "order_key" sOk) rfl
  have mOk := He.glo_ok X G (S.t.d.fact 3 (f := .glo "order_key") rfl)
  obtain ⟨dBg, FBg⟩ := S.t.d.def_ 4 (d := hdOf "begins_kind" sBeg) rfl
  have mBg := He.glo_ok X G (S.t.d.fact 4 (f := .glo "begins_kind") rfl)
  obtain ⟨dKp, FKp⟩ := S.t.d.def_ 5 (d := hdOf "kinds_and_parts" sKP) rfl
  have mKp := He.glo_ok X G (S.t.d.fact 5 (f := .glo "kinds_and_parts") rfl)
  obtain ⟨dDc, FDc⟩ := S.t.d.def_ 6 (d := hdOf "demand_chooser" sDc) rfl
  have mDc := He.glo_ok X G (S.t.d.fact 6 (f := .glo "demand_chooser") rfl)
  obtain ⟨dBe, FBe⟩ := S.t.d.def_ 7 (d := hdOf "begun" sBe) rfl
  have mBe := He.glo_ok X G (S.t.d.fact 7 (f := .glo "begun") rfl)
  obtain ⟨dFo, FFo⟩ := S.t.d.def_ 8 (d := hdOf "followed" sFo) rfl
  have mFo := He.glo_ok X G (S.t.d.fact 8 (f := .glo "followed") rfl)
  obtain ⟨dFu, FFu⟩ := S.t.d.def_ 9 (d := hdOf "_further" sFu) rfl
  have mFu := He.glo_ok X G (S.t.d.fact 9 (f := .glo "_further") rfl)
  obtain ⟨dFp, FFp⟩ := S.t.d.def_ 10 (d := hdOf "_further_parts" sFp) rfl
  have mFp := He.glo_ok X G (S.t.d.fact 10 (f := .glo "_further_parts") rfl)
  obtain ⟨dTb, FTb⟩ := S.t.d.def_ 11 (d := hdOf "taken_by" sTb) rfl
  have mTb := He.glo_ok X G (S.t.d.fact 11 (f := .glo "taken_by") rfl)
  obtain ⟨dWk, FWk⟩ := S.t.d.def_ 12 (d := hdOf "_walked" sWk) rfl
  have mWk := He.glo_ok X G (S.t.d.fact 12 (f := .glo "_walked") rfl)
  obtain ⟨dHi, FHi⟩ := S.t.d.def_ 13 (d := hdOf "holds_in" sHi) rfl
  have mHi := He.glo_ok X G (S.t.d.fact 13 (f := .glo "holds_in") rfl)
  obtain ⟨dRo, FRo⟩ := S.t.d.def_ 14 (d := hdOf "row_in" sRo) rfl
  have mRo := He.glo_ok X G (S.t.d.fact 14 (f := .glo "row_in") rfl)
  obtain ⟨dNi, FNi⟩ := S.t.d.def_ 15 (d := hdOf "node_in" sNi) rfl
  have mNi := He.glo_ok X G (S.t.d.fact 15 (f := .glo "node_in") rfl)
  obtain ⟨dNa, FNa⟩ := S.t.d.def_ 16 (d := hdOf "node_at" sNa) rfl
  have mNa := He.glo_ok X G (S.t.d.fact 16 (f := .glo "node_at") rfl)
  obtain ⟨dSk, FSk⟩ := S.t.d.def_ 17 (d := hdOf "sort_known" sSk) rfl
  have mSk := He.glo_ok X G (S.t.d.fact 17 (f := .glo "sort_known") rfl)
  obtain ⟨dTo, FTo⟩ := S.t.d.def_ 18 (d := hdOf "_told_by" sTo) rfl
  have mTo := He.glo_ok X G (S.t.d.fact 18 (f := .glo "_told_by") rfl)
  obtain ⟨dNb, FNb⟩ := S.t.d.def_ 19 (d := hdOf "_names_between" sNb) rfl
  have mNb := He.glo_ok X G (S.t.d.fact 19 (f := .glo "_names_between") rfl)
  obtain ⟨dNx, FNx⟩ := S.t.d.def_ 20 (d := hdOf "_next_name" sNx) rfl
  have mNx := He.glo_ok X G (S.t.d.fact 20 (f := .glo "_next_name") rfl)
  obtain ⟨dSk2, FSk2⟩ := S.t.d.def_ 21 (d := hdOf "sketched" sSd) rfl
  have mSk2 := He.glo_ok X G (S.t.d.fact 21 (f := .glo "sketched") rfl)
  obtain ⟨dSn, FSn⟩ := S.t.d.def_ 22 (d := hdOf "sketched_named" sSn) rfl
  have mSn := He.glo_ok X G (S.t.d.fact 22 (f := .glo "sketched_named") rfl)
  obtain ⟨dB, FB⟩ := S.t.d.def_ 23 (d := hdOf "_law_begin" sBegin) rfl
  have mB := He.glo_ok X G (S.t.d.fact 23 (f := .glo "_law_begin") rfl)
  obtain ⟨dD, FD⟩ := S.t.d.def_ 24 (d := hdOf "_law_draw" sDraw) rfl
  have mD := He.glo_ok X G (S.t.d.fact 24 (f := .glo "_law_draw") rfl)
  obtain ⟨dPi, FPi⟩ := S.t.d.def_ 25 (d := hdOf "_law_pick" sPick) rfl
  have mPi := He.glo_ok X G (S.t.d.fact 25 (f := .glo "_law_pick") rfl)
  obtain ⟨dSh, FSh⟩ := S.t.d.def_ 26 (d := hdOf "_law_shuffled" sShuf) rfl
  have mSh := He.glo_ok X G (S.t.d.fact 26 (f := .glo "_law_shuffled") rfl)
  obtain ⟨dEa, FEa⟩ := S.t.d.def_ 27 (d := hdOf "_law_each" sEa) rfl
  have mEa := He.glo_ok X G (S.t.d.fact 27 (f := .glo "_law_each") rfl)
  obtain ⟨dCa, FCa⟩ := S.t.d.def_ 28 (d := hdOf "_law_cases" sCa) rfl
  have mCa := He.glo_ok X G (S.t.d.fact 28 (f := .glo "_law_cases") rfl)
  obtain ⟨dLc, FLc⟩ := S.t.d.def_ 29 (d := hdOf "_law_list_cases" sLc) rfl
  have mLc := He.glo_ok X G (S.t.d.fact 29 (f := .glo "_law_list_cases") rfl)
  obtain ⟨dL, FL⟩ := S.t.d.def_ 30 (d := hdOf "law" sLaw) rfl
  have mL := He.glo_ok X G (S.t.d.fact 30 (f := .glo "law") rfl)
  obtain ⟨dVl, FVl⟩ := S.t.d.def_ 31 (d := mOf "View" "located" "View.located" sVl) rfl
  obtain ⟨dVn, FVn⟩ := S.t.d.def_ 32 (d := mOf "View" "node" "View.node" sVn) rfl
  obtain ⟨dVd, FVd⟩ := S.t.d.def_ 33 (d := mOf "View" "demand" "View.demand" sVd) rfl
  obtain ⟨dVo, FVo⟩ := S.t.d.def_ 34 (d := mOf "View" "is_of" "View.is_of" sVo) rfl
  obtain ⟨dVe, FVe⟩ := S.t.d.def_ 35 (d := mOf "View" "is_equal" "View.is_equal" sVe) rfl
  obtain ⟨dVh, FVh⟩ := S.t.d.def_ 36 (d := mOf "View" "has" "View.has" sVh) rfl
  obtain ⟨dVx, FVx⟩ := S.t.d.def_ 37 (d := mOf "View" "has_index" "View.has_index" sVx) rfl
  obtain ⟨dVk, FVk⟩ := S.t.d.def_ 38 (d := mOf "View" "has_key" "View.has_key" sVk) rfl
  obtain ⟨dVg, FVg⟩ := S.t.d.def_ 39 (d := mOf "View" "gap_keys" "View.gap_keys" sVg) rfl
  obtain ⟨dVs, FVs⟩ := S.t.d.def_ 40 (d := mOf "View" "step_behind" "View.step_behind" sVs) rfl
  obtain ⟨dNm, FNm⟩ := S.t.d.def_ 41 (d := mOf "Names" "__init__" "Names.__init__" sNm) rfl
  obtain ⟨dU, FU⟩ := S.t.d.def_ 42 (d := mOf "Unsettled" "__init__" "Unsettled.__init__" (inClass (top 50) 0)) rfl
  have g_View := He.glo_ok X G (S.t.d.fact 31 (f := .glo "View") rfl)
  have g_Names := He.glo_ok X G (S.t.d.fact 32 (f := .glo "Names") rfl)
  have g_Unsettled := He.glo_ok X G (S.t.d.fact 33 (f := .glo "Unsettled") rfl)
  have g_FORMS := He.glo_ok X G (S.t.d.fact 34 (f := .glo "FORMS") rfl)
  have g_TESTS := He.glo_ok X G (S.t.d.fact 35 (f := .glo "TESTS") rfl)
  have g_WALKS := He.glo_ok X G (S.t.d.fact 36 (f := .glo "WALKS") rfl)
  have g_CHOOSERS := He.glo_ok X G (S.t.d.fact 37 (f := .glo "CHOOSERS") rfl)
  have g_PART_KINDS := He.glo_ok X G (S.t.d.fact 38 (f := .glo "PART_KINDS") rfl)
  have g_SORTS := He.glo_ok X G (S.t.d.fact 39 (f := .glo "SORTS") rfl)
  have g_ABSENT := He.glo_ok X G (S.t.d.fact 40 (f := .glo "ABSENT") rfl)
  obtain ⟨t_MOST_LETTERS, m_MOST_LETTERS⟩ := He.int_ok X G (S.t.d.fact 41 (f := .int "MOST_LETTERS" 8) rfl)
  have r_MOST_LETTERS : L2.RelV (.int 8) (.int 8 t_MOST_LETTERS) := ⟨t_MOST_LETTERS, rfl⟩
  obtain ⟨t_MOST_IN_GAP, m_MOST_IN_GAP⟩ := He.int_ok X G (S.t.d.fact 42 (f := .int "MOST_IN_GAP" 2) rfl)
  have r_MOST_IN_GAP : L2.RelV (.int 2) (.int 2 t_MOST_IN_GAP) := ⟨t_MOST_IN_GAP, rfl⟩
  obtain ⟨t_GIVES, m_GIVES⟩ := He.str_ok X G (S.t.d.fact 43 (f := .str "GIVES" "gives") rfl)
  have r_GIVES : L2.RelV (.str "gives") (.str "gives" t_GIVES) := ⟨t_GIVES, rfl⟩
  obtain ⟨t_NONE, m_NONE⟩ := He.str_ok X G (S.t.d.fact 44 (f := .str "NONE" "none") rfl)
  have r_NONE : L2.RelV (.str "none") (.str "none" t_NONE) := ⟨t_NONE, rfl⟩
  obtain ⟨t_FAILS, m_FAILS⟩ := He.str_ok X G (S.t.d.fact 45 (f := .str "FAILS" "fails") rfl)
  have r_FAILS : L2.RelV (.str "fails") (.str "fails" t_FAILS) := ⟨t_FAILS, rfl⟩
  have z_len := He.free_ok X G (S.t.d.fact 46 (f := .free "len") rfl)
  have z_isinstance := He.free_ok X G (S.t.d.fact 47 (f := .free "isinstance") rfl)
  have z_list := He.free_ok X G (S.t.d.fact 48 (f := .free "list") rfl)
  have z_tuple := He.free_ok X G (S.t.d.fact 49 (f := .free "tuple") rfl)
  have z_str := He.free_ok X G (S.t.d.fact 50 (f := .free "str") rfl)
  have z_int := He.free_ok X G (S.t.d.fact 51 (f := .free "int") rfl)
  have z_bool := He.free_ok X G (S.t.d.fact 52 (f := .free "bool") rfl)
  have z_range := He.free_ok X G (S.t.d.fact 53 (f := .free "range") rfl)
  have z_reversed := He.free_ok X G (S.t.d.fact 54 (f := .free "reversed") rfl)
  have z_enumerate := He.free_ok X G (S.t.d.fact 55 (f := .free "enumerate") rfl)
  have z_sorted := He.free_ok X G (S.t.d.fact 56 (f := .free "sorted") rfl)
  have z_max := He.free_ok X G (S.t.d.fact 57 (f := .free "max") rfl)
  have z_zip := He.free_ok X G (S.t.d.fact 58 (f := .free "zip") rfl)
  have z_repr := He.free_ok X G (S.t.d.fact 59 (f := .free "repr") rfl)
  have z_all := He.free_ok X G (S.t.d.fact 60 (f := .free "all") rfl)
  have cls_V := He.cls_ok (S.t.d.fact 61 (f := .cls "View") rfl)
  have mkr_V := He.mkr_ok (S.t.d.fact 62 (f := .mkr "View") rfl)
  have no_V_names := He.noat_ok (S.t.d.fact 63 (f := .noat "View" "names") rfl)
  have no_V_sketches := He.noat_ok (S.t.d.fact 64 (f := .noat "View" "sketches") rfl)
  have no_V_puts := He.noat_ok (S.t.d.fact 65 (f := .noat "View" "puts") rfl)
  have no_V_base := He.noat_ok (S.t.d.fact 66 (f := .noat "View" "base") rfl)
  have cls_N := He.cls_ok (S.t.d.fact 67 (f := .cls "Names") rfl)
  have mkr_N := He.mkr_ok (S.t.d.fact 68 (f := .mkr "Names") rfl)
  have no_N_fields := He.noat_ok (S.t.d.fact 69 (f := .noat "Names" "fields") rfl)
  have no_N_many := He.noat_ok (S.t.d.fact 70 (f := .noat "Names" "many") rfl)
  have no_N_numbers := He.noat_ok (S.t.d.fact 71 (f := .noat "Names" "numbers") rfl)
  have no_N_texts := He.noat_ok (S.t.d.fact 72 (f := .noat "Names" "texts") rfl)
  have no_N_gaps := He.noat_ok (S.t.d.fact 73 (f := .noat "Names" "gaps") rfl)
  have me_Vl := He.meth_ok (S.t.d.fact 74 (f := .meth "View" "located") rfl)
  have me_Vn := He.meth_ok (S.t.d.fact 75 (f := .meth "View" "node") rfl)
  have me_Vd := He.meth_ok (S.t.d.fact 76 (f := .meth "View" "demand") rfl)
  have me_Vo := He.meth_ok (S.t.d.fact 77 (f := .meth "View" "is_of") rfl)
  have me_Ve := He.meth_ok (S.t.d.fact 78 (f := .meth "View" "is_equal") rfl)
  have me_Vh := He.meth_ok (S.t.d.fact 79 (f := .meth "View" "has") rfl)
  have me_Vx := He.meth_ok (S.t.d.fact 80 (f := .meth "View" "has_index") rfl)
  have me_Vk := He.meth_ok (S.t.d.fact 81 (f := .meth "View" "has_key") rfl)
  have me_Vg := He.meth_ok (S.t.d.fact 82 (f := .meth "View" "gap_keys") rfl)
  have me_Vs := He.meth_ok (S.t.d.fact 83 (f := .meth "View" "step_behind") rfl)
  have hm := S.more
  obtain ⟨x0, hm⟩ := and2 hm
  obtain ⟨x1, hm⟩ := and2 hm
  obtain ⟨x2, hm⟩ := and2 hm
  obtain ⟨x3, hm⟩ := and2 hm
  obtain ⟨x4, hm⟩ := and2 hm
  obtain ⟨x5, x6⟩ := and2 hm
  obtain ⟨y1, x5⟩ := and2 x5
  obtain ⟨y2, x5⟩ := and2 x5
  obtain ⟨y3, x5⟩ := and2 x5
  obtain ⟨y4, x5⟩ := and2 x5
  obtain ⟨y5, y6⟩ := and2 x5
  have KPK := tpB_ok y1 (by decide)
  have KAB := tpB_ok y2 (by decide)
  have KSO := tpB_ok y3 (by decide)
  have KTE := tpB_ok y4 (by decide)
  have KWA := tpB_ok y5 (by decide)
  have KCH := tpB_ok y6 (by decide)
  obtain ⟨x6a, x6b⟩ := and2 x6
  have FOR := S.t.tab 0 (t := (fun K => He.ga K "FORMS", formsL.map (·.1))) rfl
  have FK : FormsK K w (He.ga K "FORMS") := tab_ok FOR (fun p hp => Nat.le_trans (forms_len p hp) (by decide)) x6b
  have FNo : ∀ x, formOf x = none → PySem.W.nsIn K (He.ga K "FORMS") x = some none := fun x h => keysB_ok x6a (form_not h)
  have CUk := ex_clsU x0
  have CR := ex_clR x0
  have C3 : Cl3 K (CU K) "number" "place" "question" := mk_cl3 x0 FU (fun _ _ _ _ _ _ _ _ _ _ => rfl)
  have SY := sys_ok x1
  obtain ⟨dVi, FVi⟩ := vi_ok S2 x2
  have hp0 := e0_ok x3
  have SD := so_ok x4
  have VC : ViewC K (CV K) := ⟨cls_V, no_V_names, no_V_sketches, no_V_puts, no_V_base⟩
  have NC : NamC K (CN K) := ⟨cls_N, no_N_fields, no_N_many, no_N_numbers, no_N_texts, no_N_gaps⟩
  obtain ⟨dsv, vV, bVi⟩ := FVi.binds1 (ps := NVi) 3 0 (fun z => by cases z) rfl (fun T kV doc pm an cdv ct us its hl hl2 => match us, its, hl, hl2 with
    | [_, _, _], [_, _], _, _ => ⟨_, rfl, rfl⟩)
  have L : BT mg := ⟨z_len, z_isinstance, z_list, z_tuple, z_str, z_int, z_bool, z_range, z_reversed, z_enumerate, z_sorted, z_max, z_zip, z_repr⟩
  have bIi : Binds K dIi ["value"] [] := FIi.bindsN fun _ _ _ _ _ _ us hl => match us, hl with | [_], _ => rfl
  have bSo : Binds K dSo ["datum"] [] := FSo.bindsN fun _ _ _ _ _ _ us hl => match us, hl with | [_], _ => rfl
  have bAl : Binds K dAl ["one", "other"] [] := FAl.bindsN fun _ _ _ _ _ _ us hl => match us, hl with | [_, _], _ => rfl
  have bOk : Binds K dOk ["datum"] [] := FOk.bindsN fun _ _ _ _ _ _ us hl => match us, hl with | [_], _ => rfl
  have bBg : Binds K dBg ["word", "kind"] [] := FBg.bindsN fun _ _ _ _ _ _ us hl => match us, hl with | [_, _], _ => rfl
  have bKp : Binds K dKp ["term"] [] := FKp.bindsN fun _ _ _ _ _ _ us hl => match us, hl with | [_], _ => rfl
  have bDc : Binds K dDc ["term"] [] := FDc.bindsN fun _ _ _ _ _ _ us hl => match us, hl with | [_], _ => rfl
  have bBe : Binds K dBe ["term"] [] := FBe.bindsN fun _ _ _ _ _ _ us hl => match us, hl with | [_], _ => rfl
  have bFo : Binds K dFo ["view", "run"] [] := FFo.bindsN fun _ _ _ _ _ _ us hl => match us, hl with | [_, _], _ => rfl
  have bFu : Binds K dFu ["view", "place", "terms", "step"] [] := FFu.bindsN fun _ _ _ _ _ _ us hl => match us, hl with | [_, _, _, _], _ => rfl
  have bFp : Binds K dFp ["view", "place", "terms", "step"] [] := FFp.bindsN fun _ _ _ _ _ _ us hl => match us, hl with | [_, _, _, _], _ => rfl
  have bTb : Binds K dTb ["view", "term", "place"] [] := FTb.bindsN fun _ _ _ _ _ _ us hl => match us, hl with | [_, _, _], _ => rfl
  have bWk : Binds K dWk ["view", "walk", "place"] [] := FWk.bindsN fun _ _ _ _ _ _ us hl => match us, hl with | [_, _, _], _ => rfl
  have bHi : Binds K dHi ["view", "test", "place"] [] := FHi.bindsN fun _ _ _ _ _ _ us hl => match us, hl with | [_, _, _], _ => rfl
  have bRo : Binds K dRo ["view", "term"] [] := FRo.bindsN fun _ _ _ _ _ _ us hl => match us, hl with | [_, _], _ => rfl
  have bNi : Binds K dNi ["node", "step"] [] := FNi.bindsN fun _ _ _ _ _ _ us hl => match us, hl with | [_, _], _ => rfl
  have bNa : Binds K dNa ["node", "place"] [] := FNa.bindsN fun _ _ _ _ _ _ us hl => match us, hl with | [_, _], _ => rfl
  have bSk : Binds K dSk ["node"] [] := FSk.bindsN fun _ _ _ _ _ _ us hl => match us, hl with | [_], _ => rfl
  have bTo : Binds K dTo ["terms"] [] := FTo.bindsN fun _ _ _ _ _ _ us hl => match us, hl with | [_], _ => rfl
  have bNb : Binds K dNb ["low", "high"] [] := FNb.bindsN fun _ _ _ _ _ _ us hl => match us, hl with | [_, _], _ => rfl
  have bNx : Binds K dNx ["name"] [] := FNx.bindsN fun _ _ _ _ _ _ us hl => match us, hl with | [_], _ => rfl
  have bSk2 : Binds K dSk2 ["f", "g", "sketch"] [] := FSk2.bindsN fun _ _ _ _ _ _ us hl => match us, hl with | [_, _, _], _ => rfl
  have bSn : Binds K dSn ["names", "f", "g", "sketch"] [] := FSn.bindsN fun _ _ _ _ _ _ us hl => match us, hl with | [_, _, _, _], _ => rfl
  have bB : Binds K dB ["_law_script"] [] := FB.bindsN fun _ _ _ _ _ _ us hl => match us, hl with | [_], _ => rfl
  have bD : Binds K dD ["_law_tape", "_law_many"] [] := FD.bindsN fun _ _ _ _ _ _ us hl => match us, hl with | [_, _], _ => rfl
  have bPi : Binds K dPi ["_law_tape", "_law_items"] [] := FPi.bindsN fun _ _ _ _ _ _ us hl => match us, hl with | [_, _], _ => rfl
  have bSh : Binds K dSh ["_law_tape", "_law_items"] [] := FSh.bindsN fun _ _ _ _ _ _ us hl => match us, hl with | [_, _], _ => rfl
  have bEa : Binds K dEa ["_law_f"] [] := FEa.bindsN fun _ _ _ _ _ _ us hl => match us, hl with | [_], _ => rfl
  have bCa : Binds K dCa ["_law_a", "_law_n", "_law_t"] [] := FCa.bindsN fun _ _ _ _ _ _ us hl => match us, hl with | [_, _, _], _ => rfl
  have bLc : Binds K dLc ["_law_a", "_law_n", "_law_t"] [] := FLc.bindsN fun _ _ _ _ _ _ us hl => match us, hl with | [_, _, _], _ => rfl
  have bVl : Binds K dVl ["self", "place"] [] := FVl.bindsN fun _ _ _ _ _ _ us hl => match us, hl with | [_, _], _ => rfl
  have bVn : Binds K dVn ["self", "place"] [] := FVn.bindsN fun _ _ _ _ _ _ us hl => match us, hl with | [_, _], _ => rfl
  have bVd : Binds K dVd ["self", "place", "question"] [] := FVd.bindsN fun _ _ _ _ _ _ us hl => match us, hl with | [_, _, _], _ => rfl
  have bVo : Binds K dVo ["self", "place", "sort"] [] := FVo.bindsN fun _ _ _ _ _ _ us hl => match us, hl with | [_, _, _], _ => rfl
  have bVe : Binds K dVe ["self", "place", "leaf"] [] := FVe.bindsN fun _ _ _ _ _ _ us hl => match us, hl with | [_, _, _], _ => rfl
  have bVh : Binds K dVh ["self", "place", "step"] [] := FVh.bindsN fun _ _ _ _ _ _ us hl => match us, hl with | [_, _, _], _ => rfl
  have bVx : Binds K dVx ["self", "place", "index"] [] := FVx.bindsN fun _ _ _ _ _ _ us hl => match us, hl with | [_, _, _], _ => rfl
  have bVk : Binds K dVk ["self", "place", "key"] [] := FVk.bindsN fun _ _ _ _ _ _ us hl => match us, hl with | [_, _, _], _ => rfl
  have bVg : Binds K dVg ["self", "place", "number"] [] := FVg.bindsN fun _ _ _ _ _ _ us hl => match us, hl with | [_, _, _], _ => rfl
  have bVs : Binds K dVs ["self", "place", "step"] [] := FVs.bindsN fun _ _ _ _ _ _ us hl => match us, hl with | [_, _, _], _ => rfl
  have bNm : Binds K dNm ["self", "terms"] [] := FNm.bindsN fun _ _ _ _ _ _ us hl => match us, hl with | [_, _], _ => rfl
  have e := hfa.symm.trans mL
  cases e
  refine ⟨dL, FL, fun s v => FL.bindsA (ps := ["_law_script"]) (fun _ _ _ _ _ _ us hl => match us, hl with | [_], _ => rfl) s [v] rfl, fun base _ _ => ?_⟩
  have GD : FnOk R.prog w K mg base CX0 1 _ dD ["_law_tape", "_law_many"] spDraw := ok_draw (fun_of FD) z_len z_int
  have GB : FnOk R.prog w K mg base CX0 1 _ dB ["_law_script"] (spBegin K) := ok_begin (fun_of FB)
  have GPi : FnOk R.prog w K mg base CX0 2 _ dPi ["_law_tape", "_law_items"] spPick := ok_pick (fun_of FPi) GD mD FD.kp bD z_len
  have GSh : FnOk R.prog w K mg base CX0 2 _ dSh ["_law_tape", "_law_items"] spShuf := ok_shuf (fun_of FSh) GD mD FD.kp bD z_len z_list
  have GEa : FnOk R.prog w K mg base CX0 1 _ dEa ["_law_f"] (spEa K) := ok_ea (fun_of FEa)
  have GLc : FnOk R.prog w K mg base CX0 2 _ dLc ["_law_a", "_law_n", "_law_t"] (spLc K) := ok_lc (fun_of FLc) ⟨GEa, mEa, FEa.kp, bEa⟩
  have GCa : FnOk R.prog w K mg base CX0 3 _ dCa ["_law_a", "_law_n", "_law_t"] (spCa K) := ok_ca (fun_of FCa) ⟨GEa, mEa, FEa.kp, bEa⟩ ⟨GLc, mLc, FLc.kp, bLc⟩
  have GIi : FnOk R.prog w K mg base CX0 1 _ dIi ["value"] (spInt K) := ok_int (fun_of FIi) z_isinstance z_bool z_int
  have GSo : FnOk R.prog w K mg base CX0 1 _ dSo ["datum"] (spSo K) := ok_so (fun_of FSo) z_isinstance z_bool z_int z_str z_list
  have GAl : FnOk R.prog w K mg base CX0 2 _ dAl ["one", "other"] (spAl K) := ok_al (fSt := 0) (dSt := dSo) (fun_of FAl) GSo mSo FSo.kp bSo z_all
  have GSk : FnOk R.prog w K mg base CX0 2 _ dSk ["node"] (spSk K) := ok_sk (fun_of FSk) GSo mSo FSo.kp bSo
  have GNi : FnOk R.prog w K mg base CX0 2 _ dNi ["node", "step"] (spNi K) := ok_ni (fun_of FNi) GIi mIi FIi.kp bIi g_ABSENT KAB z_len z_isinstance z_str
  have GNa : FnOk R.prog w K mg base CX0 3 _ dNa ["node", "place"] (spNa K) := ok_na (fun_of FNa) GNi mNi FNi.kp bNi z_isinstance z_tuple
  have GBg : FnOk R.prog w K mg base CX0 1 _ dBg ["word", "kind"] spBeg := ok_beg (fun_of FBg) g_FORMS FOR FK FNo g_TESTS KTE g_WALKS KWA g_CHOOSERS KCH
  have GKp : FnOk R.prog w K mg base CX0 1 _ dKp ["term"] (spKP K) := ok_kp (fun_of FKp) g_FORMS FK g_PART_KINDS KPK z_zip
  have GVl : FnOk R.prog w K mg base CX0 1 _ dVl ["self", "place"] (spVl K (CV K) (CN K)) := ok_vl (fun_of FVl) VC z_len z_range z_reversed
  have GVn : FnOk R.prog w K mg base CX0 4 _ dVn ["self", "place"] (spVn K (CV K) (CN K)) := ok_vn (fun_of FVn) VC me_Vl GVl bVl GNa mNa FNa.kp bNa
  have GVd : FnOk R.prog w K mg base (L2.CX R.prog w) 2 _ dVd ["self", "place", "question"] (spVd K (CV K) (CN K) (CU K)) := ok_vd (fun_of FVd) VC me_Vl GVl bVl C3 CR g_Unsettled
  have GVo : FnOk R.prog w K mg base (L2.CX R.prog w) 5 _ dVo ["self", "place", "sort"] (spVo K (CV K) (CN K) (CU K)) := ok_vo (fun_of FVo) VC me_Vn GVn bVn GSk mSk FSk.kp bSk me_Vd GVd bVd z_len
  have GVx : FnOk R.prog w K mg base (L2.CX R.prog w) 5 _ dVx ["self", "place", "index"] (spVx K (CV K) (CN K) (CU K)) := ok_vx (fun_of FVx) VC me_Vn GVn bVn me_Vd GVd bVd z_len
  have GVe : FnOk R.prog w K mg base (L2.CX R.prog w) 6 _ dVe ["self", "place", "leaf"] (spVe K (CV K) (CN K) (CU K)) := ok_ve (fun_of FVe) VC me_Vo GVo bVo GSo mSo FSo.kp bSo GAl mAl FAl.kp bAl me_Vn GVn bVn me_Vd GVd bVd
  have GVk : FnOk R.prog w K mg base (L2.CX R.prog w) 5 _ dVk ["self", "place", "key"] (spVk K (CV K) (CN K) (CU K)) := ok_vk (fun_of FVk) VC NC GNi mNi FNi.kp bNi me_Vn GVn bVn me_Vd GVd bVd
  have GVg : FnOk R.prog w K mg base (L2.CX R.prog w) 5 _ dVg ["self", "place", "number"] (spVg K (CV K) (CN K) (CU K)) := ok_vg (fun_of FVg) VC me_Vn GVn bVn me_Vd GVd bVd
  have GVh : FnOk R.prog w K mg base (L2.CX R.prog w) 6 _ dVh ["self", "place", "step"] (spVh K (CV K) (CN K) (CU K)) := ok_vh (fun_of FVh) VC GIi mIi FIi.kp bIi me_Vo GVo bVo me_Vx GVx bVx me_Vk GVk bVk
  have GVs : FnOk R.prog w K mg base (L2.CX R.prog w) 6 _ dVs ["self", "place", "step"] (spVs K (CV K) (CN K) (CU K)) := ok_vs (fun_of FVs) VC NC me_Vo GVo bVo me_Vx GVx bVx me_Vk GVk bVk me_Vg GVg bVg z_len z_range
  have VM : VwM R.prog w K mg base (CV K) (CN K) (CU K) _ _ _ _ dVo dVe dVh dVs := ⟨VC, ⟨cls_V, me_Vo, GVo, bVo⟩, ⟨cls_V, me_Ve, GVe, bVe⟩, ⟨cls_V, me_Vh, GVh, bVh⟩, ⟨cls_V, me_Vs, GVs, bVs⟩⟩
  have GS : GSt mg _ _ _ := ⟨m_GIVES, r_GIVES, m_NONE, r_NONE, m_FAILS, r_FAILS⟩
  obtain ⟨DW, DH, DT⟩ := ok_whole VM GS (fun_of FWk) (fun_of FHi) (fun_of FTb) ⟨mWk, FWk.kp, bWk⟩ ⟨mHi, FHi.kp, bHi⟩ ⟨mTb, FTb.kp, bTb⟩ fuelW
  have GFp : FnOk R.prog w K mg base (L2.CX R.prog w) 7 _ dFp ["view", "place", "terms", "step"] (spFp K (CV K) (CN K) (CU K)) := ok_fp VM (fun_of FFp)
  have GFu : FnOk R.prog w K mg base (L2.CX R.prog w) 14 _ dFu ["view", "place", "terms", "step"] (spFu K (CV K) (CN K) (CU K)) := ok_fu GS (fun_of FFu) ⟨GFp, mFp, FFp.kp, bFp⟩ DW DT
  have GFo : FnOk R.prog w K mg base (L2.CX R.prog w) 15 _ dFo ["view", "run"] (spFo K (CV K) (CN K) (CU K)) := ok_fo (fun_of FFo) ⟨GFu, mFu, FFu.kp, bFu⟩
  have GBe : FnOk R.prog w K mg base CX0 1 _ dBe ["term"] (spBe K) := ok_be (fun_of FBe)
  have GRo : FnOk R.prog w K mg base (L2.CX R.prog w) 16 _ dRo ["view", "term"] (spRo K (CV K) (CN K) (CU K)) := ok_ro (fun_of FRo) ⟨GBe, mBe, FBe.kp, bBe⟩ ⟨GFo, mFo, FFo.kp, bFo⟩
  have GDc : FnOk R.prog w K mg base CX0 2 _ dDc ["term"] (spDc K) := ok_dc (fun_of FDc) ⟨GBg, mBg, FBg.kp, bBg⟩ ⟨GKp, mKp, FKp.kp, bKp⟩ z_list z_enumerate z_reversed
  have GTo : FnOk R.prog w K mg base CX0 2 _ dTo ["terms"] (spTo K) := ok_to (fun_of FTo) L ⟨GIi, mIi, FIi.kp, bIi⟩ ⟨GKp, mKp, FKp.kp, bKp⟩
  have GNx : FnOk R.prog w K mg base CX0 1 _ dNx ["name"] spNx := ok_nx (fun_of FNx) L m_MOST_LETTERS r_MOST_LETTERS
  have GNb : FnOk R.prog w K mg base CX0 2 _ dNb ["low", "high"] (spNb K) := ok_nb (fun_of FNb) L m_MOST_IN_GAP r_MOST_IN_GAP ⟨GNx, mNx, FNx.kp, bNx⟩
  have GOk : FnOk R.prog w K mg base CX0 2 _ dOk ["datum"] spOk := ok_ok (fun_of FOk) L g_SORTS KSO SD ⟨GSo, mSo, FSo.kp, bSo⟩
  have GNm : FnOk R.prog w K mg base CX0 5 _ dNm ["self", "terms"] (spNm K (CN K)) := ok_nm (fun_of FNm) NC L ⟨GTo, mTo, FTo.kp, bTo⟩ ⟨GNb, mNb, FNb.kp, bNb⟩ ⟨GOk, mOk, FOk.kp, bOk⟩
  have GVi : FnOk R.prog w K mg base CX0 1 (FV K) dVi NVi (spVi K (CV K) (CN K)) := ok_vi FVi VC
  have GSn : FnOk R.prog w K mg base CX0 17 _ dSn ["names", "f", "g", "sketch"] (spSn K (CN K)) := ok_sn (fun_of FSn) CUk g_Unsettled ⟨GRo, mRo, FRo.kp, bRo⟩ mkr_V GVi g_View vV bVi hp0
  have GSk2 : FnOk R.prog w K mg base CX0 18 _ dSk2 ["f", "g", "sketch"] (spSd K) := ok_sd (fun_of FSk2) ⟨GDc, mDc, FDc.kp, bDc⟩ ⟨GSn, mSn, FSn.kp, bSn⟩ ⟨mkr_N, GNm, g_Names, bNm⟩
  exact body_law L SY ⟨GB, mB, FB.kp, bB⟩ ⟨GPi, mPi, FPi.kp, bPi⟩ ⟨GSh, mSh, FSh.kp, bSh⟩ ⟨GCa, mCa, FCa.kp, bCa⟩ ⟨GSk2, mSk2, FSk2.kp, bSk2⟩
end Toy


open PySem PySem.W PySem.Calls PyProof.Rows
set_option maxRecDepth 100000 in
set_option maxHeartbeats 0 in
theorem PySem.Challenge.cw_sieveways_k20_questions_in_order_holds : PySem.Challenge.rw_sieveways_k20_questions_in_order.Holds := by
  w_on; o_law
  refine HandSHeadRun.head_any (r := OpenLaw.row PySem.Challenge.rw_sieveways_k20_questions_in_order) (q := view (OpenLaw.row PySem.Challenge.rw_sieveways_k20_questions_in_order).prog [63]) (H := Toy.hk) (ob := Toy.ob) (M := 9000) (loose := Toy.looseN) (d := HandSHeadRun.topDef (OpenLaw.row PySem.Challenge.rw_sieveways_k20_questions_in_order).prog 63) (kwd := []) Toy.ob_eq
    (by kernel_rfl) (fun s => by kernel_rfl) Toy.run (by kernel_rfl) (by kernel_rfl) (by kernel_rfl) (by rfl) (by first | assumption | decide +kernel) (by decide +kernel) ⟨rfl, rfl, rfl, rfl, rfl, by decide +kernel⟩ ?hw ?hc
  case hw => w_witness2
  case hc =>
    refine L2.walkG (l := PySem.Challenge.rw_sieveways_k20_questions_in_order) (n := 63) (k := 127) (x := "_law_script") rfl (by decide) (by kernel_rfl) ⟨rfl, by decide, by decide⟩ ?F
    intro w mg fa h Y G hmg0
    obtain ⟨K, KX, c, c2⟩ := Y
    have hmg : mg ("law" : PySem.Str) = some (.ref fa) := by
      have e : (HandSHeadRun.topDef (OpenLaw.row PySem.Challenge.rw_sieveways_k20_questions_in_order).prog 63).name = ("law" : PySem.Str) := by kernel_rfl
      rw [← e]
      exact hmg0
    obtain ⟨fd, FD, hb, hF⟩ := Toy.facts (w := w) KX G hmg c c2
    exact ⟨K, fd, _, _, _, _, _, Toy.NLw, Toy.spLaw K, KX, FD, Toy.scLw, hb, fun H a ns hl hS => ⟨a, ns, rfl, hS, hl, fun _ => rfl⟩, hF⟩

