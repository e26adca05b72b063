import PyProof.Rows.All
import Wide.All
import OpenK.AllK
import Wide.FinOn
import HandS.ForMost
import HandS.Flow
import HandS.Wide
import HandS.Small
import HandS.ExcValue
import HandS.Defaults
import HandS.IsInst
import HandS.More
import HandS.Strs
import HandS.Style
import HandS.Conv
import HandS.HeadEnd
import KE.KStateDown
import HandS.Zip
import HandS.Deep
import HandS.ListItems
import HandS.SortKw
import PyProof.EqKinds
import PyProof.FactsAll.dict_1
import PyProof.FactsAll.tuple_2
import PyProof.FactsAll.subtypes
import HandS.TupAny
import HandS.TupMul
import KE.KRevSl
import HandS.Walk
import HandS.Steps
import HandS.OwnIter
import HandS.IterNext
import HandS.IterVal
import HandS.OwnEq
import KE.KDictZip
import KE.KExcInit
import HandS.Exc
import HandS.ExcInit
import HandS.ExcIs
import HandS.MakeKw
import KE.KExcIs
import HandS.MakeKwOnly
import PyProof.ReprRoads
import HandS.Dict
import HandS.Property
import HandS.WordsExc
import HandS.ExcField
import HandS.Text
import HandS.Head0
import HandS.Head1
import HandS.Head2
import HandS.HeadHook1
import HandS.HeadHook2
import HandS.HeadHook3
import HandS.HeadHook4
import PySem.Challenge.RW_sieveways_k66_codes_by_form
set_option Elab.async false
set_option linter.all false
set_option maxRecDepth 100000
set_option maxHeartbeats 0
namespace Toy
open PySem L2
def top (i : Nat) : Stmt := PySem.Challenge.pw_sieveways_k66_codes_by_form.main.body.getD i (.Pass ⟨0, 0, 0, 0⟩)
abbrev sBegin : Stmt := top 49
abbrev sDraw : Stmt := top 50
/-! ### the tape: more may stand behind its three first keys -/
structure Tl where
  a : Addr
  m : List (Key × V)
def kC : Key := Sum.inr ("cells" : Str)
def kA : Key := Sum.inr ("place" : Str)
def kL : Key := Sum.inr ("left" : Str)
def tp (l : Tl) (a f : Int) : List (Key × V) := (kC, .ref l.a) :: ((kA, .int a) :: ((kL, .int f) :: l.m))
def Tail (m : List (Key × V)) : Prop := (∀ p ∈ m, p.1 ≠ kA ∧ p.1 ≠ kL) ∧ m.length ≤ 10
theorem k_ca : ¬ (kC = kA) := by decide +kernel
theorem k_cl : ¬ (kC = kL) := by decide +kernel
theorem k_al : ¬ (kA = kL) := by decide +kernel
theorem k_la : ¬ (kL = kA) := by decide +kernel
theorem tp_cells (l : Tl) (a f : Int) : valV (tp l a f) kC = some (.ref l.a) := by
  unfold tp
  rw [valV_pos rfl]
theorem tp_at (l : Tl) (a f : Int) : valV (tp l a f) kA = some (.int a) := by
  unfold tp
  rw [valV_neg k_ca, valV_pos rfl]
theorem tp_left (l : Tl) (a f : Int) : valV (tp l a f) kL = some (.int f) := by
  unfold tp
  rw [valV_neg k_cl, valV_neg k_al, valV_pos rfl]
theorem tail_map {m : List (Key × V)} {k : Key} {v : V} (h : ∀ p ∈ m, p.1 ≠ k) : m.map (fun p => if p.1 = k then (p.1, v) else p) = m := by
  induction m with
  | nil => rfl
  | cons p m ih =>
    rw [List.map_cons, if_neg (h p List.mem_cons_self), ih fun q hq => h q (List.mem_cons_of_mem _ hq)]
theorem put_at {l : Tl} (a f b : Int) (h : Tail l.m) : putK (tp l a f) kA (.int b) = tp l b f := by
  unfold tp putK
  rw [if_pos (by simp)]
  simp only [List.map_cons]
  rw [if_neg k_ca, if_pos trivial, if_neg k_la, tail_map fun p hp => (h.1 p hp).1]
theorem put_left {l : Tl} (a f b : Int) (h : Tail l.m) : putK (tp l a f) kL (.int b) = tp l a b := by
  unfold tp putK
  rw [if_pos (by simp)]
  simp only [List.map_cons]
  rw [if_neg k_cl, if_neg k_al, if_pos trivial, tail_map fun p hp => (h.1 p hp).2]
section
variable {H : Hp} {d : Addr} {l : Tl} {a f : Int} (h : H d = some (.dK (tp l a f)))
include h
theorem get_cells : DGet H d (.str ("cells" : Str)) (some (.ref l.a)) := by
  have z := DGet.k (k := kC) h
  rw [tp_cells] at z
  exact z
theorem get_at : DGet H d (.str ("place" : Str)) (some (.int a)) := by
  have z := DGet.k (k := kA) h
  rw [tp_at] at z
  exact z
theorem get_left : DGet H d (.str ("left" : Str)) (some (.int f)) := by
  have z := DGet.k (k := kL) h
  rw [tp_left] at z
  exact z
variable (ht : Tail l.m)
include ht
theorem tp_len : (tp l a f).length < sizeLine := by
  have := ht.2
  show l.m.length + 1 + 1 + 1 < _
  have e : sizeLine = 16777216 := by decide
  omega
theorem set_at (b : Int) : DPut H d (.str ("place" : Str)) (.int b) (upd H d (.dK (tp l b f))) := by
  have z := DPut.k (k := kA) (v := .int b) h (tp_len h ht)
  rw [put_at _ _ _ ht] at z
  exact z
theorem set_left (b : Int) : DPut H d (.str ("left" : Str)) (.int b) (upd H d (.dK (tp l a b))) := by
  have z := DPut.k (k := kL) (v := .int b) h (tp_len h ht)
  rw [put_left _ _ _ ht] at z
  exact z
end
/-- at d a tape, of which at most n draws were made -/
def Tape (H : Hp) (d : Addr) (l : Tl) (n : Nat) : Prop := ∃ (ns : List Int) (a f : Int), H d = some (.dK (tp l a f)) ∧ H l.a = some (.lst (ns.map V.int)) ∧ ns ≠ [] ∧ ns.length ≤ 1000 ∧ 0 ≤ a ∧ a ≤ n ∧ Tail l.m
/-- all that stood stands, but at d -/
def But (d : Addr) (H H' : Hp) : Prop := ∀ b o, b ≠ d → H b = some o → H' b = some o
theorem But.refl {d : Addr} {H : Hp} : But d H H := fun _ _ _ e => e
theorem But.trans {d : Addr} {H H1 H2 : Hp} (a : But d H H1) (b : But d H1 H2) : But d H H2 := fun x o n e => b x o n (a x o n e)
theorem But.upd {d : Addr} {H H1 : Hp} {u : HO} (a : But d H H1) : But d H (upd H1 d u) := fun x o n e => by
  rw [upd_ne n]
  exact a x o n e
theorem But.new {d p : Addr} {H H1 : Hp} {u : HO} (a : But d H H1) (hp : H1 p = none) : But d H (L2.upd H1 p u) := fun x o n e => by
  rw [upd_ne (ne_of_none (a x o n e) hp)]
  exact a x o n e
def spDraw : Sp := fun vs H Q _ => ∃ (d : Addr) (l : Tl) (n : Nat) (m : Int), vs = [.ref d, .int m] ∧ Tape H d l n ∧ n ≤ 1000000 ∧ 0 < m ∧ m < 1000000 ∧
  ∀ H' r, But d H H' → Tape H' d l (n + 1) → 0 ≤ r → r < m → Q (.int r) H'
section
variable {P : Program} {w : World} {K : PySem.W.Frag} {mg : Str → Option Value} {base : Heap}
theorem scD : FnScope ["_law_tape", "_law_many", "_law_place", "_law_size", "_law_cell", "_law_found"] ["_law_tape", "_law_many"] (defScope sDraw) := ⟨rfl, rfl, rfl, by decide +kernel, rfl, by decide +kernel, by decide +kernel⟩
theorem ok_draw {f : Addr} {fd : FuncData} (F : Fun K "_law_draw" "_law_draw" sDraw f fd) (mLen : mg "len" = none) (mInt : mg "int" = none) : FnOk P w K mg base CX0 1 f fd ["_law_tape", "_law_many"] spDraw := by
  refine F.ok scD (fun vs H Q E h => ?_) (fun cdv A outer s H vs Q E hr h => ?_)
  · obtain ⟨d, l, n, m, rfl, _⟩ := h
    rfl
  · obtain ⟨d, l, n, m, rfl, ⟨ns, a, f, hd, hl, hne, hlen, a0, an, ht⟩, hn, m0, m1, q⟩ := h
    have hu := hu_of hr
    refine ⟨_, pss_cons (ps_if (pt_cmpR op_lt (pe_dget hu (pv 0) pe_str (fun _ _ => rfl)) (pv 1) (nomark _))
      (pss_cons (ps_par (i := 2) (j := 3) rfl scD.nd rfl rfl (by decide) rfl rfl (pa_cons (pe_dget hu (pv 0) pe_str (fun _ _ => rfl)) (pa_cons (pe_callB call_len_seq (by rfl) mLen PySem.boot_len (pa_cons (pe_dget hu (pv 0) pe_str (fun _ _ => rfl)) pa_nil)) pa_nil)) (by rfl))
      (pss_cons (ps_asg (pe_tup (pa_cons (pe_ix ix_list (pe_dget hu (pv 0) pe_str (fun _ _ => rfl)) (pe_op op_mod (pe_callTy call_int1 (by rfl) mInt (by decide +kernel) (pa_cons (pv 2) pa_nil)) (pv 3)) (fun _ _ => rfl)) (pa_cons (pe_op op_add (pv 2) pe_int) pa_nil)))
          (pg_tup rfl (pgs_cons (pg_name (i := 4) scD.nd rfl (.inl rfl)) (pgs_cons (pg_sub (pv 0) pe_str (set_dict hu)) pgs_nil))))
      (pss_cons (ps_dput hu (pv 0) pe_str (pe_op op_mod (pe_callTy call_int1 (by rfl) mInt (by decide +kernel) (pa_cons (pe_op op_pow (pe_op op_add (pe_op op_add (pe_op op_mod (pe_callTy call_int1 (by rfl) mInt (by decide +kernel) (pa_cons (pv 4) pa_nil)) pe_int) (pe_op op_mul pe_int (pv 2))) pe_int) pe_int) pa_nil)) (pe_op op_add (pe_op op_pow pe_int pe_int) pe_int)) rfl)
      (pss_one (ps_if (PW.pt (pw_and (pt_cmpR op_ge (pv 4) (pe_op op_pow pe_int pe_int) (nomark _)) (pw_and1 (pt_cmpR op_lt (pv 2) (pv 3) (nomark _)))))
        (pss_one (ps_dput hu (pv 0) pe_str (pe_op op_sub (pv 4) (pe_op op_pow pe_int pe_int)) rfl)) pss_nil)))))
      pss_nil)
      (pss_cons (ps_asg (pe_tup (pa_cons (pe_op op_mod (pe_callTy call_int1 (by rfl) mInt (by decide +kernel) (pa_cons (pe_dget hu (pv 0) pe_str (fun _ _ => rfl)) pa_nil)) (pv 1)) (pa_cons (pe_op op_fdivW (pe_dget hu (pv 0) pe_str (fun _ _ => rfl)) (pv 1)) pa_nil)))
          (pg_tup rfl (pgs_cons (pg_name (i := 5) scD.nd rfl (.inl rfl)) (pgs_cons (pg_sub (pv 0) pe_str (set_dict hu)) pgs_nil))))
      (pss_one (ps_ret (pv 5)))), ?_⟩
    refine ⟨_, rfl, d, _, rfl, get_left hd, _, rfl, _, _, rfl, rfl, _, rfl, ?_⟩
    refine ite2 (fun c => ?_) (fun c => ?_)
    · have e0 : ((ns.map V.int).length : Int) = (ns.length : Int) := by rw [List.length_map]
      have lp : 0 < ns.length := List.length_pos_iff.mpr hne
      obtain ⟨j, hj, ej⟩ : ∃ j : Nat, j < ns.length ∧ a % ((ns.map V.int).length : Int) = (j : Int) := by
        rw [e0]
        have h1 : 0 ≤ a % (ns.length : Int) := Int.emod_nonneg a (by omega)
        have h2 : a % (ns.length : Int) < (ns.length : Int) := Int.emod_lt_of_pos a (by omega)
        exact ⟨(a % (ns.length : Int)).toNat, by omega, by omega⟩
      have hat : atI (ns.map V.int) (j : Int) = some (.int ns[j]) := atI_nat (by rw [List.getElem?_map, List.getElem?_eq_getElem hj]; rfl)
      refine ⟨_, rfl, d, _, rfl, get_at hd, _, rfl, d, _, rfl, get_cells hd, l.a, _, rfl, .inl (SqL.of hl), _, _, rfl, ?_⟩
      refine ⟨_, rfl, d, _, rfl, get_cells hd, _, rfl, .inl ⟨_, rfl, _, rfl, _, _, rfl, rfl, (by show 0 < ((ns.map V.int).length : Int); omega), ?_⟩⟩
      refine ⟨l.a, _, _, .int ns[j], rfl, rfl, SqL.of hl, (by rw [ej]; exact hat), _, rfl, _, _, rfl, rfl, (by show 2 ≤ sizeLine; decide), fun t nt => ?_⟩
      have ndt : d ≠ t := ne_of_none hd nt
      have nlt : l.a ≠ t := ne_of_none hl nt
      have nld : l.a ≠ d := ne_of hl hd (by intro z; cases z)
      refine ⟨t, _, rfl, SqT.of upd_same, rfl, _, _, rfl, _, _, rfl, _, rfl, d, _, rfl, set_at (by rw [upd_ne ndt]; exact hd) ht _, rfl, ?_⟩
      generalize hcell : ns[j] = cell
      have h63 : 0 ≤ cell % 2147483587 := Int.emod_nonneg _ (by decide)
      have h64 : cell % 2147483587 < 2147483587 := Int.emod_lt_of_pos _ (by decide)
      refine ⟨_, rfl, .inl ⟨_, rfl, _, _, rfl, rfl, (by show (0 : Int) < 2147483587; decide), _, rfl, _, _, rfl, rfl, (.inl ⟨by decide, by decide⟩), _, _, rfl, rfl, _, _, rfl, rfl, _, _, rfl, rfl, ⟨by decide, by decide, by omega⟩, .inl ⟨_, rfl, _, _, rfl, rfl, ⟨by decide, by decide, by decide⟩, _, _, rfl, rfl, _, _, rfl, rfl, (by show (0 : Int) < 10 ^ 51 + 121; decide), ?_⟩⟩⟩
      refine ⟨_, rfl, d, _, rfl, set_left upd_same ht _, ?_⟩
      refine ⟨_, rfl, _, _, rfl, rfl, ⟨by decide, by decide, by decide⟩, _, _, rfl, rfl, _, rfl, ?_⟩
      refine ite2 (fun c1 => ?_) (fun c1 => ?_)
      · refine ⟨_, rfl, _, rfl, _, _, rfl, rfl, _, rfl, ?_⟩
        refine ite2 (fun c2 => ?_) (fun c2 => ?_)
        · refine ⟨_, rfl, _, _, rfl, rfl, ⟨by decide, by decide, by decide⟩, _, _, rfl, rfl, _, rfl, d, _, rfl, set_left upd_same ht _, ?_⟩
          refine ⟨_, rfl, d, _, rfl, get_left upd_same, .inl ⟨_, rfl, _, rfl, _, _, rfl, rfl, m0, _, rfl, d, _, rfl, get_left upd_same, _, rfl, _, _, rfl, rfl, wide_div (b := 64) m0 (by omega) (by decide) (by decide), (by show 2 ≤ sizeLine; decide), fun t2 nt2 => ?_⟩⟩
          have ndt2 : d ≠ t2 := ne_of_none upd_same nt2
          refine ⟨t2, _, rfl, SqT.of upd_same, rfl, _, _, rfl, _, _, rfl, _, rfl, d, _, rfl, set_left (by rw [upd_ne ndt2]; exact upd_same) ht _, rfl, _, rfl, q _ _ ((((But.refl : But d H H).new nt).upd.upd.upd).new nt2).upd ?_ (Int.emod_nonneg _ (by omega)) (Int.emod_lt_of_pos _ m0)⟩
          have nlt2 : l.a ≠ t2 := ne_of_none (by rw [upd_ne nld, upd_ne nld, upd_ne nld, upd_ne nlt]; exact hl) nt2
          exact ⟨ns, a + 1, _, upd_same, by rw [upd_ne nld, upd_ne nlt2, upd_ne nld, upd_ne nld, upd_ne nld, upd_ne nlt]; exact hl, hne, hlen, by omega, by push_cast; omega, ht⟩
        · refine ⟨_, rfl, d, _, rfl, get_left upd_same, .inl ⟨_, rfl, _, rfl, _, _, rfl, rfl, m0, _, rfl, d, _, rfl, get_left upd_same, _, rfl, _, _, rfl, rfl, wide_div (b := 64) m0 (by omega) (by decide) (by decide), (by show 2 ≤ sizeLine; decide), fun t2 nt2 => ?_⟩⟩
          have ndt2 : d ≠ t2 := ne_of_none upd_same nt2
          refine ⟨t2, _, rfl, SqT.of upd_same, rfl, _, _, rfl, _, _, rfl, _, rfl, d, _, rfl, set_left (by rw [upd_ne ndt2]; exact upd_same) ht _, rfl, _, rfl, q _ _ ((((But.refl : But d H H).new nt).upd.upd).new nt2).upd ?_ (Int.emod_nonneg _ (by omega)) (Int.emod_lt_of_pos _ m0)⟩
          have nlt2 : l.a ≠ t2 := ne_of_none (by rw [upd_ne nld, upd_ne nld, upd_ne nlt]; exact hl) nt2
          exact ⟨ns, a + 1, _, upd_same, by rw [upd_ne nld, upd_ne nlt2, upd_ne nld, upd_ne nld, upd_ne nlt]; exact hl, hne, hlen, by omega, by push_cast; omega, ht⟩
      · refine iteF ?_
        refine ⟨_, rfl, d, _, rfl, get_left upd_same, .inl ⟨_, rfl, _, rfl, _, _, rfl, rfl, m0, _, rfl, d, _, rfl, get_left upd_same, _, rfl, _, _, rfl, rfl, wide_div (b := 64) m0 (by omega) (by decide) (by decide), (by show 2 ≤ sizeLine; decide), fun t2 nt2 => ?_⟩⟩
        have ndt2 : d ≠ t2 := ne_of_none upd_same nt2
        refine ⟨t2, _, rfl, SqT.of upd_same, rfl, _, _, rfl, _, _, rfl, _, rfl, d, _, rfl, set_left (by rw [upd_ne ndt2]; exact upd_same) ht _, rfl, _, rfl, q _ _ ((((But.refl : But d H H).new nt).upd.upd).new nt2).upd ?_ (Int.emod_nonneg _ (by omega)) (Int.emod_lt_of_pos _ m0)⟩
        have nlt2 : l.a ≠ t2 := ne_of_none (by rw [upd_ne nld, upd_ne nld, upd_ne nlt]; exact hl) nt2
        exact ⟨ns, a + 1, _, upd_same, by rw [upd_ne nld, upd_ne nlt2, upd_ne nld, upd_ne nld, upd_ne nlt]; exact hl, hne, hlen, by omega, by push_cast; omega, ht⟩
    · refine ⟨_, rfl, d, _, rfl, get_left hd, .inl ⟨_, rfl, _, rfl, _, _, rfl, rfl, m0, _, rfl, d, _, rfl, get_left hd, _, rfl, _, _, rfl, rfl, wide_div (b := 64) m0 (by omega) (by decide) (by decide), (by show 2 ≤ sizeLine; decide), fun t nt => ?_⟩⟩
      have ndt : d ≠ t := ne_of_none hd nt
      refine ⟨t, _, rfl, SqT.of upd_same, rfl, _, _, rfl, _, _, rfl, _, rfl, d, _, rfl, set_left (by rw [upd_ne ndt]; exact hd) ht _, rfl, _, rfl, q _ _ (((But.refl : But d H H)).new nt).upd ?_ (Int.emod_nonneg _ (by omega)) (Int.emod_lt_of_pos _ m0)⟩
      exact ⟨ns, a, _, upd_same, by rw [upd_ne (ne_of hl hd (by intro z; cases z)), upd_ne (ne_of_none hl nt)]; exact hl, hne, hlen, by omega, by push_cast; omega, ht⟩
end
end Toy


namespace Toy
open PySem L2
section
variable {P : Program} {w : World} {K : PySem.W.Frag} {mg : Str → Option Value} {base : Heap}
theorem cut63 (ns : List Int) (h : ns.length ≤ 63) : cutV (ns.map V.int) none (some 63) = ns.map V.int := by
  unfold cutV
  rw [show HT.sIx (ns.map V.int).length (ns.map V.int).length (some 63) = min 63 (ns.map V.int).length from HT.sIx_nat _ _ 63, HT.sIx_none, List.length_map, show min 63 ns.length = ns.length by omega, List.drop_zero, Nat.sub_zero]
  exact List.take_of_length_le (by rw [List.length_map]; exact Nat.le_refl _)
def kR : Key := Sum.inr ("room" : Str)
abbrev tl0 (l : Addr) : Tl := ⟨l, [(kR, .int 0)]⟩
theorem k_cr : ¬ (kC = kR) := by decide +kernel
theorem k_ar : ¬ (kA = kR) := by decide +kernel
theorem k_lr : ¬ (kL = kR) := by decide +kernel
theorem tail0 (l : Addr) : Tail (tl0 l).m := ⟨fun p hp => by rw [List.mem_singleton.mp hp]; exact ⟨fun e => k_ar e.symm, fun e => k_lr e.symm⟩, by show 1 ≤ 10; decide⟩
theorem merge_tp (l : Addr) : mergeK [] [(kC, V.ref l), (kA, V.int 0), (kL, V.int 0), (kR, V.int 0)] = tp (tl0 l) 0 0 := by
  unfold mergeK
  simp only [List.foldl_cons, List.foldl_nil]
  unfold putK
  simp [k_ca, k_cl, k_al, k_cr, k_ar, k_lr]
  rfl
def spBegin (K : PySem.W.Frag) : Sp := fun vs H Q _ => ∃ (a : Addr) (ns : List Int), vs = [.ref a] ∧ SqL K H a (ns.map V.int) ∧ ns.length ≤ 63 ∧ ∀ H' d (l : Addr), Same H H' → H d = none → H l = none → l ≠ d → Tape H' d (tl0 l) 0 → Q (.ref d) H'
theorem scB : FnScope ["_law_script"] ["_law_script"] (defScope sBegin) := ⟨rfl, rfl, rfl, by decide +kernel, rfl, by decide +kernel, by decide +kernel⟩
theorem same_new {H H1 : Hp} {p : Addr} {u : HO} (a : Same H H1) (hp : H1 p = none) : Same H (upd H1 p u) := fun x o e => by
  rw [upd_ne (ne_of_none (a x o e) hp)]
  exact a x o e
theorem ok_begin {f : Addr} {fd : FuncData} (F : Fun K "_law_begin" "_law_begin" sBegin f fd) : FnOk P w K mg base CX0 1 f fd ["_law_script"] (spBegin K) := by
  refine F.ok scB (fun vs H Q E h => ?_) (fun cdv A outer s H vs Q E hr h => ?_)
  · obtain ⟨a, ns, rfl, _⟩ := h
    rfl
  · obtain ⟨a, ns, rfl, hS, hlen, q⟩ := h
    refine ⟨_, pss_one (ps_ret (pe_disp (pps_cons pe_str (pe_orT (pe_slice sl_list (pv 0) po_none (po_some pe_int)) (pe_one (pe_lst (pa_cons pe_int pa_nil)))) (pps_cons pe_str pe_int (pps_cons pe_str pe_int (pps_cons pe_str pe_int pps_nil)))) (by rfl) (by rfl) (fun z => by cases z) (by decide))), ?_⟩
    intro p np
    have s1 : Same H (upd H p (.dK [])) := same_new (fun _ _ e => e) np
    refine ⟨_, rfl, 63, rfl, a, _, rfl, s1.seq hS, fun c nc => ?_⟩
    have npc : p ≠ c := ne_of_none upd_same nc
    refine ⟨_, .inl ⟨_, SqL.of upd_same, rfl⟩, ?_⟩
    have fin : ∀ (H2 : Hp) (l : Addr) (ms : List Int), H l = none → Same (upd H p (.dK [])) H2 → H2 l = some (.lst (ms.map V.int)) → ms ≠ [] → ms.length ≤ 1000 → Q (.ref p) (upd H2 p (.dK (mergeK [] [(kC, V.ref l), (kA, V.int 0), (kL, V.int 0), (kR, V.int 0)]))) := by
      intro H2 l ms nl s2 hl h1 h2
      have npl : l ≠ p := ne_of hl (s2 _ _ upd_same) (by intro z; cases z)
      rw [merge_tp]
      refine q _ p l (fun b o e => ?_) np nl npl ⟨ms, 0, 0, upd_same, by rw [upd_ne npl]; exact hl, h1, h2, Int.le_refl _, Int.le_refl _, tail0 l⟩
      rw [upd_ne (ne_of_none e np)]
      exact s2 _ _ (s1 _ _ e)
    refine ite2 (fun c1 => ?_) (fun c1 => ?_)
    · refine ⟨Eq.trans (upd_ne npc) upd_same, [(kC, V.ref c), (kA, V.int 0), (kL, V.int 0), (kR, V.int 0)], rfl, (by show 4 ≤ 15; decide), fin _ c ns (by rw [upd_ne npc.symm] at nc; exact nc) (same_new (fun _ _ e => e) nc) (by rw [upd_same, cut63 ns hlen]) ?_ (by omega)⟩
      intro z
      rw [z] at c1
      exact Bool.false_ne_true c1
    · refine ⟨(by show 1 ≤ sizeLine; decide), fun e ne => ?_⟩
      have npe : p ≠ e := ne_of_none (Eq.trans (upd_ne npc) upd_same) ne
      refine ⟨Eq.trans (upd_ne npe) (Eq.trans (upd_ne npc) upd_same), [(kC, V.ref e), (kA, V.int 0), (kL, V.int 0), (kR, V.int 0)], rfl, (by show 4 ≤ 15; decide), fin _ e [0] (by rw [upd_ne (ne_of_none upd_same ne).symm, upd_ne npe.symm] at ne; exact ne) (same_new (same_new (fun _ _ e => e) nc) ne) upd_same (by decide) (by decide)⟩
end
end Toy


namespace L2
open PySem PySem.Spec PyProof.Rows
/-! The law's own def, run by its caller alone (so that what runs around it is known: repr asks that). -/
/-- the body of the law, in the caller's surroundings -/
def BodyOk (P : Program) (w : World) (K : PySem.W.Frag) (mg : Str → Option Value) (base : Heap) (k : Nat) (N : List Str) (qual : Str) (sc : Scope) (body : List Stmt) (f : Addr) (sp : Sp) : Prop :=
  ∀ (cdv : Value) (s : Shared) (H : Hp) (vs : List V) (Q : VK) (E : XK), Room k (callerA.deeper (envOfC qual sc s.heap.objs.size f cdv)) → sp vs H Q E →
    ∃ t, PSs (cxOf CX0 P w K mg base N qual sc f cdv callerA [] s H E) body t ∧ t { nx := fun _ H' => Q .non H', rt := Q } (start N vs) H
section
variable {P : Program} {w : World} {K : PySem.W.Frag} {mg : Str → Option Value} {base : Heap} {k : Nat} {f : Addr} {x qual : Str} {params : Arguments} {body : List Stmt} {sc : Scope} {N ps : List Str} {sp : Sp} {fd : FuncData}
theorem body_run (F : FunD K x qual params body sc [] [] f fd) (S : FnScope N ps sc) (B : BodyOk P w K mg base k N qual sc body f sp) {s : Shared} {H : Hp} {args : Args} {us : List Value} {vs : List V} {Q : VK} {E : XK} (hr : Room (k + 1) callerA)
    (e0 : Env0 P w K mg base callerA [] s H) (hb : BindsTo s fd args (ps.zip us)) (r : Vals vs us) (hl : vs.length = ps.length) (h : sp vs H Q E) : codeAny (model P w) callerA (.call (.ref f) args) (CR CX0 [] P w H s Q E) s := by
  obtain ⟨oc, od, dV, kV, doc, pm, an, cdv, ct, osl, rfl, lk, hcd, _, _⟩ := F.ex
  have up : ∀ b o, base.get? b = some o → s.heap.get? b = some o := fun b o e => (e0.bs b o e).1
  have KX : K.In s.heap := e0.mod.kin.keeps up
  have kinds : ∀ y ∈ ps.zip us, sc.names.lookup y.1 = some .local ∨ (sc.names.lookup y.1 = some .cell ∧ ((cellsFrom (s.heap.objs.size + 1) sc.names []).lookup y.1).isSome = true) := by
    rintro ⟨n, v⟩ hy
    exact (S.par n (List.of_mem_zip hy).1).imp id fun q => ⟨q, PySem.W.cellsFrom_some _ _ _ (.inl q)⟩
  refine codeAny_call_function hr.depth (KX _ _ lk) rfl S.co S.gen rfl (PySem.W.codeRec_of KX hcd) (hb _ _ _ _ (wpAny_newFunctionEnv_cells S.kind kinds fun env he s1 x => ?_))
  subst he
  obtain ⟨t, ht, hq⟩ := B cdv s H vs Q E (hr.deeper _) h
  refine ⟨(e0.mod.nolimit.keeps up).keeps x.toInCall.keep, codeAny_func (wpAny_mono (ht.run [] s1 (start N vs) H _ (inv_start S hr.hd e0 hl r x) hq) (fun fl s' hs => ?_) fun e s' hs => hs)⟩
  cases fl with
  | ret u =>
    obtain ⟨v, σ', H', J, rv, q⟩ := hs
    exact ⟨v, H', J.os, J.bare, J.base, J.hok, rv, q⟩
  | next =>
    obtain ⟨σ', H', J, q⟩ := hs
    exact ⟨V.non, H', J.os, J.bare, J.base, J.hok, rfl, q⟩
  | brk =>
    obtain ⟨_, _, _, q⟩ := hs
    exact False.elim q
  | cont =>
    obtain ⟨_, _, _, q⟩ := hs
    exact False.elim q
end
end L2
namespace L2
open PySem PySem.Spec PyProof.Rows
section
variable {P : Program} {w : World} {K : PySem.W.Frag} {mg mb : Str → Option Value} {k : Nat} {a fa : Addr} {x qual nm : Str} {params : Arguments} {body : List Stmt} {sc : Scope} {N : List Str} {sp : Sp} {fd : FuncData} {s : Shared} {vs : List Value} {ns : List Int}
/-- where the abstract heap tracks the script alone (or nothing) -/
theorem ground_of {H : Hp} (KX : K.In s.heap) (g : s.heap.Ns mainGlobals mg) (b : s.heap.Ns builtinsNs mb) (bb : ∀ x : Str, x ≠ "__name__" → mb x = bootBuiltins x) (lim : s.heap.NoLimit) (gen : s.gens = #[])
    (ha : s.heap.get? a = some { cls := .type "list", data := .seq vs.toArray }) (hok : HOk P w H s.heap) (only : ∀ c, H c ≠ none → c = a) (out : H a ≠ none → K.lookup a = none) :
    ∃ base : Heap, K.In base ∧ base.Ns mainGlobals mg ∧ Env0 P w K mg base callerA [] s H := by
  have get : ∀ {c : Addr} {o : Obj}, s.heap.get? c = some o → H c = none → (hidT s.heap H).get? c = some o := fun e n => hidT_get e n
  have tab : ∀ {c : Addr} {m : Str → Option Value}, s.heap.Ns c m → (hidT s.heap H).Ns c m := by
    rintro c m ⟨o, es, ep, e, d, r⟩
    refine ⟨o, es, ep, get e (Classical.byContradiction fun q => ?_), d, r⟩
    have ca := only c q
    subst ca
    rw [ha] at e
    cases e
    cases (show Data.seq vs.toArray _ = Data.dict es ep from d)
  have kin : K.In (hidT s.heap H) := fun c o e => get (KX c o e) (Classical.byContradiction fun q => by
    have ca := only c q
    subst ca
    rw [out q] at e
    cases e)
  obtain ⟨mc, l1, l2⟩ := lim
  exact ⟨hidT s.heap H, kin, tab g, rfl, ⟨kin, tab g, ⟨mb, tab b, bb⟩, mc, tab l1, l2⟩, fun c o e => of_hidT e, Nat.le_of_eq (hidT_size _ _), trivial, (fun c hc => nomatch hc), hok, .of_eq gen⟩
theorem law_run (F : FunD K nm qual params body sc [] [] fa fd) (S : FnScope N [x] sc) (B : ∀ base : Heap, K.In base → base.Ns mainGlobals mg → BodyOk P w K mg base k N qual sc body fa sp) (hb : ∀ (s : Shared) (u : Value), BindsTo s fd ⟨[u], []⟩ [(x, u)]) (hr : Room (k + 1) callerA)
    (hsp : ∀ H : Hp, SqL K H a (ns.map V.int) → sp [.ref a] H (fun v _ => v = .bl true) fun _ _ _ => False)
    (KX : K.In s.heap) (g : s.heap.Ns mainGlobals mg) (b : s.heap.Ns builtinsNs mb) (bb : ∀ x : Str, x ≠ "__name__" → mb x = bootBuiltins x) (lim : s.heap.NoLimit) (gen : s.gens = #[])
    (ha : s.heap.get? a = some { cls := .type "list", data := .seq vs.toArray }) (hi : IntsAre vs ns) (hl : ns.length ≤ sizeLine) :
    codeAny (model P w) callerA (.call (.ref fa) ⟨[.ref a], []⟩) (fun r s' => r = .ok (.ret (.bool true)) ∧ OldK s.heap s'.heap ∧ s'.os = s.os ∧ AllBare s'.gens) s := by
  have run : ∀ H : Hp, SqL K H a (ns.map V.int) → HOk P w H s.heap → (∀ c, H c ≠ none → c = a) → (H a ≠ none → K.lookup a = none) → (∀ c u, H c = some u → ∃ o xs, u = .frz o (.lst xs)) →
      codeAny (model P w) callerA (.call (.ref fa) ⟨[.ref a], []⟩) (fun r s' => r = .ok (.ret (.bool true)) ∧ OldK s.heap s'.heap ∧ s'.os = s.os ∧ AllBare s'.gens) s := by
    intro H hS hok only out frz
    obtain ⟨base, k1, k2, e0⟩ := ground_of KX g b bb lim gen ha hok only out
    refine codeAny_mono (body_run (us := [.ref a]) (vs := [.ref a]) F S (B base k1 k2) hr e0 (hb s (.ref a)) (.cons rfl .nil) rfl (hsp H hS)) fun r s' q => ?_
    cases r with
    | error e => exact False.elim q
    | ok fl =>
      cases fl with
      | next => exact False.elim q
      | brk => exact False.elim q
      | cont => exact False.elim q
      | ret u =>
        obtain ⟨v, H', os, bare, un, hok', rv, ev⟩ := q
        have ev' : v = .bl true := ev
        subst ev'
        obtain rfl : u = Value.bool true := rv
        refine ⟨rfl, OldK.of_keep fun c o e => ?_, os, bare⟩
        cases q : H c with
        | none => exact un.keep c o e q (fun z => nomatch z) (fun z => nomatch z)
        | some u =>
          obtain ⟨ob, xs, rfl⟩ := frz c u q
          obtain ⟨e1, _⟩ := hok c _ q
          obtain ⟨e2, _⟩ := hok' c _ (un.frzs c ob _ q)
          rw [e] at e1
          cases e1
          exact e2
  have rv := vals_ints hi
  cases hk : K.lookup a with
  | some o =>
    have e := KX a o hk
    rw [ha] at e
    cases e
    exact run (fun _ => none) (.inr ⟨_, vs.toArray, _, hk, rfl, rfl, rfl, by rw [List.size_toArray, hi.length]; exact hl, by simpa using rv⟩) (fun c u z => nomatch z) (fun c z => absurd rfl z) (fun z => absurd rfl z) fun c u z => nomatch z
  | none =>
    refine run (fun c => if c = a then some (.frz { cls := .type "list", data := .seq vs.toArray } (.lst (ns.map V.int))) else none) (.inl (.inr ⟨{ cls := .type "list", data := .seq vs.toArray }, if_pos rfl⟩)) (fun c u z => ?_)
      (fun c z => Classical.byContradiction fun q => z (if_neg q)) (fun _ => hk) fun c u z => ?_
    · by_cases hc : c = a
      · have z' := (if_pos hc).symm.trans z
        cases z'
        subst hc
        exact ⟨ha, by rw [List.length_map]; exact hl, vs, _, rv, ha⟩
      · cases (if_neg hc).symm.trans z
    · by_cases hc : c = a
      · cases (if_pos hc).symm.trans z
        exact ⟨_, _, rfl⟩
      · cases (if_neg hc).symm.trans z
end
/-- the end -/
theorem walkG {l : PySem.W.OpenLaw} {n k : Nat} {q : Program} {loose : List Str} {XP : (Str → Option Value) → Heap → Prop} {YP : World → Heap → Prop} {d : DefRec} {x : Str} (hn : l.most = some n) (hn2 : n ≤ sizeLine) (hdf : d.params.defaults = []) (hr : Room (k + 1) callerA)
    (F : ∀ (w : World) (mg : Str → Option Value) (fa : Addr) (h : Heap), YP w h → h.Ns mainGlobals mg → mg d.name = some (.ref fa) →
      ∃ (K : PySem.W.Frag) (fd : FuncData) (nm qual : Str) (params : Arguments) (body : List Stmt) (sc : Scope) (N : List Str) (sp : Sp), K.In h ∧ FunD K nm qual params body sc [] [] fa fd ∧ FnScope N [x] sc ∧ (∀ (s : Shared) (u : Value), BindsTo s fd ⟨[u], []⟩ [(x, u)]) ∧
        (∀ (H : Hp) (a : Addr) (ns : List Int), ns.length ≤ n → SqL K H a (ns.map V.int) → sp [.ref a] H (fun v _ => v = .bl true) fun _ _ _ => False) ∧
        ∀ base : Heap, K.In base → base.Ns mainGlobals mg → BodyOk l.prog w K mg base k N qual sc body fa sp) :
    PySem.W.WalkO q loose XP YP l.row.toRowW d [] (fun f vs => PySem.call f vs) := by
  refine Att.attach_call hn hdf fun w s₀ s₁ mg mb fa o pm cd doc a vs ns G Y ho hd hcd hmg hobj hints hlen hg => ?_
  obtain ⟨K, fd, nm, qual, params, body, sc, N, sp, KX, FD, S, hb, hsp, B⟩ := F w mg fa _ Y G.T.g hmg
  exact law_run FD S B hb hr (fun H hS => hsp H a ns hlen hS) KX G.T.g G.T.b G.T.builtins G.T.nolimit hg hobj hints (Nat.le_trans hlen hn2)
end L2


namespace Toy
open PySem L2
theorem Same.delH {H H' : Hp} (s : Same H H') (z : Addr) : Same (L2.delH H z) (L2.delH H' z) := fun b o e => by
  by_cases h : b = z
  · rw [h, delH_same] at e
    cases e
  · rw [delH_ne h] at e ⊢
    exact s b o e
theorem Same.off {H : Hp} (z : Addr) : Same (L2.delH H z) H := fun b o e => by
  by_cases h : b = z
  · rw [h, delH_same] at e
    cases e
  · rw [delH_ne h] at e
    exact e
theorem But.off {H H' : Hp} {z : Addr} (s : But z H H') : Same (L2.delH H z) (L2.delH H' z) := fun b o e => by
  by_cases h : b = z
  · rw [h, delH_same] at e
    cases e
  · rw [delH_ne h] at e ⊢
    exact s b o h e
theorem Same.but {H H' : Hp} (s : Same H H') (z : Addr) : But z H H' := fun b o _ e => s b o e
theorem few {n : Nat} (h : n ≤ 1000) : n ≤ sizeLine := Nat.le_of_lt (small1000 h)
theorem Tape.same {H H' : Hp} {d : Addr} {l : Tl} {n : Nat} (t : Tape H d l n) (s : Same H H') : Tape H' d l n := by
  obtain ⟨ns, a, f, h1, h2, h3⟩ := t
  exact ⟨ns, a, f, s _ _ h1, s _ _ h2, h3⟩
abbrev partOf (st : Stmt) (i : Nat) : Stmt := (defBody st).getD i (.Pass ⟨0, 0, 0, 0⟩)
end Toy


namespace Toy
open PySem L2 PyProof.Rows
theorem dpStrs {K : PySem.W.Frag} {H : Hp} : ∀ ks : List Str, DpAll K H (ks.map V.str) (ks.map PyData.str)
  | [] => .nil
  | k :: ks => .cons (.str k) (dpStrs ks)
theorem layStrs : ∀ {ks : List Str}, (∀ k ∈ ks, PyData.strOk k = true) → PyData.canLayAll0 (ks.map PyData.str) = true
  | [], _ => by simp [PyData.canLayAll0]
  | k :: ks, h => by
    simp only [List.map_cons, PyData.canLayAll0, PyData.canLay0]
    rw [h k List.mem_cons_self, layStrs fun x hx => h x (List.mem_cons_of_mem _ hx)]
    rfl
theorem depthStrs : ∀ ks : List Str, PyData.depthAll (ks.map PyData.str) ≤ 1
  | [] => by simp [PyData.depthAll]
  | k :: ks => by
    have := depthStrs ks
    simp only [List.map_cons, PyData.depthAll, PyData.depth]
    omega
theorem shapedStrs {ks : List Str} (h : ∀ k ∈ ks, PyData.strOk k = true) : SeqAt.shaped (.list (ks.map PyData.str)) = true := by
  unfold SeqAt.shaped
  have z := depthStrs ks
  rw [show (PyData.list (ks.map PyData.str)).canLay0 = true by simp only [PyData.canLay0]; exact layStrs h, Bool.true_and]
  exact decide_eq_true (by simp only [PyData.depth]; omega)
theorem Tape.at {H : Hp} {d : Addr} {l : Tl} {n : Nat} (t : Tape H d l n) : (∃ o, H d = some o) ∧ ∃ o, H l.a = some o := by
  obtain ⟨ns, a, f, h1, h2, _⟩ := t
  exact ⟨⟨_, h1⟩, _, h2⟩
theorem Tape.upd {H : Hp} {d : Addr} {l : Tl} {p : Addr} {n : Nat} {u : HO} (t : Tape H d l n) (h1 : d ≠ p) (h2 : l.a ≠ p) : Tape (L2.upd H p u) d l n := by
  obtain ⟨ns, a, f, e1, e2, e3⟩ := t
  exact ⟨ns, a, f, by rw [upd_ne h1]; exact e1, by rw [upd_ne h2]; exact e2, e3⟩
theorem nodup_fst_put {kvs : List (Key × V)} {k : Key} {v : V} (h : k ∉ kvs.map (·.1)) : putK kvs k v = kvs ++ [(k, v)] := by
  unfold putK
  rw [if_neg]
  simpa using h
theorem merge_new : ∀ (more kvs : List (Key × V)), ((kvs ++ more).map (·.1)).Nodup → mergeK kvs more = kvs ++ more
  | [], kvs, _ => by simp [mergeK]
  | p :: more, kvs, h => by
    have e : mergeK kvs (p :: more) = mergeK (putK kvs p.1 p.2) more := by simp [mergeK]
    have hp : p.1 ∉ kvs.map (·.1) := by
      rw [List.map_append, List.nodup_append] at h
      intro z
      exact h.2.2 _ z _ (by simp) rfl
    rw [e, nodup_fst_put hp, merge_new more (kvs ++ [(p.1, p.2)]) (by simpa using h)]
    simp
theorem same_put {H H1 : Hp} {D : Addr} {u : HO} (s : Same H H1) (n : H D = none) : Same H (upd H1 D u) := fun b o e => by
  rw [upd_ne (ne_of_none e n)]
  exact s _ _ e
theorem same_id {H : Hp} : Same H H := fun _ _ z => z
theorem Tape.more {H : Hp} {d : Addr} {l : Tl} {n m : Nat} (t : Tape H d l n) (h : n ≤ m) : Tape H d l m := by
  obtain ⟨ns, a, f, h1, h2, h3, h4, h5, h6, h7⟩ := t
  exact ⟨ns, a, f, h1, h2, h3, h4, h5, by omega, h7⟩
abbrev sPick : Stmt := top 51
def spPick : Sp := fun vs H Q _ => ∃ (d : Addr) (l : Tl) (p : Addr) (n : Nat) (xs : List V), vs = [.ref d, .ref p] ∧ Tape H d l n ∧ n ≤ 1000000 ∧ H p = some (.lst xs) ∧ xs ≠ [] ∧ xs.length < 1000000 ∧
  ∀ H' v, But d H H' → Tape H' d l (n + 1) → v ∈ xs → Q v H'
section
variable {P : Program} {w : World} {K : PySem.W.Frag} {mg : Str → Option Value} {base : Heap}
theorem scP : FnScope ["_law_tape", "_law_items"] ["_law_tape", "_law_items"] (defScope sPick) := ⟨rfl, rfl, rfl, by decide +kernel, rfl, by decide +kernel, by decide +kernel⟩
theorem ok_pick {f fD : Addr} {fd fdD : FuncData} (F : Fun K "_law_pick" "_law_pick" sPick f fd) (GD : FnOk P w K mg base CX0 1 fD fdD ["_law_tape", "_law_many"] spDraw) (mD : mg "_law_draw" = some (.ref fD)) (kD : PySem.W.keepIn K (.ref fD) = true) (bD : Binds K fdD ["_law_tape", "_law_many"] []) (mLen : mg "len" = none) : FnOk P w K mg base CX0 2 f fd ["_law_tape", "_law_items"] spPick := by
  refine F.ok scP (fun vs H Q E h => ?_) (fun cdv A outer s H vs Q E hr h => ?_)
  · obtain ⟨d, l, p, n, xs, rfl, _⟩ := h
    rfl
  · obtain ⟨d, l, p, n, xs, rfl, hT, hn, hp, hne, hlen, q⟩ := h
    refine ⟨_, pss_one (ps_ret (pe_ix ix_list (pv 1) (pe_call GD hr rfl mD kD bD .nil pass0 (pa_cons (pv 0) (pa_cons (pe_callB call_len_seq (by rfl) mLen PySem.boot_len (pa_cons (pv 1) pa_nil)) pa_nil))) (fun _ _ => rfl))), ?_⟩
    have lp : 0 < xs.length := List.length_pos_iff.mpr hne
    refine ⟨_, rfl, _, rfl, _, rfl, p, _, rfl, .inl (SqL.of hp), d, l, n, _, rfl, hT, hn, (by omega), (by omega), fun H1 r hb hT1 r0 r1 => ?_⟩
    have npd : p ≠ d := by
      obtain ⟨ns, a, f, hd, _⟩ := hT
      exact ne_of hp hd (by intro z; cases z)
    obtain ⟨j, ej⟩ : ∃ j : Nat, r = (j : Int) := ⟨r.toNat, by omega⟩
    have hj : j < xs.length := by omega
    refine ⟨p, xs, _, xs[j], rfl, rfl, SqL.of (hb _ _ npd hp), (by rw [ej]; exact atI_nat (List.getElem?_eq_getElem hj)), q _ _ hb hT1 (List.getElem_mem hj)⟩
end
end Toy


namespace Toy
open PySem PySem.Spec L2 PyProof.Rows PySem.W
def okK (k : Str) : Bool := (PyData.strOk k && decide (k.length ≤ 1000)) && decide (37 ∉ k.cps.toList)
theorem okK_1 {k : Str} (h : okK k = true) : PyData.strOk k = true := by
  unfold okK at h
  rw [Bool.and_eq_true, Bool.and_eq_true] at h
  exact h.1.1
theorem okK_2 {k : Str} (h : okK k = true) : k.length ≤ 1000 := by
  unfold okK at h
  rw [Bool.and_eq_true, Bool.and_eq_true] at h
  exact of_decide_eq_true h.1.2
theorem okK_3 {k : Str} (h : okK k = true) : 37 ∉ k.cps.toList := by
  unfold okK at h
  rw [Bool.and_eq_true] at h
  exact of_decide_eq_true h.2
/-! ### values: leaves, tuples, and lists and dicts that are never looked into -/
inductive Dt where
  | non
  | bl (b : Bool)
  | int (i : Int)
  | str (x : Str)
  | tup (l : List Dt)
  | opq
mutual
def nd : Dt → Nat
  | .tup l => ndL l + 1
  | .non => 0
  | .bl _ => 0
  | .int _ => 0
  | .str _ => 0
  | .opq => 0
def ndL : List Dt → Nat
  | [] => 0
  | t :: l => nd t + ndL l
end
mutual
def dep : Dt → Nat
  | .tup l => depL l + 1
  | .non => 0
  | .bl _ => 0
  | .int _ => 0
  | .str _ => 0
  | .opq => 0
def depL : List Dt → Nat
  | [] => 0
  | t :: l => max (dep t) (depL l)
end
mutual
def okd (c : Nat) : Dt → Bool
  | .tup l => decide (l.length ≤ c) && okdL c l
  | .non => true
  | .bl _ => true
  | .int _ => true
  | .str x => okK x
  | .opq => true
def okdL (c : Nat) : List Dt → Bool
  | [] => true
  | t :: l => okd c t && okdL c l
end
mutual
theorem okd_mono {c c' : Nat} (h : c ≤ c') : ∀ t, okd c t = true → okd c' t = true
  | .tup l, z => by
    simp only [okd, Bool.and_eq_true, decide_eq_true_eq] at z ⊢
    exact ⟨Nat.le_trans z.1 h, okdL_mono h l z.2⟩
  | .non, _ => by simp [okd]
  | .bl _, _ => by simp [okd]
  | .int _, _ => by simp [okd]
  | .str _, z => by simpa [okd] using z
  | .opq, _ => by simp [okd]
theorem okdL_mono {c c' : Nat} (h : c ≤ c') : ∀ l, okdL c l = true → okdL c' l = true
  | [], _ => by simp [okdL]
  | t :: l, z => by
    simp only [okdL, Bool.and_eq_true] at z ⊢
    exact ⟨okd_mono h t z.1, okdL_mono h l z.2⟩
end
mutual
inductive Dv (K : PySem.W.Frag) (H : Hp) : V → Dt → Prop
  | non : Dv K H .non .non
  | bl (b : Bool) : Dv K H (.bl b) (.bl b)
  | int (i : Int) : Dv K H (.int i) (.int i)
  | str (x : Str) : Dv K H (.str x) (.str x)
  | tup {a : Addr} {us : List V} {ts : List Dt} : SqT K H a us → DvL K H us ts → Dv K H (.ref a) (.tup ts)
  | lst {a : Addr} {us : List V} : H a = some (.lst us) → Dv K H (.ref a) .opq
  | dct {a : Addr} {m : List (Key × V)} : H a = some (.dK m) → Dv K H (.ref a) .opq
inductive DvL (K : PySem.W.Frag) (H : Hp) : List V → List Dt → Prop
  | nil : DvL K H [] []
  | cons {v : V} {t : Dt} {vs : List V} {ts : List Dt} : Dv K H v t → DvL K H vs ts → DvL K H (v :: vs) (t :: ts)
end
theorem same_seqT {K : PySem.W.Frag} {H H' : Hp} {a : Addr} {xs : List V} (e : Same H H') (h : SqT K H a xs) : SqT K H' a xs := by
  rcases h with (h | ⟨o, h⟩) | h
  · exact .inl (.inl (e _ _ h))
  · exact .inl (.inr ⟨o, e _ _ h⟩)
  · exact .inr h
mutual
theorem dvM {K : PySem.W.Frag} {H H' : Hp} (s : Same H H') : ∀ {v : V} {d : Dt}, Dv K H v d → Dv K H' v d
  | _, _, .non => .non
  | _, _, .bl b => .bl b
  | _, _, .int i => .int i
  | _, _, .str x => .str x
  | _, _, .tup h a => .tup (same_seqT s h) (dvLM s a)
  | _, _, .lst h => .lst (s _ _ h)
  | _, _, .dct h => .dct (s _ _ h)
theorem dvLM {K : PySem.W.Frag} {H H' : Hp} (s : Same H H') : ∀ {vs : List V} {ds : List Dt}, DvL K H vs ds → DvL K H' vs ds
  | _, _, .nil => .nil
  | _, _, .cons a b => .cons (dvM s a) (dvLM s b)
end
theorem dvl_len {K : PySem.W.Frag} {H : Hp} : ∀ {vs : List V} {ds : List Dt}, DvL K H vs ds → vs.length = ds.length
  | _, _, .nil => rfl
  | _, _, .cons _ t => congrArg Nat.succ (dvl_len t)
theorem dvl_app {K : PySem.W.Frag} {H : Hp} : ∀ {vs : List V} {ds : List Dt} {us : List V} {es : List Dt}, DvL K H vs ds → DvL K H us es → DvL K H (vs ++ us) (ds ++ es)
  | _, _, _, _, .nil, r => r
  | _, _, _, _, .cons a b, r => .cons a (dvl_app b r)
theorem dvl_get {K : PySem.W.Frag} {H : Hp} : ∀ {vs : List V} {ds : List Dt} {i : Nat} {v : V}, DvL K H vs ds → vs[i]? = some v → ∃ d, ds[i]? = some d ∧ Dv K H v d
  | _, _, 0, _, .cons a _, h => by cases h; exact ⟨_, rfl, a⟩
  | _, _, i + 1, _, .cons _ b, h => by
    obtain ⟨d, e, z⟩ := dvl_get (i := i) b (by simpa using h)
    exact ⟨d, by simpa using e, z⟩
  | _, _, _, _, .nil, h => by simp at h
theorem dvl_take {K : PySem.W.Frag} {H : Hp} : ∀ {vs : List V} {ds : List Dt} (n : Nat), DvL K H vs ds → DvL K H (vs.take n) (ds.take n)
  | _, _, 0, _ => by simpa using DvL.nil
  | _, _, n + 1, .nil => by simpa using DvL.nil
  | _, _, n + 1, .cons a b => by simpa using DvL.cons a (dvl_take n b)
theorem dvl_drop {K : PySem.W.Frag} {H : Hp} : ∀ {vs : List V} {ds : List Dt} (n : Nat), DvL K H vs ds → DvL K H (vs.drop n) (ds.drop n)
  | _, _, 0, h => by simpa using h
  | _, _, n + 1, .nil => by simpa using DvL.nil
  | _, _, n + 1, .cons a b => by simpa using dvl_drop n b
theorem dvl_rev {K : PySem.W.Frag} {H : Hp} : ∀ {vs : List V} {ds : List Dt}, DvL K H vs ds → DvL K H vs.reverse ds.reverse
  | _, _, .nil => by simpa using DvL.nil
  | _, _, .cons a b => by
    rw [List.reverse_cons, List.reverse_cons]
    exact dvl_app (dvl_rev b) (.cons a .nil)
/-! sizes -/
theorem ndL_app : ∀ a b, ndL (a ++ b) = ndL a + ndL b
  | [], b => by simp [ndL]
  | t :: a, b => by simp only [List.cons_append, ndL, ndL_app a b]; omega
theorem depL_app : ∀ a b, depL (a ++ b) = max (depL a) (depL b)
  | [], b => by simp [depL]
  | t :: a, b => by simp only [List.cons_append, depL, depL_app a b]; omega
theorem okdL_app (c : Nat) : ∀ a b, okdL c (a ++ b) = (okdL c a && okdL c b)
  | [], b => by simp [okdL]
  | t :: a, b => by simp only [List.cons_append, okdL, okdL_app c a b, Bool.and_assoc]
theorem okdL_all (c : Nat) : ∀ l, okdL c l = l.all (okd c)
  | [] => by simp [okdL]
  | t :: l => by simp only [okdL, List.all_cons, okdL_all c l]
theorem dep_mem : ∀ {l : List Dt} {t : Dt}, t ∈ l → dep t ≤ depL l
  | a :: l, t, h => by
    rw [depL]
    rcases List.mem_cons.mp h with rfl | h
    · omega
    · have := dep_mem h
      omega
theorem nd_mem : ∀ {l : List Dt} {t : Dt}, t ∈ l → nd t ≤ ndL l
  | a :: l, t, h => by
    rw [ndL]
    rcases List.mem_cons.mp h with rfl | h
    · omega
    · have := nd_mem h
      omega
theorem depL_le {l : List Dt} {e : Nat} (h : ∀ t ∈ l, dep t ≤ e) : depL l ≤ e := by
  induction l with
  | nil => simp [depL]
  | cons a l ih =>
    rw [depL]
    have h1 := h a List.mem_cons_self
    have h2 := ih fun t ht => h t (List.mem_cons_of_mem _ ht)
    omega
/-- a value of at most n tuples, e deep, of tuples no longer than c, off the tape -/
def Fv (K : PySem.W.Frag) (d : Addr) (H : Hp) (c n e : Nat) (v : V) : Prop := ∃ t, Dv K (delH H d) v t ∧ nd t ≤ n ∧ dep t ≤ e ∧ okd c t = true
theorem Fv.but {K : PySem.W.Frag} {d : Addr} {H H' : Hp} {c n e : Nat} {v : V} (h : Fv K d H c n e v) (b : But d H H') : Fv K d H' c n e v := by
  obtain ⟨t, h1, h2⟩ := h
  exact ⟨t, dvM (But.off b) h1, h2⟩
theorem Fv.mono {K : PySem.W.Frag} {d : Addr} {H : Hp} {c n n' e e' : Nat} {v : V} (h : Fv K d H c n e v) (k : n ≤ n') (k2 : e ≤ e') : Fv K d H c n' e' v := by
  obtain ⟨t, h1, h2, h3, h4⟩ := h
  exact ⟨t, h1, Nat.le_trans h2 k, Nat.le_trans h3 k2, h4⟩
theorem Fv.wide {K : PySem.W.Frag} {d : Addr} {H : Hp} {c c' n e : Nat} {v : V} (h : Fv K d H c n e v) (k : c ≤ c') : Fv K d H c' n e v := by
  obtain ⟨t, h1, h2, h3, h4⟩ := h
  exact ⟨t, h1, h2, h3, okd_mono k t h4⟩
/-- fields of a tuple: k of them, of at most n tuples, e deep -/
def Fa (K : PySem.W.Frag) (d : Addr) (H : Hp) (c k n e : Nat) (vs : List V) : Prop := vs.length = k ∧ ∃ ts, DvL K (delH H d) vs ts ∧ ndL ts ≤ n ∧ depL ts ≤ e ∧ okdL c ts = true
section
variable {K : PySem.W.Frag} {d : Addr} {H : Hp} {c n n2 e k : Nat} {v : V} {vs : List V}
theorem fa_nil : Fa K d H c 0 0 e [] := ⟨rfl, [], .nil, by simp [ndL], by simp [depL], by simp [okdL]⟩
theorem fa_cons (h : Fv K d H c n e v) (r : Fa K d H c k n2 e vs) : Fa K d H c (k + 1) (n + n2) e (v :: vs) := by
  obtain ⟨t, h1, h2, h3, h4⟩ := h
  obtain ⟨rl, ts, r1, r2, r3, r4⟩ := r
  refine ⟨by rw [List.length_cons, rl], t :: ts, .cons h1 r1, ?_, ?_, ?_⟩
  · rw [ndL]; omega
  · rw [depL]; omega
  · rw [okdL, h4, r4]; rfl
theorem mkF {T : Addr} (hd : ∃ o, H d = some o) (nT : H T = none) (hf : Fa K d H c k n e vs) (hk : k ≤ c) : Fv K d (upd H T (.tup vs)) c (n + 1) (e + 1) (.ref T) := by
  obtain ⟨hl, ts, h1, h2, h3, h4⟩ := hf
  obtain ⟨o, ho⟩ := hd
  have nTd : T ≠ d := (ne_of_none ho nT).symm
  have s : Same (delH H d) (delH (upd H T (.tup vs)) d) := Same.delH (same_new same_id nT) d
  have lt := dvl_len h1
  refine ⟨.tup ts, .tup (SqT.of ((delH_ne nTd).trans upd_same)) (dvLM s h1), ?_, ?_, ?_⟩
  · rw [nd]; omega
  · rw [dep]; omega
  · rw [okd, h4, Bool.and_true]
    exact decide_eq_true (by omega)
end
end Toy


/-! a set of texts, of a list or tuple of any length: how many it has is told by a bound -/
namespace SS2
open PySem PySem.Spec PyProof.Rows
/-- among the first i of zs c are different; T tells which stand there -/
def Cn (zs : List Str) (i c : Nat) : Prop := c ≤ i ∧ (c = i ↔ (zs.take i).Nodup)
def TM (zs : List Str) (i : Nat) (T : Str → Bool) : Prop := ∀ k, T k = decide (k ∈ zs.take i)
theorem take_next {zs : List Str} {i : Nat} (h : i < zs.length) : zs.take (i + 1) = zs.take i ++ [zs.getD i Str.empty] := by
  rw [List.take_add_one, List.getElem?_eq_getElem h, List.getD_eq_getElem?_getD, List.getElem?_eq_getElem h]
  rfl
theorem TM.next {zs : List Str} {i : Nat} {T : Str → Bool} (h : TM zs i T) (hi : i < zs.length) : TM zs (i + 1) (fun k' => T k' || decide (k' = zs.getD i Str.empty)) := by
  intro k
  show (T k || decide (k = zs.getD i Str.empty)) = _
  rw [h k, take_next hi, Bool.eq_iff_iff]
  simp
theorem Cn.next {zs : List Str} {i c : Nat} {T : Str → Bool} (h : Cn zs i c) (t : TM zs i T) (hi : i < zs.length) : Cn zs (i + 1) (if T (zs.getD i Str.empty) = true then c else c + 1) := by
  obtain ⟨h1, h2⟩ := h
  have e := t (zs.getD i Str.empty)
  unfold Cn
  rw [take_next hi, List.nodup_append]
  cases ht : T (zs.getD i Str.empty) with
  | true =>
    rw [ht] at e
    have hm := of_decide_eq_true e.symm
    rw [if_pos rfl]
    refine ⟨by omega, fun z => by omega, fun z => ?_⟩
    exact absurd rfl (z.2.2 _ hm _ (List.mem_singleton.mpr rfl))
  | false =>
    rw [ht] at e
    have hm := of_decide_eq_false e.symm
    rw [if_neg Bool.false_ne_true]
    refine ⟨by omega, fun z => ⟨h2.mp (by omega), by simp, fun a ha b hb ab => ?_⟩, fun z => by rw [h2.mpr z.1]⟩
    rw [List.mem_singleton] at hb
    rw [ab, hb] at ha
    exact hm ha
def emptyS (led : Bool) : Obj := { cls := .type "set", dict := none, data := .set #[] 0 (.fresh 0 0 led) }
section
variable {prog : Program} {w : World} {A : Around} {R : Result → Shared → Prop} {I : Addr} {fp wr : List Addr} {G : Array GenState → Array GenState → Prop} {n : Nat} {P : Nat → Value → Prop} {St : Nat → Shared → Prop}
theorem loopS (W : WalksS prog w A.in1 I fp wr G n P St) (S : Addr) (hSf : S ∉ fp) (zs : List Str) (hsz : zs.length = n) (hn : n + 1 < scanBound) (hval : ∀ i v, P i v → ∃ t, v = .str (zs.getD i Str.empty) t) :
    ∀ (k i : Nat) (s : Shared), n - i = k → i ≤ n → St i s → (∃ c, Cn zs i c ∧ ∃ T, TM zs i T ∧ s.heap.SetOf (PySem.strKind prog w) S T c) → (∀ s', Moved (S :: wr) G s s' → (∃ c, Cn zs n c ∧ ∃ T, s'.heap.SetOf (PySem.strKind prog w) S T c) → R (.ok (.ret .none)) s') → codeAny (model prog w) A (.builtin "set.update.loop" ⟨[.ref S, .ref I], []⟩) R s := by
  have hSw : S ∉ wr := fun h => hSf (W.sub _ h)
  have move : ∀ {s s' : Shared} {c : Nat} {T : Str → Bool}, Moved wr G s s' → s.heap.SetOf (PySem.strKind prog w) S T c → s'.heap.SetOf (PySem.strKind prog w) S T c := fun hm hS => by
    obtain ⟨o, es, ep, t, ho, rest⟩ := hS
    exact ⟨o, es, ep, t, hm.heap S _ hSw ho, rest⟩
  intro k
  induction k with
  | zero =>
    rintro i s hk hi hst ⟨c, hc, T, hT, hS⟩ hR
    obtain rfl : i = n := by omega
    refine codeAny_builtin PyProof.Rows.F.entry_set_update_loop ?_
    rw [Around.under_plainId PyProof.Rows.F.plain_set_update_loop _]
    refine (show wpAny _ A.in1 (pyNext (.ref I) >>= _) _ _ s from wpAny_bind (W.done s _ _ hst fun s' hm => ?_))
    exact (show wpAny _ A.in1 (ret Value.none) _ _ s' from wpAny_pure (hR s' (hm.mono fun b hb => List.mem_cons_of_mem _ hb) ⟨c, hc, T, move hm hS⟩))
  | succ k ih =>
    rintro i s hk hi hst ⟨c, hc, T, hT, hS⟩ hR
    have hlt : i < n := by omega
    refine codeAny_builtin PyProof.Rows.F.entry_set_update_loop ?_
    rw [Around.under_plainId PyProof.Rows.F.plain_set_update_loop _]
    refine (show wpAny _ A.in1 (pyNext (.ref I) >>= _) _ _ s from wpAny_bind (W.item i s _ _ hlt hst fun v s' hP hst' hm => ?_))
    obtain ⟨t, rfl⟩ := hval i v hP
    have hS1 := move hm hS
    refine (show wpAny _ A.in1 (holding [Value.str (zs.getD i Str.empty) t] (setAdd S (.str (zs.getD i Str.empty) t)) >>= _) _ _ s' from wpAny_bind (wpAny_holding ?_))
    unfold setAdd
    refine wpAny_holding (wpAny_bind ((PySem.strKind prog w).pyHash (k := zs.getD i Str.empty) (strKind_is _ _ _ _) ?_))
    have hci := hc.1
    refine wpAny_setAddHashed_of (knd := PySem.strKind prog w) (s := { s' with toks := s'.toks + 1 }) (strKind_is _ _ _ _) rfl hS1 (by omega) fun h' hsb hS2 => ?_
    have le := hc.next hT (by omega)
    have tm := hT.next (by omega)
    refine wpAny_pure ⟨plainId_quiet PyProof.Rows.F.plain_set_update_loop _, ih (i + 1) _ (by omega) hlt (W.frame _ s' _ _ hst' (Nat.le_succ _) fun b hb o e => ?_) ⟨_, le, _, tm, hS2⟩ fun s2 hm2 hS3 => hR s2 (Moved.trans W.gtrans ((hm.mono fun b hb => List.mem_cons_of_mem _ hb).then_heap (Nat.le_succ _) fun b o hb e => ?_) hm2) hS3⟩
    · exact (hsb.2 b (fun z : b = S => hSf (by rw [← z]; exact hb))).trans e
    · exact (hsb.2 b (fun z : b = S => hb (by rw [z]; exact List.mem_cons_self))).trans e
end
section
variable {prog : Program} {w : World} {A : Around} {E : Value → Shared → Prop} {s : Shared}
theorem call_setL {l : Addr} {ys : Array Value} {zs : List Str} {Q : Value → Shared → Prop} (hh : A.handled = none) (hl : s.heap.IsList l ys) (hi : PyProof.Rows.StrsAre ys.toList zs) (hn : zs.length + 1 < scanBound)
    (h : ∀ (h' : Heap) (tk c : Nat), Cn zs zs.length c → (∃ S, h'.SetOf (PySem.strKind prog w) s.heap.objs.size S c) → (∀ b o, b < s.heap.objs.size → s.heap.get? b = some o → h'.get? b = some o) → Q (.ref s.heap.objs.size) { s with heap := h', toks := tk }) :
    wpAny (model prog w) A (call (.type "set") [.ref l]) Q E s := by
  have facts := And.intro PySem.F.called_set.made PySem.F.called_set.sub
  obtain ⟨hmade, hsub⟩ := facts
  obtain ⟨c0, tl0, hmro⟩ := PySem.F.called_set.mro
  refine wpAny_call (codeAny_of_tree (show wpAny _ _ (callAny (.type "set") _) _ _ _ from wpAny_pure ⟨Code.quiet_builtin _ (by decide +kernel), codeAny_builtin PySem.F.entry_type_call ?_⟩))
  rw [Around.under_plain (weight_type_call_type "set" [.ref l] []) rfl]
  have facts2 := And.intro PySem.F.called_set.notType (And.intro PySem.F.called_set.canCreate (PySem.F.typeCall_set_1 (.ref l)))
  obtain ⟨h1, h2, hct⟩ := facts2
  repeat (any_goals (first | assumption | wp_step))
  refine codeAny_mono (code_set_new_1 (.ref l) (E := E) (Q₁ := fun ob s1 => ∃ led : Bool, ob = .ref s.heap.objs.size ∧ s1 = { s with heap := s.heap.push (emptyS led) }) fun led => ⟨led, rfl, rfl⟩) fun r s1 hr => ?_
  cases r with
  | error e => exact hr
  | ok fl =>
    cases fl with
    | ret ob =>
      obtain ⟨led, rfl, rfl⟩ := hr
      have hS : (s.heap.push (emptyS led)).get? s.heap.objs.size = some (emptyS led) := Heap.get?_push_size _ rfl
      have hT : Shared.TypeIs { s with heap := s.heap.push (emptyS led) } (.ref s.heap.objs.size) "set" := ⟨_, hS, rfl⟩
      have facts3 := And.intro PySem.F.called_set.init.lookup (PySem.F.called_set.init.bind (.ref s.heap.objs.size))
      obtain ⟨hli, hbi⟩ := facts3
      repeat (any_goals (first | assumption | wp_step))
      refine codeAny_mono (codeAny_call_builtin (R := wants (fun r s2 => r = .none ∧ ∃ h' tk c, s2 = { s with heap := h', toks := tk } ∧ (Cn zs zs.length c ∧ ∃ S, h'.SetOf (PySem.strKind prog w) s.heap.objs.size S c) ∧ (∀ b o, b < s.heap.objs.size → s.heap.get? b = some o → h'.get? b = some o)) E) PySem.F.called_set.init.plain PySem.F.entry_set_init (check_set_init_1 hT ?_)) fun r2 s2 hr2 => ?_
      · obtain ⟨⟨oc, odi, oda, osl⟩, hol, hcl, nl, hdl⟩ := hl
        simp only at hcl hdl
        subst hcl hdl
        have hol' : (s.heap.push (emptyS led)).get? l = some { cls := .type "list", dict := odi, data := .seq ys nl, slots := osl } := Heap.get?_push_of_some _ hol
        have facts4 := And.intro PySem.F.sub_list_set PySem.F.sub_list_frozenset
        obtain ⟨hsls, hslf⟩ := facts4
        have hne : (Value.type "list" == Value.type "dict") = false := by decide
        have hl1 : (s.heap.push (emptyS led)).IsList l ys := ⟨_, hol', rfl, nl, rfl⟩
        unfold Builtin.«set.__init__» noKeywords Builtin.Frozenset.updateFrom
        generalize hPI : pyIter = PI
        wp_walk
        subst hPI
        refine wpAny_pyIter_list hl1 (wpAny_bind (wpAny_runValue ?_))
        have hlS : l < s.heap.objs.size := Heap.lt_size hol
        have hneI : l ≠ (s.heap.push (emptyS led)).objs.size := by
          rw [Heap.size_push]
          exact Nat.ne_of_lt (Nat.lt_succ_of_lt hlS)
        have hSf : s.heap.objs.size ∉ [(s.heap.push (emptyS led)).objs.size, l] := by
          rw [Heap.size_push]
          simp only [List.mem_cons, List.not_mem_nil, or_false, not_or]
          exact ⟨Nat.ne_of_lt (Nat.lt_succ_self _), Nat.ne_of_gt hlS⟩
        have hsz : zs.length = ys.size := by rw [← StrsAre.len_eq hi, Array.length_toList]
        have hval : ∀ (i : Nat) (v : Value), ys[i]? = some v → ∃ t, v = .str (zs.getD i Str.empty) t := fun i v hv => SS.strs_at hi i v (by rw [Array.getElem?_toList]; exact hv)
        refine loopS ((Walks.list (by simp [hh] : A.in1.in1.in1.handled = none) _ l hneI ys).toS) s.heap.objs.size hSf zs hsz (by rw [← hsz]; exact hn) hval (ys.size - 0) 0 _ (by omega) (Nat.zero_le _) ⟨⟨_, Heap.get?_push_size _ rfl, rfl, rfl⟩, (hl1.push _)⟩ ?hS0 ?hR
        case hS0 =>
          have hget : ((s.heap.push (emptyS led)).push { cls := .type "list_iterator", data := .fields #[.ref l, .int 0 0] }).get? s.heap.objs.size = some (emptyS led) := Heap.get?_push_of_some _ hS
          exact ⟨0, ⟨Nat.le_refl _, by simp⟩, _, (fun k => by simp), (PyProof.Rows.setObjOf_fresh (knd := PySem.strKind prog w) led).setOf hget (by unfold scanBound; omega)⟩
        case hR =>
          rintro ⟨h', g', d', tk', os'⟩ hm ⟨c, hc, S, hS'⟩
          obtain rfl : g' = s.gens := hm.gens
          obtain rfl : d' = s.drawn := hm.drawn
          obtain rfl : os' = s.os := hm.os
          show wpAny _ _ _ _ _ _
          refine wpAny_pure (show wpAny _ _ (ret Value.none) _ _ _ from wpAny_pure ⟨rfl, h', tk', c, rfl, ⟨by rw [hsz]; exact hc, S, hS'⟩, fun b o hb e => ?_⟩)
          refine hm.heap b o ?_ (Heap.get?_push_of_some _ (Heap.get?_push_of_some _ e))
          rw [Heap.size_push]
          simp only [List.mem_cons, List.not_mem_nil, or_false, not_or]
          exact ⟨Nat.ne_of_lt hb, Nat.ne_of_lt (Nat.lt_succ_of_lt hb)⟩
      · cases r2 with
        | error e => exact hr2
        | ok fl2 =>
          cases fl2 with
          | ret r =>
            obtain ⟨rfl, h', tk, c, rfl, ⟨hc, hS'⟩, hk'⟩ := hr2
            repeat (any_goals (first | assumption | wp_step))
            exact h _ _ c hc hS' hk'
          | _ => exact hr2.elim
    | _ => exact hr.elim
theorem call_setT {l : Addr} {ys : Array Value} {zs : List Str} {Q : Value → Shared → Prop} (hh : A.handled = none) (hl : s.heap.IsTuple l ys) (hi : PyProof.Rows.StrsAre ys.toList zs) (hn : zs.length + 1 < scanBound)
    (h : ∀ (h' : Heap) (tk c : Nat), Cn zs zs.length c → (∃ S, h'.SetOf (PySem.strKind prog w) s.heap.objs.size S c) → (∀ b o, b < s.heap.objs.size → s.heap.get? b = some o → h'.get? b = some o) → Q (.ref s.heap.objs.size) { s with heap := h', toks := tk }) :
    wpAny (model prog w) A (call (.type "set") [.ref l]) Q E s := by
  have facts := And.intro PySem.F.called_set.made PySem.F.called_set.sub
  obtain ⟨hmade, hsub⟩ := facts
  obtain ⟨c0, tl0, hmro⟩ := PySem.F.called_set.mro
  refine wpAny_call (codeAny_of_tree (show wpAny _ _ (callAny (.type "set") _) _ _ _ from wpAny_pure ⟨Code.quiet_builtin _ (by decide +kernel), codeAny_builtin PySem.F.entry_type_call ?_⟩))
  rw [Around.under_plain (weight_type_call_type "set" [.ref l] []) rfl]
  have facts2 := And.intro PySem.F.called_set.notType (And.intro PySem.F.called_set.canCreate (PySem.F.typeCall_set_1 (.ref l)))
  obtain ⟨h1, h2, hct⟩ := facts2
  repeat (any_goals (first | assumption | wp_step))
  refine codeAny_mono (code_set_new_1 (.ref l) (E := E) (Q₁ := fun ob s1 => ∃ led : Bool, ob = .ref s.heap.objs.size ∧ s1 = { s with heap := s.heap.push (emptyS led) }) fun led => ⟨led, rfl, rfl⟩) fun r s1 hr => ?_
  cases r with
  | error e => exact hr
  | ok fl =>
    cases fl with
    | ret ob =>
      obtain ⟨led, rfl, rfl⟩ := hr
      have hS : (s.heap.push (emptyS led)).get? s.heap.objs.size = some (emptyS led) := Heap.get?_push_size _ rfl
      have hT : Shared.TypeIs { s with heap := s.heap.push (emptyS led) } (.ref s.heap.objs.size) "set" := ⟨_, hS, rfl⟩
      have facts3 := And.intro PySem.F.called_set.init.lookup (PySem.F.called_set.init.bind (.ref s.heap.objs.size))
      obtain ⟨hli, hbi⟩ := facts3
      repeat (any_goals (first | assumption | wp_step))
      refine codeAny_mono (codeAny_call_builtin (R := wants (fun r s2 => r = .none ∧ ∃ h' tk c, s2 = { s with heap := h', toks := tk } ∧ (Cn zs zs.length c ∧ ∃ S, h'.SetOf (PySem.strKind prog w) s.heap.objs.size S c) ∧ (∀ b o, b < s.heap.objs.size → s.heap.get? b = some o → h'.get? b = some o)) E) PySem.F.called_set.init.plain PySem.F.entry_set_init (check_set_init_1 hT ?_)) fun r2 s2 hr2 => ?_
      · obtain ⟨⟨oc, odi, oda, osl⟩, hol, hcl, nl, hdl⟩ := hl
        simp only at hcl hdl
        subst hcl hdl
        have hol' : (s.heap.push (emptyS led)).get? l = some { cls := .type "tuple", dict := odi, data := .seq ys nl, slots := osl } := Heap.get?_push_of_some _ hol
        have facts4 := And.intro PySem.F.sub_tuple_set PySem.F.sub_tuple_frozenset
        obtain ⟨hsls, hslf⟩ := facts4
        have hne : (Value.type "tuple" == Value.type "dict") = false := by decide
        have hl1 : (s.heap.push (emptyS led)).IsTuple l ys := ⟨_, hol', rfl, nl, rfl⟩
        unfold Builtin.«set.__init__» noKeywords Builtin.Frozenset.updateFrom
        generalize hPI : pyIter = PI
        wp_walk
        subst hPI
        refine wpAny_pyIter_tuple hl1 (wpAny_bind (wpAny_runValue ?_))
        have hlS : l < s.heap.objs.size := Heap.lt_size hol
        have hneI : l ≠ (s.heap.push (emptyS led)).objs.size := by
          rw [Heap.size_push]
          exact Nat.ne_of_lt (Nat.lt_succ_of_lt hlS)
        have hSf : s.heap.objs.size ∉ [(s.heap.push (emptyS led)).objs.size, l] := by
          rw [Heap.size_push]
          simp only [List.mem_cons, List.not_mem_nil, or_false, not_or]
          exact ⟨Nat.ne_of_lt (Nat.lt_succ_self _), Nat.ne_of_gt hlS⟩
        have hsz : zs.length = ys.size := by rw [← StrsAre.len_eq hi, Array.length_toList]
        have hval : ∀ (i : Nat) (v : Value), ys[i]? = some v → ∃ t, v = .str (zs.getD i Str.empty) t := fun i v hv => SS.strs_at hi i v (by rw [Array.getElem?_toList]; exact hv)
        refine loopS ((Walks.tuple (by simp [hh] : A.in1.in1.in1.handled = none) _ l hneI ys).toS) s.heap.objs.size hSf zs hsz (by rw [← hsz]; exact hn) hval (ys.size - 0) 0 _ (by omega) (Nat.zero_le _) ⟨⟨_, Heap.get?_push_size _ rfl, rfl, rfl⟩, (hl1.push _)⟩ ?hS0 ?hR
        case hS0 =>
          have hget : ((s.heap.push (emptyS led)).push { cls := .type "tuple_iterator", data := .fields #[.ref l, .int 0 0] }).get? s.heap.objs.size = some (emptyS led) := Heap.get?_push_of_some _ hS
          exact ⟨0, ⟨Nat.le_refl _, by simp⟩, _, (fun k => by simp), (PyProof.Rows.setObjOf_fresh (knd := PySem.strKind prog w) led).setOf hget (by unfold scanBound; omega)⟩
        case hR =>
          rintro ⟨h', g', d', tk', os'⟩ hm ⟨c, hc, S, hS'⟩
          obtain rfl : g' = s.gens := hm.gens
          obtain rfl : d' = s.drawn := hm.drawn
          obtain rfl : os' = s.os := hm.os
          show wpAny _ _ _ _ _ _
          refine wpAny_pure (show wpAny _ _ (ret Value.none) _ _ _ from wpAny_pure ⟨rfl, h', tk', c, rfl, ⟨by rw [hsz]; exact hc, S, hS'⟩, fun b o hb e => ?_⟩)
          refine hm.heap b o ?_ (Heap.get?_push_of_some _ (Heap.get?_push_of_some _ e))
          rw [Heap.size_push]
          simp only [List.mem_cons, List.not_mem_nil, or_false, not_or]
          exact ⟨Nat.ne_of_lt hb, Nat.ne_of_lt (Nat.lt_succ_of_lt hb)⟩
      · cases r2 with
        | error e => exact hr2
        | ok fl2 =>
          cases fl2 with
          | ret r =>
            obtain ⟨rfl, h', tk, c, rfl, ⟨hc, hS'⟩, hk'⟩ := hr2
            repeat (any_goals (first | assumption | wp_step))
            exact h _ _ c hc hS' hk'
          | _ => exact hr2.elim
    | _ => exact hr.elim
end
end SS2
namespace L2
open PySem PySem.Spec PyProof.Rows
/-- len(set(xs)), xs a list or tuple of texts -/
def tLenSetA (K : PySem.W.Frag) (ta : TE) : TE := fun σ H Q => ta σ H fun x H1 => ∃ l, ∃ xs : List Str, x = .ref l ∧ (SqL K H1 l (xs.map V.str) ∨ SqT K H1 l (xs.map V.str)) ∧ xs.length ≤ 300 ∧ ∀ c : Nat, (c = xs.length ↔ xs.Nodup) → Q (.int c) H1
theorem pe_lenSetA {X : Cx} {a : Expr} {ta : TE} {p p2 q pos : Pos} (hc : X.calm = true) (hg : Gl X "len") (hm : X.mg "len" = none) (hg2 : Gl X "set") (hm2 : X.mg "set" = none) (ha : PE X a ta) (na : starEach [a] X.env = (false, eval a X.env) :: starEach [] X.env := by rfl) :
    PE X (.Call (.Name "len" p) [.Call (.Name "set" p2) [a] [] q] [] pos) (tLenSetA X.K ta) := by
  refine ⟨fun pins s σ H Q I h => Call_ (ld_blt I hg hm boot_len (PyProof.Rows.callWith_builtin1 (PyProof.Rows.args_cons (Call_ (ld_blt I hg2 hm2 boot_set ?_)) rfl) rfl rfl))⟩
  refine PyProof.Rows.callWith_type1 (PyProof.Rows.args_cons (thn (ha.run pins s σ H _ I h) fun v s1 ⟨x, H1, I1, r1, l, xs, ex, hq, h1, q1⟩ => PyProof.Rows.args_nil ?_) na) na rfl
  subst ex
  cases r1
  have sb : xs.length + 1 < scanBound := by
    unfold scanBound
    omega
  have fin : ∀ (h' : Heap) (tk c : Nat), SS2.Cn xs xs.length c → (∃ S, h'.SetOf (PySem.strKind X.prog X.w) s1.heap.objs.size S c) → (∀ b o, b < s1.heap.objs.size → s1.heap.get? b = some o → h'.get? b = some o) →
      wpAny (model X.prog X.w) X.A (spliced (backTo pos (starEach [] X.env))) (fun vs s2 => wpAny (model X.prog X.w) X.A (call (.builtin "len") (Value.ref s1.heap.objs.size :: vs)) (EP X pins σ Q) X.xe s2) X.xe { s1 with heap := h', toks := tk } := fun h' tk c hc' ⟨S, hS⟩ hk => by
    obtain ⟨o, es, ep, t, ho, hex, hd, _, _, _, hf, hn⟩ := hS
    have I2 : Inv X pins σ H1 { s1 with heap := h', toks := tk } := I1.kept fun b o e => hk b o (Heap.lt_size e) e
    exact PyProof.Rows.args_nil (call_len_set ho hex hd hf (by have := hc'.1; rw [hn] <;> omega) ⟨.int c, H1, I2.tok _, ⟨_, by rw [hn]⟩, q1 c (by have := hc'.2; rwa [List.take_length] at this)⟩)
  rcases hq with hq | hq
  · obtain ⟨its, r, pl, hz⟩ := I1.list hq
    exact SS2.call_setL (I1.ok.hd hc) pl.isList (by simpa using strsAre_of r) sb fin
  · obtain ⟨its, r, pl, hz⟩ := I1.tuple hq
    exact SS2.call_setT (I1.ok.hd hc) pl (by simpa using strsAre_of r) sb fin
end L2


/-! a text beside a dict; a tuple beside the empty one -/
namespace PySem.SeqAt
open AutoSeq1 (wpAny_loadPart')
open MeetsSeq
theorem str_eq_declines_dict (b : Str) (u : Tok) (l : Addr) (c : Value) (items : Array DictEntry) (n : Nat) (dd : Option Addr) (sl : Array (Option Value)) :
    Meets (Builtin.«str.__eq__» ⟨[.str b u, .ref l], []⟩) (fun _ R s => s.heap.get? l = some { cls := c, dict := dd, data := .dict items n, slots := sl } ∧ R (.ok (.ret .notImplemented)) s) :=
  .of_wp fun prog w A R s h => by obtain ⟨hp, g, d, tk, os⟩ := s; obtain ⟨hl, h⟩ := h; wp_walk using wpAny_loadPart' hl, wpAny_load hl; exact ⟨_, rfl, h⟩
theorem dict_eq_declines_str (l : Addr) (items : Array DictEntry) (n : Nat) (dd : Option Addr) (sl : Array (Option Value)) (b : Str) (u : Tok) :
    Meets (Builtin.«dict.__eq__» ⟨[.ref l, .str b u], []⟩) (fun _ R s => s.heap.get? l = some { cls := .type "dict", dict := dd, data := .dict items n, slots := sl } ∧ R (.ok (.ret .notImplemented)) s) :=
  .of_wp fun prog w A R s h => by obtain ⟨hp, g, d, tk, os⟩ := s; obtain ⟨hl, h⟩ := h; have f1 := F.sub_str_dict; wp_walk using wpAny_loadPart' hl, wpAny_load hl; exact ⟨_, rfl, h⟩
section
variable {A : Around} {s : Shared}
theorem RcAt.str_dict {l : Addr} {items : Array DictEntry} {n : Nat} {dd : Option Addr} {sl : Array (Option Value)} (b : Str) (u : Tok) (ho : s.heap.get? l = some { cls := .type "dict", dict := dd, data := .dict items n, slots := sl }) (hu : A.units < cLine) : RcAt A s (.str b u) (.ref l) false := fun prog w E Q h => by
  exact rc_eq_decline_or (k := false) (typeIs_str s b u) ⟨_, ho, rfl⟩ (by decide) F.sub_dict_str F.slot_str_eq F.slot_dict_eq_refl
    (fun _ hq => call_meets F.slot_str_eq (typeIs_str s b u) F.entry_str_eq (F.args_str_eq_2 _ _) (str_eq_declines_dict b u l (.type "dict") items n dd sl) ⟨ho, hq⟩)
    (fun _ hq => call_meets F.slot_dict_eq_refl ⟨_, ho, rfl⟩ F.entry_dict_eq (F.args_dict_eq_2 _ _) (dict_eq_declines_str l items n dd sl b u) ⟨ho, hq⟩)
    (fun _ hq => wpAny_of_eq (rfl : isSame (.str b u) (.ref l) = pure false) hq) (.inr hu) h
theorem EqAt.str_dict {l : Addr} {items : Array DictEntry} {n : Nat} {dd : Option Addr} {sl : Array (Option Value)} (b : Str) (u : Tok) (ho : s.heap.get? l = some { cls := .type "dict", dict := dd, data := .dict items n, slots := sl }) (hu : A.units < cLine) : EqAt A s (.str b u) (.ref l) false := fun prog w E Q h => by
  unfold eqBool
  refine wpAny_holding ?_
  refine wpAny_ite_split (fun hab => absurd (eq_of_beq hab) nofun) (fun _ => ?_)
  exact wpAny_bind (RcAt.str_dict b u ho hu prog w E _ (wpAny_truthy_bool h))
end
theorem tuple_ne0 (l b : Addr) (items : Array Value) (n n2 : Nat) (dd dd2 : Option Addr) (sl sl2 : Array (Option Value)) :
    Meets (Builtin.«tuple.__ne__» ⟨[.ref l, .ref b], []⟩)
      (fun A R s => s.heap.get? l = some { cls := .type "tuple", dict := dd, data := .seq items n, slots := sl } ∧ s.heap.get? b = some { cls := .type "tuple", dict := dd2, data := .seq #[] n2, slots := sl2 } ∧
        R (.ok (.ret (.bool (items.size != 0)))) s) :=
  .of_wp fun prog w A R s h => by
    obtain ⟨hp, g, d, tk, os⟩ := s; obtain ⟨hl, hb, h⟩ := h
    have f2 := AutoSeq1.sub_tuple_tuple
    have hZ : (items.toList.zip (#[] : Array Value).toList) = [] := by simp
    wp_walk using wpAny_loadPart' hl, wpAny_loadPart' hb, wpAny_forIn_list _ (fun rest b s' => b.1 = none ∧ s' = ⟨hp, g, d, tk, os⟩ ∧ rest = []) _
    case turn =>
      rintro ⟨y, x⟩ rest b s' ⟨hb', rfl, hz⟩
      cases hz
    case fin =>
      rintro ⟨b1, b2⟩ s' ⟨hb', rfl, hz⟩
      simp only at hb'
      subst hb'
      wp_walk
      exact ⟨_, rfl, by simpa [Builtin.Tuple.tupleCompareSizes] using h⟩
    case h =>
      exact ⟨rfl, rfl, hZ⟩
theorem RcNe.tuple0 {A : Around} {s : Shared} {prog : Program} {w : World} {E : Value → Shared → Prop} {l b : Addr} {items : Array Value} {Q : Value → Shared → Prop} (hl : s.heap.IsTuple l items) (hb : s.heap.IsTuple b #[]) (hu : A.units < cLine)
    (h : Q (.bool (items.size != 0)) s) : wpAny (model prog w) A (compareOp .NotEq (.ref l) (.ref b)) Q E s := by
  obtain ⟨⟨cls, dd, data, sl⟩, ho, hc, n, hd⟩ := id hl
  obtain ⟨⟨cls2, dd2, data2, sl2⟩, ho2, hc2, n2, hd2⟩ := id hb
  simp only at hc hd hc2 hd2
  subst hc hd hc2 hd2
  exact richCompare_meets_room (op := .NotEq) ⟨_, ho, rfl⟩ ⟨_, ho2, rfl⟩ F.slot_tuple_ne F.entry_tuple_ne (F.args_tuple_ne_2 _ _) (tuple_ne0 l b items n n2 dd dd2 sl sl2)
    ⟨ho, ho2, show Value.bool (items.size != 0) ≠ Value.notImplemented ∧ Q (.bool (items.size != 0)) s from ⟨(fun x => nomatch x), h⟩⟩ hu
end PySem.SeqAt
namespace L2
open PySem PySem.Spec PyProof.Rows
section
variable {X : Cx}
def rNe0 (K : PySem.W.Frag) : R2 := fun x y H Q => ∃ (a b : Addr) (xs : List V), x = .ref a ∧ y = .ref b ∧ SqT K H a xs ∧ SqT K H b [] ∧ Q (.bl (!xs.isEmpty)) H
theorem op_neT0 (hu : X.A.units + 64 < cLine) : OpR X (compareOp .NotEq) (rNe0 X.K) := by
  intro pins s σ H x y v u Q I rx ry h
  obtain ⟨a, b, xs, rfl, rfl, ha, hb, q⟩ := h
  cases rx
  cases ry
  obtain ⟨its, r, pl, _⟩ := I.tuple ha
  obtain ⟨its2, r2, pl2, _⟩ := I.tuple hb
  cases r2
  refine SeqAt.RcNe.tuple0 pl pl2 (by omega) ⟨.bl _, H, I, rfl, ?_⟩
  have e : (its.toArray.size != 0) = !xs.isEmpty := by
    rw [List.size_toArray, ← r.length]
    cases xs <;> rfl
  rw [e]
  exact q
def rEq0 (K : PySem.W.Frag) : R2 := fun x y H Q => ∃ (a b : Addr) (xs : List V), x = .ref a ∧ y = .ref b ∧ SqT K H a xs ∧ SqT K H b [] ∧ Q (.bl xs.isEmpty) H
theorem op_eqT0 (hu : X.A.units + 64 < cLine) : OpR X (compareOp .Eq) (rEq0 X.K) := by
  intro pins s σ H x y v u Q I rx ry h
  obtain ⟨a, b, xs, rfl, rfl, ha, hb, q⟩ := h
  cases rx
  cases ry
  obtain ⟨its, r, pl, _⟩ := I.tuple ha
  obtain ⟨its2, r2, pl2, _⟩ := I.tuple hb
  cases r2
  refine SeqAt.eq_tupleAt (e := fun _ => true) pl pl2 (by omega) (fun j h1 h2 => by simp at h2) ⟨.bl _, H, I, rfl, ?_⟩
  have e : ((List.range (min its.toArray.size ([] : List Value).toArray.size)).all (fun _ => true) && its.toArray.size == ([] : List Value).toArray.size) = xs.isEmpty := by
    rw [List.size_toArray, ← r.length]
    cases xs <;> simp
  rw [e]
  exact q
/-- a value in a tuple of texts -/
def rInTx (K : PySem.W.Frag) : R2 := fun x y H Q => ∃ (p : Addr) (ks : List Str), y = .ref p ∧ SqT K H p (ks.map V.str) ∧ ((flatV x = true ∧ Q (.bl (inV x (ks.map V.str))) H) ∨ ∃ a, x = .ref a ∧ ((∃ us, SqL K H a us) ∨ (∃ us, SqT K H a us) ∨ ∃ m, H a = some (.dK m)) ∧ Q (.bl false) H)
theorem op_inTx (hu : X.A.units + 65 < cLine) : OpR X (compareOp .In) (rInTx X.K) := by
  intro pins s σ H x y v u Q I rx ry h
  obtain ⟨p, ks, rfl, hp, h⟩ := h
  rcases h with ⟨fx, q⟩ | ⟨a, rfl, ha, q⟩
  · exact op_in_seq pins s σ H x _ v u Q I rx ry ⟨p, _, rfl, .inr hp, fx, List.all_eq_true.mpr fun z hz => by
      obtain ⟨k, _, rfl⟩ := List.mem_map.mp hz
      rfl, q⟩
  · cases rx
    cases ry
    obtain ⟨its, r, pl, hz⟩ := I.tuple hp
    have hu1 : X.A.in1.units < cLine := by
      show X.A.units + 1 < cLine
      omega
    refine SeqAt.in_tupleAt (fun _ => false) pl (fun w hw => ?_) ⟨.bl _, H, I, rfl, ?_⟩
    · have hw' : w ∈ its := by simpa using hw
      obtain ⟨k, t, rfl⟩ : ∃ k t, w = Value.str k t := by
        have : ∀ {ks : List Str} {us : List Value}, Vals (ks.map V.str) us → ∀ u ∈ us, ∃ k t, u = Value.str k t := by
          intro ks us hv
          induction ks generalizing us with
          | nil => cases hv; intro u hu; cases hu
          | cons k ks ih =>
            cases hv with
            | cons r1 r2 =>
              obtain ⟨t, rfl⟩ := r1
              intro u hu
              rcases List.mem_cons.mp hu with rfl | hu
              · exact ⟨k, t, rfl⟩
              · exact ih r2 u hu
        exact this r w hw'
      rcases ha with ⟨us, ha⟩ | ⟨us, ha⟩ | ⟨m, ha⟩
      · obtain ⟨its2, _, pl2, _⟩ := I.list ha
        exact SeqAt.EqAt.str_list k t pl2.isList hu1
      · obtain ⟨its2, _, pl2, _⟩ := I.tuple ha
        exact SeqAt.EqAt.str_tuple k t pl2 hu1
      · obtain ⟨_, _, vs, _, o, es, ep, ho, hc, hd, _⟩ := (show ObjOk X.prog X.w H s.heap a (.dK m) from I.hok a _ ha)
        obtain ⟨cls, dd, data, sl⟩ := o
        have hc1 := hc.1
        simp only at hc1 hd
        subst hc1 hd
        exact SeqAt.EqAt.str_dict k t ho hu1
    · have e : its.toArray.any (fun _ => false) = false := by simp
      rw [e]
      exact q
end
end L2


/-! a tuple backwards -/
namespace L2
open PySem PySem.Spec PyProof.Rows HT
section
variable {prog : Program} {w : World} {A : Around} {E : Value → Shared → Prop} {s : Shared}
theorem adjust_rev (n : Nat) : Builtin.Slice.sliceAdjust none none (-1) (n : Int) = ((n : Int) - 1, -1) := by
  unfold Builtin.Slice.sliceAdjust
  simp
theorem places_rev (n : Nat) : Builtin.Slice.slicePlaces ((n : Int) - 1) (-1) (-1) = n := by
  unfold Builtin.Slice.slicePlaces
  have h1 : ¬ ((-1 : Int) > 0) := by omega
  simp only [h1, if_false]
  by_cases h : (n : Int) - 1 > -1
  · rw [if_pos h]
    have : (n : Int) - 1 - -1 - 1 = (n : Int) - 1 := by omega
    rw [this, show -(-1 : Int) = 1 by decide, Int.ediv_one]
    omega
  · rw [if_neg h]
    omega
theorem sliceApplied_rev {sl : Addr} {u : Tok} {n : Nat} {Q : Int × Int × Nat → Shared → Prop} (hs : s.heap.IsSliceOf sl .none .none (.int (-1) u))
    (h : Q ((n : Int) - 1, -1, n) s) : wpAny (model prog w) A (Builtin.Slice.sliceApplied (.ref sl) (pure (n : Int))) Q E s := by
  obtain ⟨os, hos, hcs, hds⟩ := id hs
  unfold Builtin.Slice.sliceApplied Builtin.Slice.sliceFields
  refine wpAny_bind (wpAny_bind (wpAny_field hos hds (x := .none) rfl (wpAny_bind (wpAny_field hos hds (x := .none) rfl (wpAny_bind (wpAny_field hos hds (x := .int (-1) u) rfl (wpAny_pure ?_)))))))
  refine wpAny_bind (slicePart_int ?_)
  show wpAny _ _ (if ((-1 : Int) == 0) = true then _ else _) _ _ s
  rw [if_neg (by decide)]
  refine wpAny_bind (slicePart_none (wpAny_bind (slicePart_none (wpAny_bind (wpAny_pure ?_)))))
  show wpAny _ _ (match Builtin.Slice.sliceAdjust none none (-1) (n : Int) with | (lo, hi) => pure (lo, (-1 : Int), Builtin.Slice.slicePlaces lo hi (-1))) _ _ s
  rw [adjust_rev]
  show wpAny _ _ (pure (((n : Int) - 1), (-1 : Int), Builtin.Slice.slicePlaces ((n : Int) - 1) (-1) (-1))) _ _ s
  rw [places_rev]
  exact wpAny_pure h
theorem fm_congr {α β : Type} {f g : α → Option β} : ∀ {l : List α}, (∀ x ∈ l, f x = g x) → l.filterMap f = l.filterMap g
  | [], _ => rfl
  | a :: l, h => by
    rw [List.filterMap_cons, List.filterMap_cons, h a List.mem_cons_self, fm_congr fun x hx => h x (List.mem_cons_of_mem _ hx)]
theorem pick_rev (xs : Array Value) : ((List.range xs.size).filterMap fun (m : Nat) => xs[((xs.size : Int) - 1 + (m : Int) * -1).toNat]?).toArray = xs.toList.reverse.toArray := by
  congr 1
  have e : (List.range xs.size).filterMap (fun (m : Nat) => xs[((xs.size : Int) - 1 + (m : Int) * -1).toNat]?) = (List.range xs.size).filterMap (fun m => xs.toList.reverse[m]?) := by
    refine fm_congr fun m hm => ?_
    rw [List.mem_range] at hm
    rw [List.getElem?_reverse (by simpa using hm)]
    have : ((xs.size : Int) - 1 + (m : Int) * -1).toNat = xs.toList.length - 1 - m := by
      rw [Array.length_toList]
      omega
    rw [this, Array.getElem?_toList]
  rw [e]
  have z : ∀ l : List Value, (List.range l.length).filterMap (fun m => l[m]?) = l := by
    intro l
    have := List.filterMap_map (f := fun m => l[m]?) (g := id) (l := List.range l.length)
    refine List.ext_getElem? fun i => ?_
    have h2 : (List.range l.length).filterMap (fun m => l[m]?) = (List.range l.length).filterMap (fun m => some (l.getD m .none)) := by
      refine fm_congr fun m hm => ?_
      rw [List.mem_range] at hm
      simp [hm]
    rw [h2, List.filterMap_eq_map']
    rw [List.getElem?_map]
    by_cases hi : i < l.length
    · rw [List.getElem?_range hi]
      simp [hi]
    · rw [List.getElem?_eq_none (by simpa using hi), List.getElem?_eq_none (by omega)]
      rfl
  have := z xs.toList.reverse
  rw [List.length_reverse, Array.length_toList] at this
  exact this
theorem getItem_tuple_rev {t sl : Addr} {items : Array Value} {u : Tok} {Q : Value → Shared → Prop} (ht : IsTup s.heap t items) (hs : s.heap.IsSliceOf sl .none .none (.int (-1) u))
    (h : Q (.ref s.heap.objs.size) { s with heap := s.heap.push { cls := .type "tuple", data := .seq items.toList.reverse.toArray } })
    (hsz : items.size ≤ sizeLine) : wpAny (model prog w) A (getItem (.ref t) (.ref sl)) Q E s := by
  have htake : sizeOk (.seq items.toList.reverse.toArray) := by
    show items.toList.reverse.toArray.size ≤ sizeLine
    rw [List.size_toArray, List.length_reverse, Array.length_toList]
    exact hsz
  obtain ⟨os, hos, hcs, hds⟩ := id hs
  have hTs : s.TypeIs (.ref sl) "slice" := ⟨os, hos, hcs⟩
  unfold getItem
  try with_reducible refine wpAny_holding ?_
  first | refine wpAny_bind (wpAny_pure ?_) | skip
  refine wpAny_bind (wpAny_sequenceKey ht.typeIs (by decide) ?_)
  refine wpAny_bind (wpAny_callSpecial?_slot (name := Str.ofString "__getitem__") ht.typeIs PyProof.Rows.slot_tuple_getitem
    (wpAny_call_entry PyProof.Rows.slot_tuple_getitem ht.typeIs entry_tuple_getitem ?_ (args_tuple_getitem _ _)))
  show wpAny _ _ (Builtin.Tuple.tupleItemsOf (.ref t) >>= _) _ _ s
  refine wpAny_bind (tupleItemsOf_ ht ?_)
  refine wpAny_bind (wpAny_typeOf hTs ?_)
  rw [if_pos (by decide)]
  refine wpAny_bind (sliceApplied_rev hs ?_)
  have hno : ¬ ((((items.size : Int) - 1) == 0 && (-1 : Int) == 1 && items.size == items.size) = true) := by
    intro q
    rw [Bool.and_eq_true, Bool.and_eq_true] at q
    exact absurd (eq_of_beq q.1.2) (by decide)
  show wpAny _ _ (if (((items.size : Int) - 1) == 0 && (-1 : Int) == 1 && items.size == items.size) = true then _ else _) _ _ s
  rw [if_neg hno, pick_rev]
  first
    | exact wpAny_bind (m := Builtin.Tuple.tupleExact _) (wpAny_newObj_type (wpAny_pure ⟨_, rfl, wpAny_pure h⟩) htake)
    | exact wpAny_bind (m := Builtin.Tuple.tupleExact _) (wpAny_newObj_type (wpAny_bind (wpAny_pure (wpAny_pure ⟨_, rfl, wpAny_pure h⟩))) htake)
    | exact wpAny_bind (wpAny_bind (m := Builtin.Tuple.tupleExact _) (wpAny_newObj_type (wpAny_pure (wpAny_pure ⟨_, rfl, wpAny_pure h⟩)) htake))
    | exact wpAny_bind (wpAny_bind (m := Builtin.Tuple.tupleExact _) (wpAny_newObj_type (wpAny_pure ⟨_, rfl, wpAny_pure h⟩) htake))
end
section
variable {X : Cx}
def tRevT (K : PySem.W.Frag) (te : TE) : TE := fun σ H Q => te σ H fun x H1 => ∃ a xs, x = .ref a ∧ SqT K H1 a xs ∧ ∀ p, H1 p = none → Q (.ref p) (upd H1 p (.tup xs.reverse))
theorem pe_revT {e : Expr} {te : TE} {k : Nat} {p1 p2 p3 pos : Pos} (he : PE X e te) : PE X (.Subscript e (.Slice none none (some (.UnaryOp .USub (.Constant (.int 1) k p1) p2)) p3) pos) (tRevT X.K te) := by
  refine ⟨fun pins s σ H Q I h => ?_⟩
  refine Subscript_ (thn (he.run pins s σ H _ I h) fun v s1 ⟨x, H1, I1, r1, q1⟩ => ?_)
  obtain ⟨a, xs, ex, hx, q⟩ := q1
  subst ex
  cases r1
  have hst : PO X (some (.UnaryOp .USub (.Constant (.int 1) k p1) p2)) (tPart (tUn (rU fun i => .int (-i)) (tC (.int 1)))) := po_some (pe_un un_neg pe_int)
  refine wpAny_Slice (thn (po_none.run pins s1 σ H1 (fun o H2 => o = none ∧ H2 = H1) I1 ⟨rfl, rfl⟩) fun vl s2 ⟨l, H2, I2, pl, el, e2⟩ => ?_)
  subst el e2
  refine thn (po_none.run pins s2 σ H2 (fun o H3 => o = none ∧ H3 = H2) I2 ⟨rfl, rfl⟩) fun vu s3 ⟨u, H3, I3, pu, eu, e3⟩ => ?_
  subst eu e3
  refine thn (hst.run pins s3 σ H3 (fun o H4 => o = some (-1) ∧ H4 = H3) I3 ⟨1, rfl, -1, rfl, rfl, rfl⟩) fun vs s4 ⟨o, H4, I4, ps, eo, e4⟩ => ?_
  subst eo e4
  have I5 : Inv X pins σ H4 { s4 with heap := s4.heap.push { cls := .type "slice", data := .fields #[vl, vu, vs] } } := I4.kept (t' := s4.toks) fun b ob q => Heap.get?_push_of_some _ q
  obtain ⟨its, r, ht, hz⟩ := I5.tuple hx
  have hlen := r.length
  cases pl
  cases pu
  cases ps
  show wpAny (model X.prog X.w) X.A (subscriptTail e (.Slice none none (some (.UnaryOp .USub (.Constant (.int 1) k p1) p2)) p3) (.ref a) (.ref s4.heap.objs.size)) (EP X pins σ Q) X.xe _
  refine tail_any (ops := [.ref a, .ref s4.heap.objs.size]) ht.typeIs (PyProof.Rows.slot_tuple_getitem.lookup) ?_ (by with_unfolding_all rfl)
  refine getItem_tuple_rev ht (Heap.IsSliceOf.new _ _ _ _) ?_ (by rw [List.size_toArray]; omega)
  refine ⟨.ref _, _, I5.laid (t' := s4.toks) (o := .tup xs.reverse) (fun b ob q => Heap.get?_push_of_some _ q) (Nat.le_refl _) ?_, rfl, q _ (I5.hok.fresh (Nat.le_refl _))⟩
  exact ⟨by rw [List.length_reverse]; exact hz, _, r.reverse, IsTup.new _ _⟩
end
end L2


namespace Toy
open PySem L2
section
variable {P : Program} {w : World} {A : Around} {E : Value → Shared → Prop} {s : Shared}
theorem dictPut_pairs {d : Addr} {kvs : List (Key × Value)} {k : Key} {key v : Value} {Q : Unit → Shared → Prop} (hkey : (mixKind P w).is k key = true) (hm : s.heap.DictOf (mixKind P w) d kvs)
    (hQ : ∀ h', h'.DictOf (mixKind P w) d (stored kvs k v) → Heap.SameBut d s.heap h' → Q () { s with heap := h' })
    (hsz : kvs.length ≤ sizeLine) :
    wpAny (model P w) A (dictPut d ((mixKind P w).hash k) key v) Q E s := by
  obtain ⟨o, es, ep, ho, hc, hd, hk, hp, hn⟩ := hm
  have hes : es.size ≤ sizeLine := by
    have e1 := hp.length
    have e2 : es.toList.length = es.size := by simp
    omega
  unfold dictPut
  refine wpAny_bind (wpAny_dictFind_of hkey ho hd hk ?_)
  have hidx : (es.findIdx? fun e => (mixKind P w).is k e.key) = kvs.findIdx? fun kv => decide (kv.1 = k) := by
    rw [← hp.findIdx k]; obtain ⟨l⟩ := es; simp
  cases hi : es.findIdx? fun e => (mixKind P w).is k e.key with
  | some i =>
    refine wpAny_updateDict ho hd (hQ _ ⟨_, _, ep, Heap.get?_update_self _ ho (Obj.isFreed_of_dict (Obj.data_mapDict hd _)),
      hc.mapDict _, Obj.data_mapDict hd _, hk.modify _ _, ?_, ?_⟩ (Heap.SameBut.update ..))
    · rw [stored, if_pos (any_of_findIdx_some (hidx ▸ hi))]
      have hl : (es.toList.findIdx? fun e => (mixKind P w).is k e.key) = some i := by rw [← hi]; obtain ⟨l⟩ := es; simp
      have := hp.modify hn hl v
      obtain ⟨l⟩ := es
      simpa using this
    · rw [stored, if_pos (any_of_findIdx_some (hidx ▸ hi)), keys_map_store]; exact hn
  | none =>
    have hnot : k ∉ kvs.map (·.1) := not_mem_of_findIdx_none (hidx ▸ hi)
    have hany : ¬ (kvs.any fun kv => decide (kv.1 = k)) = true := by
      rw [List.any_eq_true]; rintro ⟨kv, hkv, he⟩
      exact hnot (List.mem_map.mpr ⟨kv, hkv, of_decide_eq_true he⟩)
    refine wpAny_updateDictKeys (hz := hes) ho hd (hQ _ ⟨_, _, ep + 1, Heap.get?_update_self _ ho (Obj.isFreed_of_dict (Obj.data_mapDictKeys hd _)),
      hc.mapDictKeys _, Obj.data_mapDictKeys hd _, hk.push hkey _, ?_, ?_⟩ (Heap.SameBut.update ..))
    · rw [stored, if_neg hany]
      have := hp.append hkey ((mixKind P w).hash k) v
      obtain ⟨l⟩ := es
      simpa using this
    · rw [stored, if_neg hany, List.map_append, List.nodup_append]
      refine ⟨hn, by simp, ?_⟩
      intro a ha b hb
      simp only [List.map_cons, List.map_nil, List.mem_singleton] at hb
      subst hb
      exact fun e => hnot (e ▸ ha)
theorem mergeMap {d o : Addr} {kvs more : List (Key × Value)} {Q : Unit → Shared → Prop} (hdo : d ≠ o) (hoS : (o == sysModules) = false)
    (hd : s.heap.DictOf (mixKind P w) d kvs) (ho : s.heap.DictOf (mixKind P w) o more)
    (hQ : ∀ h', h'.DictOf (mixKind P w) d (merged kvs more) → h'.DictOf (mixKind P w) o more → Heap.SameBut d s.heap h' → Q () { s with heap := h' })
    (hsz : kvs.length + more.length ≤ sizeLine) :
    wpAny (model P w) A (mergeMapping d (.ref o) false) Q E s := by
  obtain ⟨od, esd, epd, hod, hcd, hdd, hkd, hpd, hnd⟩ := id hd
  obtain ⟨oo, eso, epo, hoo, hco, hdo', hko, hpo, hno⟩ := id ho
  unfold mergeMapping
  have hlen : more.length = eso.size := by rw [← hpo.length]; simp
  refine wpAny_bind (wpAny_isInstance ho.typeIs isSubtype_dict_dict ?_)
  rw [if_pos rfl]
  refine wpAny_bind (wpAny_specialOf ho.typeIs F.slot_dict_iter.lookup (wpAny_bind (wpAny_pure ?_)))
  rw [beq_self_eq_true]
  dsimp only
  rw [if_neg (by rw [hoS]; exact Bool.false_ne_true)]
  have loop : wpAny (model P w) A (do
      let l ← dictEntries o
      let epoch ← dictEpoch o
      forIn (List.range l.size) PUnit.unit fun i (_ : PUnit) => (do
          let l' ← dictEntries o
          match l'[i]? with
            | some e => do
              holding [e.key, e.val] (dictPut d e.hash e.key e.val)
              let ep' ← dictEpoch o
              if (ep' != epoch) = true then do
                  (unsupported "dict.changed-during-merge" : Sem PUnit)
                  pure (ForInStep.yield PUnit.unit)
                else pure (ForInStep.yield PUnit.unit)
            | _ => do
              (unsupported "dict.changed-during-merge" : Sem PUnit)
              pure (ForInStep.yield PUnit.unit) : Sem (ForInStep PUnit))
      pure ()) Q E s := by
    refine wpAny_bind (wpAny_dictEntries hoo hdo' ?_)
    refine wpAny_bind (wpAny_dictEpoch hoo hdo' ?_)
    refine wpAny_bind ?_
    rw [List.range_eq_range']
    refine wpAny_forIn_list _
      (fun rest _ s' => ∃ h' i, s' = { s with heap := h' } ∧ rest = List.range' i (eso.size - i) ∧ i ≤ eso.size ∧ h'.DictOf (mixKind P w) d (merged kvs (more.take i)) ∧ h'.get? o = some oo ∧ Heap.SameBut d s.heap h')
      _ ?_ ?_ _ _ ⟨s.heap, 0, rfl, by simp, Nat.zero_le _, by simpa [merged] using hd, hoo, Heap.SameBut.refl _ _⟩
    · rintro x rest b s' ⟨h', i, rfl, hr, hi, hd', hoo', hs'⟩
      have hlt : i < eso.size := by
        rcases Nat.lt_or_ge i eso.size with h | h
        · exact h
        · rw [Nat.sub_eq_zero_of_le h] at hr; simp at hr
      obtain ⟨rfl, hrest⟩ : x = i ∧ rest = List.range' (i + 1) (eso.size - (i + 1)) := by
        have e : eso.size - i = (eso.size - (i + 1)) + 1 := by omega
        rw [e, List.range'_succ] at hr
        injection hr with h1 h2
        exact ⟨h1, h2⟩
      refine wpAny_bind (wpAny_dictEntries hoo' hdo' ?_)
      rw [Array.getElem?_eq_getElem hlt]
      obtain ⟨kv, hkv⟩ : ∃ kv, more[x]? = some kv := ⟨more[x]'(by rw [hlen]; exact hlt), List.getElem?_eq_getElem _⟩
      obtain ⟨k, v⟩ := kv
      obtain ⟨hkey, hval⟩ := hpo.get? (e := eso[x]) (by simp [hlt]) hkv
      obtain ⟨k', hkey', hhash⟩ := hko eso[x] (Array.getElem_mem hlt)
      obtain rfl : k' = k := (mixKind P w).inj _ _ _ hkey' hkey
      show wpAny _ _ (holding [eso[x].key, eso[x].val] (dictPut d eso[x].hash eso[x].key eso[x].val) >>= _) _ _ _
      rw [hhash, hval]
      have hmx : (merged kvs (more.take x)).length ≤ sizeLine := by
        have e1 := merged_length_le kvs (more.take x)
        have e2 : (more.take x).length ≤ more.length := by rw [List.length_take]; omega
        omega
      refine wpAny_bind (wpAny_holding (dictPut_pairs (hsz := hmx) hkey hd' fun h'' hd'' hs'' => ?_))
      have hoo'' : h''.get? o = some oo := (hs''.2 o (Ne.symm hdo)).trans hoo'
      refine wpAny_bind (wpAny_dictEpoch hoo'' hdo' ?_)
      rw [if_neg (by simp)]
      exact wpAny_pure ⟨h'', x + 1, rfl, hrest, hlt, by rw [merged_take_succ kvs more x (k', v) hkv]; exact hd'', hoo'', hs'.trans hs''⟩
    · rintro b s' ⟨h', i, rfl, hr, hi, hd', hoo', hs'⟩
      have hin : i = eso.size := by
        rcases Nat.lt_or_ge i eso.size with h | h
        · have e : eso.size - i = (eso.size - (i + 1)) + 1 := by omega
          rw [e, List.range'_succ] at hr; exact nomatch hr
        · exact Nat.le_antisymm hi h
      refine wpAny_pure (hQ h' ?_ ⟨oo, eso, epo, hoo', hco, hdo', hko, hpo, hno⟩ hs')
      rw [hin, ← hlen, List.take_length] at hd'; exact hd'
  refine wpAny_bind (wpAny_dictEntries hod hdd ?_)
  split
  · refine wpAny_bind (wpAny_dictEntries hoo hdo' ?_)
    refine wpAny_bind ?_
    rw [← Array.forIn_toList]
    refine wpAny_forIn_list _ (fun rest _ s' => s' = s ∧ ∀ e ∈ rest, e ∈ eso.toList) _ ?_ ?_ _ _ ⟨rfl, fun _ h => h⟩
    · rintro x rest b s' ⟨rfl, hr⟩
      obtain ⟨k', hkey', _⟩ := hko x (Array.mem_toList_iff.mp (hr x List.mem_cons_self))
      rcases keyIs_shape hkey' with ⟨i, t, e1, e⟩ | ⟨y, t, e1, e⟩
      · rw [e]
        exact wpAny_pure ⟨rfl, fun e he => hr e (List.mem_cons_of_mem _ he)⟩
      · rw [e]
        exact wpAny_pure ⟨rfl, fun e he => hr e (List.mem_cons_of_mem _ he)⟩
    · rintro b s' ⟨rfl, _⟩
      exact loop
  · exact loop
end
end Toy


namespace Toy
open PySem PySem.Spec L2 PyProof.Rows PySem.W
section

theorem asg_run {te : TE} {g : TG} {rest : TS} {D : Ends} {σ : L2.St} {H : Hp} (h : te σ H fun x H1 => g x σ H1 fun σ2 H2 => rest D σ2 H2) : tSeq (tAsg te g) rest D σ H := h
end
end Toy
namespace Toy
open PySem PySem.Spec L2 PyProof.Rows PySem.W
section

theorem ret_run {te : TE} {D : Ends} {σ : L2.St} {H : Hp} (h : te σ H D.rt) : tRet te D σ H := h
end
end Toy
namespace Toy
open PySem PySem.Spec L2 PyProof.Rows PySem.W
section

def isTup : Dt → Bool
  | .tup _ => true
  | _ => false
end
end Toy
namespace Toy
open PySem PySem.Spec L2 PyProof.Rows PySem.W
section

def isStr : Dt → Bool
  | .str _ => true
  | _ => false
end
end Toy
namespace Toy
open PySem PySem.Spec L2 PyProof.Rows PySem.W
section

def isBl : Dt → Bool
  | .bl _ => true
  | _ => false
end
end Toy
namespace Toy
open PySem PySem.Spec L2 PyProof.Rows PySem.W
section

def isInt : Dt → Bool
  | .int _ => true
  | .bl _ => true
  | _ => false
end
end Toy
namespace Toy
open PySem PySem.Spec L2 PyProof.Rows PySem.W
section

theorem tyT {K : PySem.W.Frag} {H : Hp} {a : Addr} {xs : List V} (h : SqT K H a xs) : TyX K H (.ref a) (.type "tuple") := by
  rcases h with (h | ⟨o, h⟩) | ⟨o, its, n, hk, hc, _⟩
  · exact .base (.tup h)
  · exact .fTuple h
  · exact .kTuple hk hc
end
end Toy
namespace Toy
open PySem PySem.Spec L2 PyProof.Rows PySem.W
section
variable {K : PySem.W.Frag} {H : Hp} {v : V} {t : Dt} {Q : VK}
theorem isi_tup (h : Dv K H v t) (q : Q (.bl (isTup t)) H) : rIsi K [v, .ty "tuple"] H Q := by
  cases h with
  | non => exact ⟨_, _, _, _, _, rfl, .ty _, .base .non, kit_ty (r := false) (by decide +kernel), q⟩
  | bl b => exact ⟨_, _, _, _, _, rfl, .ty _, .base (.bl b), kit_ty (r := false) (by decide +kernel), q⟩
  | int i => exact ⟨_, _, _, _, _, rfl, .ty _, .base (.int i), kit_ty (r := false) (by decide +kernel), q⟩
  | str x => exact ⟨_, _, _, _, _, rfl, .ty _, .base (.str x), kit_ty (r := false) (by decide +kernel), q⟩
  | tup hs _ => exact ⟨_, _, _, _, _, rfl, .ty _, tyT hs, kit_ty (r := true) (by decide +kernel), q⟩
  | lst hs => exact ⟨_, _, _, _, _, rfl, .ty _, .base (.lst hs), kit_ty (r := false) (by decide +kernel), q⟩
  | dct hs => exact ⟨_, _, _, _, _, rfl, .ty _, .base (.dK hs), kit_ty (r := false) (by decide +kernel), q⟩
end
end Toy
namespace Toy
open PySem PySem.Spec L2 PyProof.Rows PySem.W
section
variable {K : PySem.W.Frag} {H : Hp} {v : V} {t : Dt} {Q : VK}
theorem isi_str (h : Dv K H v t) (q : Q (.bl (isStr t)) H) : rIsi K [v, .ty "str"] H Q := by
  cases h with
  | non => exact ⟨_, _, _, _, _, rfl, .ty _, .base .non, kit_ty (r := false) (by decide +kernel), q⟩
  | bl b => exact ⟨_, _, _, _, _, rfl, .ty _, .base (.bl b), kit_ty (r := false) (by decide +kernel), q⟩
  | int i => exact ⟨_, _, _, _, _, rfl, .ty _, .base (.int i), kit_ty (r := false) (by decide +kernel), q⟩
  | str x => exact ⟨_, _, _, _, _, rfl, .ty _, .base (.str x), kit_ty (r := true) (by decide +kernel), q⟩
  | tup hs _ => exact ⟨_, _, _, _, _, rfl, .ty _, tyT hs, kit_ty (r := false) (by decide +kernel), q⟩
  | lst hs => exact ⟨_, _, _, _, _, rfl, .ty _, .base (.lst hs), kit_ty (r := false) (by decide +kernel), q⟩
  | dct hs => exact ⟨_, _, _, _, _, rfl, .ty _, .base (.dK hs), kit_ty (r := false) (by decide +kernel), q⟩
end
end Toy
namespace Toy
open PySem PySem.Spec L2 PyProof.Rows PySem.W
section
variable {K : PySem.W.Frag} {H : Hp} {v : V} {t : Dt} {Q : VK}
theorem isi_int (h : Dv K H v t) (q : Q (.bl (isInt t)) H) : rIsi K [v, .ty "int"] H Q := by
  cases h with
  | non => exact ⟨_, _, _, _, _, rfl, .ty _, .base .non, kit_ty (r := false) (by decide +kernel), q⟩
  | bl b => exact ⟨_, _, _, _, _, rfl, .ty _, .base (.bl b), kit_ty (r := true) (by decide +kernel), q⟩
  | int i => exact ⟨_, _, _, _, _, rfl, .ty _, .base (.int i), kit_ty (r := true) (by decide +kernel), q⟩
  | str x => exact ⟨_, _, _, _, _, rfl, .ty _, .base (.str x), kit_ty (r := false) (by decide +kernel), q⟩
  | tup hs _ => exact ⟨_, _, _, _, _, rfl, .ty _, tyT hs, kit_ty (r := false) (by decide +kernel), q⟩
  | lst hs => exact ⟨_, _, _, _, _, rfl, .ty _, .base (.lst hs), kit_ty (r := false) (by decide +kernel), q⟩
  | dct hs => exact ⟨_, _, _, _, _, rfl, .ty _, .base (.dK hs), kit_ty (r := false) (by decide +kernel), q⟩
end
end Toy
namespace Toy
open PySem PySem.Spec L2 PyProof.Rows PySem.W
section
variable {K : PySem.W.Frag} {H : Hp} {v : V} {t : Dt} {Q : VK}
theorem isi_bl (h : Dv K H v t) (q : Q (.bl (isBl t)) H) : rIsi K [v, .ty "bool"] H Q := by
  cases h with
  | non => exact ⟨_, _, _, _, _, rfl, .ty _, .base .non, kit_ty (r := false) (by decide +kernel), q⟩
  | bl b => exact ⟨_, _, _, _, _, rfl, .ty _, .base (.bl b), kit_ty (r := true) (by decide +kernel), q⟩
  | int i => exact ⟨_, _, _, _, _, rfl, .ty _, .base (.int i), kit_ty (r := false) (by decide +kernel), q⟩
  | str x => exact ⟨_, _, _, _, _, rfl, .ty _, .base (.str x), kit_ty (r := false) (by decide +kernel), q⟩
  | tup hs _ => exact ⟨_, _, _, _, _, rfl, .ty _, tyT hs, kit_ty (r := false) (by decide +kernel), q⟩
  | lst hs => exact ⟨_, _, _, _, _, rfl, .ty _, .base (.lst hs), kit_ty (r := false) (by decide +kernel), q⟩
  | dct hs => exact ⟨_, _, _, _, _, rfl, .ty _, .base (.dK hs), kit_ty (r := false) (by decide +kernel), q⟩
end
end Toy
namespace Toy
open PySem PySem.Spec L2 PyProof.Rows PySem.W
section
variable {K : PySem.W.Frag} {H : Hp} {v : V} {t : Dt} {Q : VK}
theorem isT {σ : L2.St} (h : Dv K H v t) (q : Q (.bl (isTup t)) H) : tCons (tC (.ty "tuple")) tNil σ H (fun xs H2 => rIsi K (v :: xs) H2 Q) := isi_tup h q
end
end Toy
namespace Toy
open PySem PySem.Spec L2 PyProof.Rows PySem.W
section
variable {K : PySem.W.Frag} {H : Hp} {v : V} {t : Dt} {Q : VK}
theorem isS {σ : L2.St} (h : Dv K H v t) (q : Q (.bl (isStr t)) H) : tCons (tC (.ty "str")) tNil σ H (fun xs H2 => rIsi K (v :: xs) H2 Q) := isi_str h q
end
end Toy
namespace Toy
open PySem PySem.Spec L2 PyProof.Rows PySem.W
section
variable {K : PySem.W.Frag} {H : Hp} {v : V} {t : Dt} {Q : VK}
theorem isI {σ : L2.St} (h : Dv K H v t) (q : Q (.bl (isInt t)) H) : tCons (tC (.ty "int")) tNil σ H (fun xs H2 => rIsi K (v :: xs) H2 Q) := isi_int h q
end
end Toy
namespace Toy
open PySem PySem.Spec L2 PyProof.Rows PySem.W
section
variable {K : PySem.W.Frag} {H : Hp} {v : V} {t : Dt} {Q : VK}
theorem isB {σ : L2.St} (h : Dv K H v t) (q : Q (.bl (isBl t)) H) : tCons (tC (.ty "bool")) tNil σ H (fun xs H2 => rIsi K (v :: xs) H2 Q) := isi_bl h q
end
end Toy
namespace Toy
open PySem PySem.Spec L2 PyProof.Rows PySem.W
section
variable {J : It} {n : Nat} {G : Hp → Prop} {Y : Nat → Hp → V → Hp → Prop} {g : TG} {tt : TT} {te : TE} {vs : List Nat} {σ : L2.St} {H1 : Hp} {D : Addr} {Qd : Hp → Prop}
theorem lc_map (w : Walk J n G Y) (f : Nat → V) (hn : n ≤ 900) (nD : H1 D = none) (hG : ∀ H, Same H1 H → G H) (hY : ∀ i H x H', Y i H x H' → H' = H)
    (hs : ∀ i x H (P1 : V → Hp → Prop), i < n → Same H1 H → Y i H x H → (∀ H2, Same H H2 → P1 (f i) H2) → g x (wipe σ vs) H fun σ2 H2 => wipe σ2 vs = wipe σ vs ∧ te σ2 H2 P1)
    (hd : ∀ H, Same H1 H → H D = some (.lst ((List.range n).map f)) → Qd H) :
    ∃ W : Nat → Nat → Hp → Prop, (∃ m, W 0 m (upd H1 D (.lst []))) ∧ ∀ i m H, W i m H →
      (J.stop i H ∧ Qd H) ∨ (J.go i H ∧ ∃ Nx : Hp → Prop, (∀ H', Nx H' → ∃ m', m' < m ∧ W (i + 1) m' H') ∧ ∀ x H', J.yld i H x H' → g x (wipe σ vs) H' fun σ2 H2 => wipe σ2 vs = wipe σ vs ∧ tYes σ2 H2 fun b H3 =>
        if b = true then te σ2 H3 fun y H4 => ∃ acc, H4 D = some (.lst acc) ∧ acc.length < sizeLine ∧ Nx (upd H4 D (.lst (acc ++ [y]))) else Nx H3) := by
  refine lc_it w (fun i H => Same H1 H ∧ H D = some (.lst ((List.range i).map f))) ⟨same_new same_id nD, upd_same⟩ (fun i H _ p => hG H p.1) ?_ ?_
  · rintro i x H H' hi ⟨s1, hD⟩ y
    have e := hY _ _ _ _ y
    subst e
    refine hs i x H' _ hi s1 y fun H2 s2 => ⟨_, s2 _ _ hD, small1000 (by rw [List.length_map, List.length_range]; omega), same_put (s1.trans s2) nD, ?_⟩
    rw [upd_same, List.range_succ, List.map_append]
    rfl
  · rintro H ⟨s1, hD⟩
    exact hd H s1 hD
end
end Toy
namespace Toy
open PySem PySem.Spec L2 PyProof.Rows PySem.W
section

theorem yAt_same {xs : List V} : ∀ i H x H', YAt xs i H x H' → H' = H := fun _ _ _ _ y => y.1
end
end Toy
namespace Toy
open PySem PySem.Spec L2 PyProof.Rows PySem.W
section

def lower (c : Nat) : Bool := decide (97 ≤ c) && decide (c ≤ 122)
end
end Toy
namespace Toy
open PySem PySem.Spec L2 PyProof.Rows PySem.W
section

def shown (c : Nat) : Bool := decide (32 ≤ c) && decide (c ≤ 126)
end
end Toy
namespace Toy
open PySem PySem.Spec L2 PyProof.Rows PySem.W
section

def wordS (x : Str) : Bool := (decide (1 ≤ x.length) && decide (x.length ≤ 8)) && x.cps.toList.all lower
end
end Toy
namespace Toy
open PySem PySem.Spec L2 PyProof.Rows PySem.W
section

def wordsL : List Str := ["null", "yes", "no", "each", "none", "fail", "try", "other", "if", "then", "else", "end", "when", "as", "catch", "reduce", "first", "take", "fails", "def", "in", "change", "drop", "places", "add", "append", "is", "equal", "at", "and", "or", "not"]
end
end Toy
namespace Toy
open PySem PySem.Spec L2 PyProof.Rows PySem.W
section

def sortsL : List Str := ["null", "no", "yes", "number", "text", "list", "dict"]
end
end Toy
namespace Toy
open PySem PySem.Spec L2 PyProof.Rows PySem.W
section

def wordD : Dt → Bool
  | .str x => wordS x
  | _ => false
end
end Toy
namespace Toy
open PySem PySem.Spec L2 PyProof.Rows PySem.W
section

def freeD : Dt → Bool
  | .str x => wordS x && !decide (x ∈ wordsL)
  | _ => false
end
end Toy
namespace Toy
open PySem PySem.Spec L2 PyProof.Rows PySem.W
section

def leafD : Dt → Bool
  | .non => true
  | .bl _ => true
  | .int i => decide (-(10 ^ 30) ≤ i) && decide (i ≤ 10 ^ 30)
  | .str x => decide (x.length ≤ 200) && x.cps.toList.all shown
  | _ => false
end
end Toy
namespace Toy
open PySem PySem.Spec L2 PyProof.Rows PySem.W
section

def wholeD : Dt → Bool
  | .int i => decide (0 ≤ i) && decide (i ≤ 99)
  | _ => false
end
end Toy
namespace Toy
open PySem PySem.Spec L2 PyProof.Rows PySem.W
section

def sortD : Dt → Bool
  | .str x => decide (x ∈ sortsL)
  | _ => false
end
end Toy
namespace Toy
open PySem PySem.Spec L2 PyProof.Rows PySem.W
section

theorem all_range {α : Type} (xs : List α) (p : α → Bool) (f : Nat → Bool) (h : ∀ i (hi : i < xs.length), f i = p xs[i]) : (List.range xs.length).all f = xs.all p := by
  rw [Bool.eq_iff_iff, List.all_eq_true, List.all_eq_true]
  constructor
  · intro z x hx
    obtain ⟨i, hi, rfl⟩ := List.getElem_of_mem hx
    rw [← h i hi]
    exact z i (List.mem_range.mpr hi)
  · intro z i hi
    rw [List.mem_range] at hi
    rw [h i hi]
    exact z _ (List.getElem_mem hi)
end
end Toy
namespace Toy
open PySem PySem.Spec L2 PyProof.Rows PySem.W
section

def sg (x : Str) (i : Nat) : Nat := x.cps.toList.getD i 0
end
end Toy
namespace Toy
open PySem PySem.Spec L2 PyProof.Rows PySem.W
section

theorem sg_of {x : Str} {i c : Nat} (h : x.cps[i]? = some c) : sg x i = c := by
  unfold sg
  rw [List.getD_eq_getElem?_getD, Array.getElem?_toList, h]
  rfl
end
end Toy
namespace Toy
open PySem PySem.Spec L2 PyProof.Rows PySem.W
section

theorem all_sg (x : Str) (p : Nat → Bool) : ((List.range x.cps.size).all fun i => p (sg x i)) = x.cps.toList.all p := by
  have e : x.cps.size = x.cps.toList.length := by simp
  rw [e]
  refine all_range _ p _ fun i hi => ?_
  unfold sg
  rw [List.getD_eq_getElem?_getD, List.getElem?_eq_getElem hi]
  rfl
end
end Toy
namespace Toy
open PySem PySem.Spec L2 PyProof.Rows PySem.W
section

def spM (K : PySem.W.Frag) (m : Dt → Bool) : Sp := fun vs H Q _ => ∃ v t, vs = [v] ∧ Dv K H v t ∧ okd 300 t = true ∧ ∀ H', Same H H' → Q (.bl (m t)) H'
end
end Toy
namespace Toy
open PySem PySem.Spec L2 PyProof.Rows PySem.W
section

theorem lt1 (a c : Nat) : decide ([a] < [c]) = decide (a < c) := by
  refine decide_eq_decide.mpr ⟨fun h => ?_, fun h => .rel h⟩
  cases h with
  | rel h => exact h
  | cons h => cases h
end
end Toy
namespace Toy
open PySem PySem.Spec L2 PyProof.Rows PySem.W
section

theorem inV_strs (x : Str) : ∀ ks : List Str, inV (.str x) (ks.map V.str) = decide (x ∈ ks)
  | [] => by simp [inV]
  | k :: ks => by
    have ih := inV_strs x ks
    unfold inV at ih ⊢
    rw [List.map_cons, List.any_cons, ih]
    show ((k == x) || decide (x ∈ ks)) = _
    rw [Bool.eq_iff_iff, Bool.or_eq_true, beq_iff_eq, decide_eq_true_iff, decide_eq_true_iff, List.mem_cons]
    exact ⟨fun h => h.imp Eq.symm id, fun h => h.imp Eq.symm id⟩
end
end Toy
namespace Toy
open PySem PySem.Spec L2 PyProof.Rows PySem.W
section

theorem flat_strs (ks : List Str) : (ks.map V.str).all flatV = true := by
  rw [List.all_eq_true]
  intro v hv
  obtain ⟨k, _, rfl⟩ := List.mem_map.mp hv
  rfl
end
end Toy
namespace Toy
open PySem PySem.Spec L2 PyProof.Rows PySem.W
section

def slA : List (Str × Str) := [("same", ""), ("every", ""), ("none", ""), ("fail", ""), ("field", "k"), ("item", "i"), ("pipe", "ff"), ("both", "ff")]
end
end Toy
namespace Toy
open PySem PySem.Spec L2 PyProof.Rows PySem.W
section

def slB : List (Str × Str) := [("if", "tff"), ("try", "w"), ("other", "wf"), ("leaf", "x"), ("list", "f"), ("dict", "e"), ("sum", "ff"), ("less", "ff")]
end
end Toy
namespace Toy
open PySem PySem.Spec L2 PyProof.Rows PySem.W
section

def slC : List (Str × Str) := [("product", "ff"), ("alike", "ff"), ("before", "ff"), ("as", "fnf"), ("name", "n"), ("when", "fff"), ("catch", "ff")]
end
end Toy
namespace Toy
open PySem PySem.Spec L2 PyProof.Rows PySem.W
section

def slD : List (Str × Str) := [("reduce", "fnff"), ("first", "f"), ("take", "if"), ("fails", "f"), ("def", "npff"), ("call", "na"), ("places", "c")]
end
end Toy
namespace Toy
open PySem PySem.Spec L2 PyProof.Rows PySem.W
section

def slE : List (Str × Str) := [("change", "cf"), ("drop", "c"), ("add", "ckf"), ("append", "cf")]
end
end Toy
namespace Toy
open PySem PySem.Spec L2 PyProof.Rows PySem.W
section

def kvO (xs : List (Str × Str)) : List (Key × V) := xs.map fun p => (.inr p.1, .str p.2)
end
end Toy
namespace Toy
open PySem PySem.Spec L2 PyProof.Rows PySem.W
section

abbrev mA : List (Key × V) := mergeK [] (kvO slA)
end
end Toy
namespace Toy
open PySem PySem.Spec L2 PyProof.Rows PySem.W
section

abbrev mB : List (Key × V) := mergeK mA (mergeK [] (kvO slB))
end
end Toy
namespace Toy
open PySem PySem.Spec L2 PyProof.Rows PySem.W
section

abbrev mC : List (Key × V) := mergeK mB (mergeK [] (kvO slC))
end
end Toy
namespace Toy
open PySem PySem.Spec L2 PyProof.Rows PySem.W
section

abbrev mD : List (Key × V) := mergeK mC (mergeK [] (kvO slD))
end
end Toy
namespace Toy
open PySem PySem.Spec L2 PyProof.Rows PySem.W
section

abbrev mE : List (Key × V) := mergeK mD (mergeK [] (kvO slE))
end
end Toy
namespace Toy
open PySem PySem.Spec L2 PyProof.Rows PySem.W
section

def testsL : List Str := ["is", "equal", "at", "and", "or", "not"]
end
end Toy
namespace Toy
open PySem PySem.Spec L2 PyProof.Rows PySem.W
section

def walksL : List Str := ["same", "field", "item", "none", "fail", "pipe", "if"]
end
end Toy
namespace Toy
open PySem PySem.Spec L2 PyProof.Rows PySem.W
section

def keyD : Dt → Str
  | .tup (.str k :: _) => k
  | _ => Str.empty
end
end Toy
namespace Toy
open PySem PySem.Spec L2 PyProof.Rows PySem.W
section

def valD : Dt → Dt
  | .tup [_, g] => g
  | x => x
end
end Toy
namespace Toy
open PySem PySem.Spec L2 PyProof.Rows PySem.W
section

def entD : Dt → Bool
  | .tup [.str k, _] => wordS k
  | _ => false
end
end Toy
namespace Toy
open PySem PySem.Spec L2 PyProof.Rows PySem.W
section

def strOfD : Dt → Str
  | .str x => x
  | _ => Str.empty
end
end Toy
namespace Toy
open PySem PySem.Spec L2 PyProof.Rows PySem.W
section

def uniq (ks : List Str) : Bool := decide ks.Nodup
end
end Toy
namespace Toy
open PySem PySem.Spec L2 PyProof.Rows PySem.W
section

def entsD (l : List Dt) : Bool := l.all entD && uniq (l.map keyD)
end
end Toy
namespace Toy
open PySem PySem.Spec L2 PyProof.Rows PySem.W
section

theorem at_nat {xs : List V} {n : Nat} {v : V} (h : xs[n]? = some v) : atI xs (n : Int) = some v := atI_nat h
end
end Toy
namespace Toy
open PySem PySem.Spec L2 PyProof.Rows PySem.W
section

theorem cut_1 (a : V) (xs : List V) : cutV (a :: xs) (some 1) none = xs := by
  unfold cutV
  rw [show HT.sIx (a :: xs).length 0 (some 1) = min 1 (a :: xs).length from HT.sIx_nat _ _ 1, HT.sIx_none]
  rw [show min 1 (a :: xs).length = 1 by simp]
  simp
end
end Toy
namespace Toy
open PySem PySem.Spec L2 PyProof.Rows PySem.W
section

theorem nx_run {D : Ends} {σ : L2.St} {H : Hp} (h : D.nx σ H) : tNext D σ H := h
end
end Toy
namespace Toy
open PySem PySem.Spec L2 PyProof.Rows PySem.W
section

theorem at_0 (a : V) (xs : List V) : atI (a :: xs) 0 = some a := at_nat (n := 0) rfl
end
end Toy
namespace Toy
open PySem PySem.Spec L2 PyProof.Rows PySem.W
section
variable {P : Program} {w : World} {K : PySem.W.Frag} {mg : Str → Option Value} {base : Heap}
theorem okd_get {c : Nat} {l : List Dt} {i : Nat} {t : Dt} (h : okdL c l = true) (e : l[i]? = some t) : okd c t = true := by
  rw [okdL_all] at h
  exact List.all_eq_true.mp h t (List.mem_of_getElem? e)
end
end Toy
namespace Toy
open PySem PySem.Spec L2 PyProof.Rows PySem.W
section

theorem paired_get {α β : Type} {F : α → β → Prop} : ∀ {xs : List α} {ys : List β}, Paired F xs ys → ∀ {i : Nat} {y : β}, ys[i]? = some y → ∃ x, xs[i]? = some x ∧ F x y
  | _, _, .nil, i, y, h => by cases h
  | _, _, .cons r t, 0, y, h => by
    have e := Option.some.inj h
    subst e
    exact ⟨_, rfl, r⟩
  | _, _, .cons r t, i + 1, y, h => paired_get t h
end
end Toy


namespace Toy
open PySem PySem.Spec L2 PyProof.Rows PySem.W
/-! ### the program's words, leaves, keys -/
abbrev sIsInt : Stmt := top 5
abbrev sName : Stmt := top 6
abbrev sFree : Stmt := top 7
abbrev sLeafV : Stmt := top 13
abbrev sTxt : Stmt := top 14
abbrev sUnl : Stmt := top 36
abbrev sEnts : Stmt := top 35
def intD : Dt → Bool
  | .int _ => true
  | _ => false
def txtS (x : Str) : Bool := decide (x.length ≤ 200) && x.cps.toList.all shown
def spTxt : Sp := fun vs H Q _ => ∃ x : Str, vs = [.str x] ∧ okK x = true ∧ ∀ H', Same H H' → Q (.bl (txtS x)) H'
abbrev NTx : List Str := ["text", "codes", "letter", "code"]
/-- the texts that a written tuple holds -/
def TupK (K : PySem.W.Frag) (a : Addr) (xs : List Str) : Prop := ∀ H : Hp, SqT K H a (xs.map V.str)
theorem low_le (c : Nat) : (!decide ((⟨#[c]⟩ : Str).cps.toList < ("a" : Str).cps.toList)) = decide (97 ≤ c) := by
  show (!decide ([c] < [97])) = _
  rw [lt1, Bool.eq_iff_iff]
  simp
theorem low_ge (c : Nat) : (!decide (("z" : Str).cps.toList < (⟨#[c]⟩ : Str).cps.toList)) = decide (c ≤ 122) := by
  show (!decide ([122] < [c])) = _
  rw [lt1, Bool.eq_iff_iff]
  simp
theorem all_map_id {l : List Nat} {f : Nat → Bool} : (l.map f).all id = l.all f := by
  rw [List.all_map]
  rfl
section
variable {P : Program} {w : World} {K : PySem.W.Frag} {mg : Str → Option Value} {base : Heap}
theorem scNm : FnScope ["value", "letter"] ["value"] (defScope sName) := ⟨rfl, rfl, rfl, by decide +kernel, rfl, by decide +kernel, by decide +kernel⟩
theorem scV1 : FnScope ["value"] ["value"] (defScope sIsInt) := ⟨rfl, rfl, rfl, by decide +kernel, rfl, by decide +kernel, by decide +kernel⟩
theorem scV2 : FnScope ["value"] ["value"] (defScope sFree) := ⟨rfl, rfl, rfl, by decide +kernel, rfl, by decide +kernel, by decide +kernel⟩
theorem scV3 : FnScope ["value"] ["value"] (defScope sLeafV) := ⟨rfl, rfl, rfl, by decide +kernel, rfl, by decide +kernel, by decide +kernel⟩
theorem scTx : FnScope NTx ["text"] (defScope sTxt) := ⟨rfl, rfl, rfl, by decide +kernel, rfl, by decide +kernel, by decide +kernel⟩
theorem ok_isInt {f : Addr} {fd : FuncData} (F : Fun K "is_integer" "is_integer" sIsInt f fd) (mI : mg "isinstance" = none) (mB : mg "bool" = none) (mN : mg "int" = none) : FnOk P w K mg base CX0 1 f fd ["value"] (spM K intD) := by
  refine F.ok scV1 (fun vs H Q E h => ?_) (fun cdv A outer s H vs Q E hr h => ?_)
  · obtain ⟨v, t, rfl, _⟩ := h
    rfl
  · obtain ⟨v, t, rfl, hv, hok, q⟩ := h
    refine ⟨_, pss_one (ps_ret (pe_and (pe_callB call_isi (by rfl) mI PyProof.Rows.boot_isinstance (pa_cons (pv 0) (pa_cons (pe_bltn (v := .ty "int") (by rfl) mN (by decide +kernel) rfl) pa_nil))) (pe_one (pe_not (pe_callB call_isi (by rfl) mI PyProof.Rows.boot_isinstance (pa_cons (pv 0) (pa_cons (pe_bltn (v := .ty "bool") (by rfl) mB (by decide +kernel) rfl) pa_nil))))))), ?_⟩
    refine ⟨_, rfl, isI hv ⟨_, rfl, ?_⟩⟩
    cases hv with
    | int i => exact iteT ⟨_, rfl, isB (.int i) ⟨_, rfl, q H same_id⟩⟩
    | bl b => exact iteT ⟨_, rfl, isB (.bl b) ⟨_, rfl, q H same_id⟩⟩
    | str x => exact iteF (q H same_id)
    | non => exact iteF (q H same_id)
    | tup _ _ => exact iteF (q H same_id)
    | lst _ => exact iteF (q H same_id)
    | dct _ => exact iteF (q H same_id)
theorem ok_name {f : Addr} {fd : FuncData} {u8 : Value} (F : Fun K "is_name" "is_name" sName f fd) (m8 : mg "MOST_LETTERS_words" = some u8) (r8 : RelV (.int 8) u8) (mI : mg "isinstance" = none) (mS : mg "str" = none) (mLen : mg "len" = none) (mA : mg "all" = none) : FnOk P w K mg base CX0 1 f fd ["value"] (spM K wordD) := by
  refine F.ok scNm (fun vs H Q E h => ?_) (fun cdv A outer s H vs Q E hr h => ?_)
  · obtain ⟨v, t, rfl, _⟩ := h
    rfl
  · obtain ⟨v, t, rfl, hv, hok, q⟩ := h
    refine ⟨_, pss_cons (ps_if (PW.pt (pw_or (pt_not (pt_val (pe_callB call_isi (by rfl) mI PyProof.Rows.boot_isinstance (pa_cons (pv 0) (pa_cons (pe_bltn (v := .ty "str") (by rfl) mS (by decide +kernel) rfl) pa_nil)))))
          (pw_or1 (pt_not (pt_chain op_le op_le pe_int (pe_callB call_len_str (by rfl) mLen PySem.boot_len (pa_cons (pv 0) pa_nil)) (pe_glob (v := .int 8) (by rfl) m8 r8)))))) (pss_one (ps_ret pe_bl)) pss_nil)
      (pss_one (ps_ret (pe_callB (cr_all rfl) (by rfl) mA (by decide +kernel) (pa_cons (pe_lc (own := [("letter", 1)]) (g := gName 1) (by rfl) scNm.nd (pi_str (pv 0))
            (blkOk_by (own := [("letter", 1)]) (N := ["value", "letter"]) (sc := defScope sName) (by decide +kernel)) (fun _ _ _ _ _ => pg_name (i := 1) scNm.nd rfl (Or.inl rfl)) (fun _ _ _ _ _ => pts_nil)
            (fun _ _ _ _ _ => pe_chain op_le_str op_le_str pe_str (pv 1) pe_str)) pa_nil)))), ?_⟩
    refine ⟨_, rfl, isS hv ⟨_, rfl, ?_⟩⟩
    cases hv with
    | str x =>
      have hok : okK x = true := by simpa [okd] using hok
      refine iteF ⟨_, rfl, x, rfl, few (okK_2 hok), 1, _, rfl, rfl, _, rfl, ?_⟩
      have eS : wordD (.str x) = ((decide (1 ≤ x.length) && decide (x.length ≤ 8)) && x.cps.toList.all lower) := rfl
      have e1 : decide ((1 : Int) ≤ (x.length : Int)) = decide (1 ≤ x.length) := decide_eq_decide.mpr (by omega)
      have e2 : decide ((x.length : Int) ≤ 8) = decide (x.length ≤ 8) := decide_eq_decide.mpr (by omega)
      rw [eS] at q
      refine ite2 (fun c => ?_) (fun c => ?_)
      · have c := e1.symm.trans c
        rw [c, Bool.true_and] at q
        refine ⟨_, _, rfl, rfl, _, rfl, ?_⟩
        refine ite2 (fun c2 => ?_) (fun c2 => ?_)
        · have c2 : decide ((x.length : Int) ≤ 8) = false := by simpa using c2
          rw [e2.symm.trans c2, Bool.false_and] at q
          exact q H same_id
        have c2 : decide ((x.length : Int) ≤ 8) = true := by simpa using c2
        rw [e2.symm.trans c2, Bool.true_and] at q
        have h8 : x.length ≤ 8 := of_decide_eq_true (e2.symm.trans c2)
        have h8' : x.cps.size ≤ 8 := h8
        refine ⟨_, rfl, x, rfl, fun D nD => ?_⟩
        refine lc_map walk_str (fun i => V.bl (lower (sg x i))) (by omega) nD (fun _ _ => trivial) (fun _ _ _ _ y => y.1) ?_ ?_
        · rintro i y H2 P1 hi s2 ⟨_, c3, hc, rfl⟩ h1
          have e := sg_of hc
          rw [e] at h1
          refine ⟨rfl, _, rfl, _, _, rfl, rfl, _, rfl, ?_⟩
          rw [low_le]
          unfold lower at h1
          refine ite2 (fun c4 => ?_) (fun c4 => ?_)
          · rw [c4, Bool.true_and] at h1
            refine ⟨_, _, rfl, rfl, ?_⟩
            rw [low_ge]
            exact h1 _ same_id
          · have c4 : decide (97 ≤ c3) = false := by simpa using c4
            rw [c4, Bool.false_and] at h1
            exact h1 _ same_id
        · intro H2 s2 hD
          refine ⟨D, (List.range x.cps.size).map fun i => lower (sg x i), rfl, SqL.of (by rw [hD, List.map_map]; rfl), ?_⟩
          rw [all_map_id, all_sg x lower]
          exact q _ s2
      · have c : decide (1 ≤ x.length) = false := by rw [← e1]; simpa using c
        rw [c, Bool.false_and, Bool.false_and] at q
        exact ⟨_, rfl, iteT (q H same_id)⟩
    | non => exact iteT (iteT (q H same_id))
    | bl b => exact iteT (iteT (q H same_id))
    | int i => exact iteT (iteT (q H same_id))
    | tup _ _ => exact iteT (iteT (q H same_id))
    | lst _ => exact iteT (iteT (q H same_id))
    | dct _ => exact iteT (iteT (q H same_id))
theorem ok_free {f fN aW : Addr} {fd fdN : FuncData} (F : Fun K "is_free_name" "is_free_name" sFree f fd) (GN : FnOk P w K mg base CX0 1 fN fdN ["value"] (spM K wordD)) (mN : mg "is_name" = some (.ref fN)) (kN : PySem.W.keepIn K (.ref fN) = true) (bN : Binds K fdN ["value"] []) (mW : mg "WORDS" = some (.ref aW)) (WK : TupK K aW wordsL) : FnOk P w K mg base CX0 2 f fd ["value"] (spM K freeD) := by
  refine F.ok scV2 (fun vs H Q E h => ?_) (fun cdv A outer s H vs Q E hr h => ?_)
  · obtain ⟨v, t, rfl, _⟩ := h
    rfl
  · obtain ⟨v, t, rfl, hv, hok, q⟩ := h
    refine ⟨_, pss_one (ps_ret (pe_and (pe_call GN hr (by rfl) mN kN bN .nil pass0 (pa_cons (pv 0) pa_nil)) (pe_one (pe_cmpR op_notIn_seq (pv 0) (pe_glob (v := .ref aW) (by rfl) mW rfl) (by rfl))))), ?_⟩
    refine ⟨_, rfl, v, t, rfl, hv, hok, fun H1 s1 => ⟨_, rfl, ?_⟩⟩
    cases hv with
    | str x =>
      have e : freeD (.str x) = (wordS x && !decide (x ∈ wordsL)) := rfl
      rw [e] at q
      cases hw : wordS x with
      | false =>
        rw [hw, Bool.false_and] at q
        rw [show wordD (.str x) = false from hw]
        exact iteF (q H1 s1)
      | true =>
        rw [hw, Bool.true_and] at q
        rw [show wordD (.str x) = true from hw]
        refine iteT ⟨_, rfl, aW, wordsL.map V.str, rfl, .inr (WK H1), rfl, flat_strs _, ?_⟩
        show Q (.bl (!inV (.str x) (wordsL.map V.str))) _
        rw [inV_strs]
        exact q _ s1
    | non => exact iteF (q H1 s1)
    | bl b => exact iteF (q H1 s1)
    | int i => exact iteF (q H1 s1)
    | tup _ _ => exact iteF (q H1 s1)
    | lst _ => exact iteF (q H1 s1)
    | dct _ => exact iteF (q H1 s1)
theorem ok_txt {f : Addr} {fd : FuncData} {u2 u3 : Value} (F : Fun K "_is_text" "_is_text" sTxt f fd) (m2 : mg "MOST_LETTERS_data" = some u2) (r2 : RelV (.int 200) u2) (m3 : mg "PERCENT_SIGN" = some u3) (r3 : RelV (.int 37) u3) (mLen : mg "len" = none) (mO : mg "ord" = none) (mA : mg "all" = none) : FnOk P w K mg base CX0 1 f fd ["text"] spTxt := by
  refine F.ok scTx (fun vs H Q E h => ?_) (fun cdv A outer s H vs Q E hr h => ?_)
  · obtain ⟨x, rfl, _⟩ := h
    rfl
  · obtain ⟨x, rfl, hok, q⟩ := h
    refine ⟨_, pss_cons (ps_if (pt_cmpR op_gt (pe_callB call_len_str (by rfl) mLen PySem.boot_len (pa_cons (pv 0) pa_nil)) (pe_glob (v := .int 200) (by rfl) m2 r2) (nomark _)) (pss_one (ps_ret pe_bl)) pss_nil)
      (pss_cons (ps_setLc (i := 1) (own := [("letter", 2)]) (g := gName 2) (by rfl) scTx.nd rfl rfl (sw_true rfl rfl rfl (by decide +kernel)) (pi_str (pv 0))
            (blkOk_by (own := [("letter", 2)]) (N := NTx) (sc := defScope sTxt) (by decide +kernel)) (fun _ _ _ _ _ => pg_name (i := 2) scTx.nd rfl (Or.inl rfl)) (fun _ _ _ _ _ => pts_nil)
            (fun _ _ _ _ _ => pe_callB call_ord (by rfl) mO (by decide +kernel) (pa_cons (pv 2) pa_nil)))
      (pss_one (ps_ret (pe_callB (cr_all rfl) (by rfl) mA (by decide +kernel) (pa_cons (pe_lc (own := [("code", 3)]) (g := gName 3) (by rfl) scTx.nd (pi_list (pv 1))
            (blkOk_by (own := [("code", 3)]) (N := NTx) (sc := defScope sTxt) (by decide +kernel)) (fun _ _ _ _ _ => pg_name (i := 3) scTx.nd rfl (Or.inl rfl)) (fun _ _ _ _ _ => pts_nil)
            (fun _ _ _ _ _ => pe_and (pe_chain op_le op_le pe_int (pv 3) pe_int) (pe_one (pe_cmpR op_ne (pv 3) (pe_glob (v := .int 37) (by rfl) m3 r3) (nomark _))))) pa_nil))))), ?_⟩
    have e2 : decide ((200 : Int) < (x.length : Int)) = !decide (x.length ≤ 200) := by
      rw [Bool.eq_iff_iff]
      simp
      omega
    unfold txtS at q
    refine ⟨_, rfl, x, rfl, few (okK_2 hok), _, _, rfl, rfl, _, rfl, ?_⟩
    refine ite2 (fun c => ?_) (fun c => ?_)
    · have c := e2.symm.trans c
      have c : decide (x.length ≤ 200) = false := by simpa using c
      rw [c, Bool.false_and] at q
      exact q H same_id
    · have c : decide (x.length ≤ 200) = true := by
        have : ¬ (!decide (x.length ≤ 200)) = true := fun z => c (e2.trans z)
        simpa using this
      rw [c, Bool.true_and] at q
      have h2' : x.cps.size ≤ 200 := of_decide_eq_true c
      refine ⟨_, rfl, x, rfl, fun D nD => ?_⟩
      refine lc_map walk_str (fun i => V.int (sg x i : Nat)) (by omega) nD (fun _ _ => trivial) (fun _ _ _ _ y => y.1) ?_ ?_
      · rintro i y H2 P1 hi s2 ⟨_, c3, hc, rfl⟩ h1
        have e := sg_of hc
        rw [e] at h1
        exact ⟨rfl, _, rfl, _, rfl, rfl, h1 _ same_id⟩
      · intro H1 s1 hD
        refine ⟨_, rfl, D, rfl, ⟨_, SqL.of hD⟩, fun L nL => ?_⟩
        refine lc_map (walk_list (K := K) (a := D) (xs := (List.range x.cps.size).map fun i => V.int (sg x i : Nat))) (fun i => V.bl (shown (sg x i))) (by rw [List.length_map, List.length_range]; omega) nL (fun H' s' => SqL.of (s' _ _ hD)) yAt_same ?_ ?_
        · rintro i y H2 P1 hi s2 ⟨_, hy⟩ h1
          rw [List.length_map, List.length_range] at hi
          rw [List.getElem?_map, List.getElem?_range hi] at hy
          cases hy
          have n37 : sg x i ≠ 37 := by
            intro z
            refine okK_3 hok ?_
            rw [← z]
            unfold sg
            have hi' : i < x.cps.toList.length := by rw [Array.length_toList]; exact hi
            rw [List.getD_eq_getElem?_getD, List.getElem?_eq_getElem hi']
            exact List.getElem_mem hi'
          have ea : decide ((32 : Int) ≤ (sg x i : Nat)) = decide (32 ≤ sg x i) := decide_eq_decide.mpr (by omega)
          have eb : decide (((sg x i : Nat) : Int) ≤ 126) = decide (sg x i ≤ 126) := decide_eq_decide.mpr (by omega)
          have ec : (!decide (V.int ((sg x i : Nat) : Int) = V.int 37)) = true := by
            rw [Bool.not_eq_true', decide_eq_false_iff_not]
            intro z
            have := V.int.inj z
            omega
          unfold shown at h1
          refine ⟨rfl, _, rfl, _, _, rfl, rfl, _, rfl, ?_⟩
          refine ite2 (fun c4 => ?_) (fun c4 => ?_)
          · rw [ea.symm.trans c4, Bool.true_and] at h1
            refine ⟨_, _, rfl, rfl, _, rfl, ?_⟩
            refine ite2 (fun c5 => ?_) (fun c5 => ?_)
            · rw [eb.symm.trans c5] at h1
              refine ⟨_, rfl, rfl, ?_⟩
              show P1 (.bl (!decide (V.int ((sg x i : Nat) : Int) = V.int 37))) _
              rw [ec]
              exact h1 _ same_id
            · have c5 : decide (sg x i ≤ 126) = false := by rw [← eb]; simpa using c5
              rw [c5] at h1
              exact h1 _ same_id
          · have c4 : decide (32 ≤ sg x i) = false := by rw [← ea]; simpa using c4
            rw [c4, Bool.false_and] at h1
            exact ⟨_, rfl, iteF (h1 _ same_id)⟩
        · intro H2 s2 hL
          rw [List.length_map, List.length_range] at hL
          refine ⟨L, (List.range x.cps.size).map fun i => shown (sg x i), rfl, SqL.of (by rw [hL, List.map_map]; rfl), ?_⟩
          rw [all_map_id, all_sg x shown]
          exact q _ (s1.trans s2)
theorem ok_leafV {f fT : Addr} {fd fdT : FuncData} {u1 : Value} (F : Fun K "is_leaf" "is_leaf" sLeafV f fd) (GT : FnOk P w K mg base CX0 1 fT fdT ["text"] spTxt) (mT : mg "_is_text" = some (.ref fT)) (kT : PySem.W.keepIn K (.ref fT) = true) (bT : Binds K fdT ["text"] [])
    (m1 : mg "GREATEST" = some u1) (r1 : RelV (.int (10 ^ 30)) u1) (mI : mg "isinstance" = none) (mB : mg "bool" = none) (mN : mg "int" = none) (mS : mg "str" = none) : FnOk P w K mg base CX0 2 f fd ["value"] (spM K leafD) := by
  refine F.ok scV3 (fun vs H Q E h => ?_) (fun cdv A outer s H vs Q E hr h => ?_)
  · obtain ⟨v, t, rfl, _⟩ := h
    rfl
  · obtain ⟨v, t, rfl, hv, hok, q⟩ := h
    refine ⟨_, pss_cons (ps_if (PW.pt (pw_or (pt_cmpR op_isN (pv 0) pe_non (nomark _)) (pw_or1 (pt_val (pe_callB call_isi (by rfl) mI PyProof.Rows.boot_isinstance (pa_cons (pv 0) (pa_cons (pe_bltn (v := .ty "bool") (by rfl) mB (by decide +kernel) rfl) pa_nil))))))) (pss_one (ps_ret pe_bl)) pss_nil)
      (pss_cons (ps_if (pt_val (pe_callB call_isi (by rfl) mI PyProof.Rows.boot_isinstance (pa_cons (pv 0) (pa_cons (pe_bltn (v := .ty "int") (by rfl) mN (by decide +kernel) rfl) pa_nil)))) (pss_one (ps_ret (pe_chain op_le op_le (pe_un un_neg (pe_glob (v := .int (10 ^ 30)) (by rfl) m1 r1)) (pv 0) (pe_glob (v := .int (10 ^ 30)) (by rfl) m1 r1)))) pss_nil)
      (pss_one (ps_ret (pe_and (pe_callB call_isi (by rfl) mI PyProof.Rows.boot_isinstance (pa_cons (pv 0) (pa_cons (pe_bltn (v := .ty "str") (by rfl) mS (by decide +kernel) rfl) pa_nil))) (pe_one (pe_call GT hr (by rfl) mT kT bT .nil pass0 (pa_cons (pv 0) pa_nil))))))), ?_⟩
    refine ⟨_, rfl, rfl, _, rfl, ?_⟩
    cases hv with
    | non => exact iteT (iteT (q H same_id))
    | bl b => exact iteF ⟨_, rfl, isB (.bl b) ⟨_, rfl, iteT (q H same_id)⟩⟩
    | int i =>
      refine iteF ⟨_, rfl, isB (.int i) ⟨_, rfl, iteF ⟨_, rfl, isI (.int i) ⟨_, rfl, iteT ⟨_, rfl, _, rfl, _, _, rfl, rfl, _, rfl, ?_⟩⟩⟩⟩⟩
      have e : leafD (.int i) = (decide (-(10 ^ 30) ≤ i) && decide (i ≤ 10 ^ 30)) := rfl
      rw [e] at q
      refine ite2 (fun c => ?_) (fun c => ?_)
      · rw [c, Bool.true_and] at q
        exact ⟨_, _, rfl, rfl, q H same_id⟩
      · have c : decide (-(10 ^ 30) ≤ i) = false := by simpa using c
        rw [c, Bool.false_and] at q
        exact q H same_id
    | str x =>
      have hok : okK x = true := by simpa [okd] using hok
      exact iteF ⟨_, rfl, isB (.str x) ⟨_, rfl, iteF ⟨_, rfl, isI (.str x) ⟨_, rfl, iteF ⟨_, rfl, isS (.str x) ⟨_, rfl, iteT ⟨_, rfl, x, rfl, hok, fun H1 s1 => q H1 s1⟩⟩⟩⟩⟩⟩⟩
    | tup hs ha => exact iteF ⟨_, rfl, isB (.tup hs ha) ⟨_, rfl, iteF ⟨_, rfl, isI (.tup hs ha) ⟨_, rfl, iteF ⟨_, rfl, isS (.tup hs ha) ⟨_, rfl, iteF (q H same_id)⟩⟩⟩⟩⟩⟩
    | lst hs => exact iteF ⟨_, rfl, isB (.lst hs) ⟨_, rfl, iteF ⟨_, rfl, isI (.lst hs) ⟨_, rfl, iteF ⟨_, rfl, isS (.lst hs) ⟨_, rfl, iteF (q H same_id)⟩⟩⟩⟩⟩⟩
    | dct hs => exact iteF ⟨_, rfl, isB (.dct hs) ⟨_, rfl, iteF ⟨_, rfl, isI (.dct hs) ⟨_, rfl, iteF ⟨_, rfl, isS (.dct hs) ⟨_, rfl, iteF (q H same_id)⟩⟩⟩⟩⟩⟩
end
end Toy


namespace Toy
open PySem PySem.Spec L2 PyProof.Rows PySem.W
/-! ### the table of forms, as the program tells it -/
def formsL0 : List (Str × List Str) := [("same", []), ("field", ["key"]), ("item", ["index"]), ("every", []), ("none", []), ("fail", []), ("pipe", ["filter", "filter"]), ("both", ["filter", "filter"])]
def formsL1 : List (Str × List Str) := [("if", ["test", "filter", "filter"]), ("try", ["walk"]), ("other", ["walk", "filter"]), ("leaf", ["leaf"]), ("list", ["filter"]), ("dict", ["entries"]), ("sum", ["filter", "filter"]), ("less", ["filter", "filter"])]
def formsL2 : List (Str × List Str) := [("product", ["filter", "filter"]), ("alike", ["filter", "filter"]), ("before", ["filter", "filter"]), ("as", ["filter", "free", "filter"]), ("name", ["free"]), ("when", ["filter", "filter", "filter"]), ("catch", ["filter", "filter"]), ("reduce", ["filter", "free", "filter", "filter"])]
def formsL3 : List (Str × List Str) := [("first", ["filter"]), ("take", ["index", "filter"]), ("fails", ["filter"]), ("def", ["free", "parameters", "filter", "filter"]), ("call", ["free", "filters"]), ("places", ["chooser"]), ("change", ["chooser", "filter"]), ("drop", ["chooser"])]
def formsL4 : List (Str × List Str) := [("add", ["chooser", "key", "filter"]), ("append", ["chooser", "filter"]), ("is", ["sort"]), ("equal", ["leaf"]), ("at", ["walk", "test"]), ("and", ["test", "test"]), ("or", ["test", "test"]), ("not", ["test"])]
def formsL : List (Str × List Str) := formsL0 ++ (formsL1 ++ (formsL2 ++ (formsL3 ++ formsL4)))
def formOf (w : Str) : Option (List Str) := formsL.lookup w
def kinds4 : List Str := ["filter", "test", "walk", "chooser"]
def PK (k : Str) : Bool := decide (k ∈ kinds4)
def choosersL : List Str := ["same", "field", "item", "every", "none", "fail", "pipe", "both", "if", "try", "other"]
abbrev sBeg : Stmt := top 21
abbrev sNar : Stmt := top 22
abbrev sFld : Stmt := top 32
def nar (o k : Str) : Str := if k = "filter" then o else k
def begK (x k : Str) : Bool := if k = "walk" then decide (x ∈ walksL) else if k = "chooser" then decide (x ∈ choosersL) else (formOf x).isSome && decide (decide (x ∈ testsL) = decide (k = "test"))
def fldD (k : Str) (f : Dt) : Bool :=
  if PK k = true then true else if k = "key" then wordD f else if k = "free" then freeD f else if k = "index" then wholeD f else if k = "leaf" then leafD f else if k = "sort" then sortD f
  else match f with
    | .tup l => if k = "filters" then decide (l.length ≤ 3) else if k = "parameters" then decide (l.length ≤ 3) && (l.all freeD && uniq (l.map strOfD)) else entsD l
    | _ => false
def FormsK (K : PySem.W.Frag) (w : World) (d : Addr) : Prop := ∀ p ∈ formsL, ∃ a, KDct K w d p.1 (.ref a) ∧ ∀ H, SqT K H a (p.2.map V.str)
def spUnl (K : PySem.W.Frag) : Sp := fun vs H Q _ => ∃ (a : Addr) (ks : List Str), vs = [.ref a] ∧ (SqL K H a (ks.map V.str) ∨ SqT K H a (ks.map V.str)) ∧ ks.length ≤ 300 ∧ ∀ H', Same H H' → Q (.bl (uniq ks)) H'
def spEnts (K : PySem.W.Frag) : Sp := fun vs H Q _ => ∃ (a : Addr) (us : List V) (l : List Dt), vs = [.ref a] ∧ SqT K H a us ∧ DvL K H us l ∧ l.length ≤ 300 ∧ okdL 300 l = true ∧ ∀ H', Same H H' → Q (.bl (entsD l)) H'
def spBeg : Sp := fun vs H Q _ => ∃ (x k : Str), vs = [.str x, .str k] ∧ ∀ H', Same H H' → Q (.bl (begK x k)) H'
def spNar : Sp := fun vs H Q _ => ∃ (o k : Str), vs = [.str o, .str k] ∧ ∀ H', Same H H' → Q (.str (nar o k)) H'
def spFld (K : PySem.W.Frag) : Sp := fun vs H Q _ => ∃ (v : V) (k : Str) (t : Dt), vs = [v, .str k] ∧ Dv K H v t ∧ okd 300 t = true ∧ ∀ H', Same H H' → Q (.bl (fldD k t)) H'
abbrev NEn : List Str := ["values", "entry", "_", "key"]
abbrev NFi : List Str := ["value", "told", "name"]
theorem dec_s (a b : Str) : decide (V.str a = V.str b) = decide (a = b) := decide_eq_decide.mpr ⟨fun h => V.str.inj h, fun h => by rw [h]⟩
theorem lookup_mem {w : Str} {ks : List Str} : ∀ {L : List (Str × List Str)}, L.lookup w = some ks → (w, ks) ∈ L
  | [], h => by cases h
  | (k, v) :: L, h => by
    by_cases e : w = k
    · subst e
      simp [List.lookup] at h
      subst h
      exact List.mem_cons_self
    · have : (w == k) = false := by simp [e]
      simp only [List.lookup, this] at h
      exact List.mem_cons_of_mem _ (lookup_mem h)
theorem dv_flat {K : PySem.W.Frag} {H : Hp} {v : V} {t : Dt} (h : Dv K H v t) : (flatV v = true ∧ sortD t = inV v (sortsL.map V.str)) ∨ ∃ a, v = .ref a ∧ sortD t = false ∧ ((∃ us, SqL K H a us) ∨ (∃ us, SqT K H a us) ∨ ∃ m, H a = some (.dK m)) := by
  have z : ∀ v : V, (∀ k : Str, eqV (.str k) v = false) → inV v (sortsL.map V.str) = false := fun v hv => by
    unfold inV
    rw [List.any_eq_false]
    intro y hy
    obtain ⟨k, _, rfl⟩ := List.mem_map.mp hy
    rw [hv k]
    exact Bool.false_ne_true
  cases h with
  | non => exact .inl ⟨rfl, (z _ fun _ => rfl).symm⟩
  | bl b => exact .inl ⟨rfl, (z _ fun _ => rfl).symm⟩
  | int i => exact .inl ⟨rfl, (z _ fun _ => rfl).symm⟩
  | str x => exact .inl ⟨rfl, (inV_strs x sortsL).symm⟩
  | tup hs _ => exact .inr ⟨_, rfl, rfl, .inr (.inl ⟨_, hs⟩)⟩
  | lst hs => exact .inr ⟨_, rfl, rfl, .inl ⟨_, SqL.of hs⟩⟩
  | dct hs => exact .inr ⟨_, rfl, rfl, .inr (.inr ⟨_, hs⟩)⟩
section
variable {P : Program} {w : World} {K : PySem.W.Frag} {mg : Str → Option Value} {base : Heap}
theorem scUn : FnScope ["names"] ["names"] (defScope sUnl) := ⟨rfl, rfl, rfl, by decide +kernel, rfl, by decide +kernel, by decide +kernel⟩
theorem scEn : FnScope NEn ["values"] (defScope sEnts) := ⟨rfl, rfl, rfl, by decide +kernel, rfl, by decide +kernel, by decide +kernel⟩
theorem scBe' : FnScope ["word", "kind"] ["word", "kind"] (defScope sBeg) := ⟨rfl, rfl, rfl, by decide +kernel, rfl, by decide +kernel, by decide +kernel⟩
theorem scNa : FnScope ["outer", "kind"] ["outer", "kind"] (defScope sNar) := ⟨rfl, rfl, rfl, by decide +kernel, rfl, by decide +kernel, by decide +kernel⟩
theorem scFi : FnScope NFi ["value", "told"] (defScope sFld) := ⟨rfl, rfl, rfl, by decide +kernel, rfl, by decide +kernel, by decide +kernel⟩
theorem ok_nar {f : Addr} {fd : FuncData} (F : Fun K "narrowed" "narrowed" sNar f fd) : FnOk P w K mg base CX0 1 f fd ["outer", "kind"] spNar := by
  refine F.ok scNa (fun vs H Q E h => ?_) (fun cdv A outer s H vs Q E hr h => ?_)
  · obtain ⟨o, k, rfl, _⟩ := h
    rfl
  · obtain ⟨o, k, rfl, q⟩ := h
    refine ⟨_, pss_one (ps_ret (pe_ifExp (pt_cmpR op_eq (pv 1) pe_str (nomark _)) (pv 0) (pv 1))), ?_⟩
    unfold nar at q
    refine ⟨_, rfl, rfl, _, rfl, ?_⟩
    rw [dec_s]
    refine ite2 (fun c => ?_) (fun c => ?_)
    · rw [if_pos (of_decide_eq_true c)] at q
      exact ⟨_, rfl, q H same_id⟩
    · rw [if_neg (fun e => c (decide_eq_true e))] at q
      exact ⟨_, rfl, q H same_id⟩
theorem ok_beg {f aF aT aW aC : Addr} {fd : FuncData} (F : Fun K "begins_kind" "begins_kind" sBeg f fd) (mFo : mg "FORMS" = some (.ref aF)) (FD : ∃ es n, KDict K w aF es n) (FK : FormsK K w aF) (FN : ∀ x, formOf x = none → PySem.W.nsIn K aF x = some none)
    (mT : mg "TESTS" = some (.ref aT)) (TK : TupK K aT testsL) (mW : mg "WALKS" = some (.ref aW)) (WK : TupK K aW walksL) (mC : mg "CHOOSERS" = some (.ref aC)) (CK : TupK K aC choosersL) : FnOk P w K mg base CX0 1 f fd ["word", "kind"] spBeg := by
  obtain ⟨es, nn, FD⟩ := FD
  refine F.ok scBe' (fun vs H Q E h => ?_) (fun cdv A outer s H vs Q E hr h => ?_)
  · obtain ⟨x, k, rfl, _⟩ := h
    rfl
  · obtain ⟨x, k, rfl, q⟩ := h
    refine ⟨_, pss_cons (ps_if (pt_cmpR op_eq (pv 1) pe_str (nomark _)) (pss_one (ps_ret (pe_cmpR op_in_seq (pv 0) (pe_glob (v := .ref aW) (by rfl) mW rfl) (by rfl)))) pss_nil)
      (pss_cons (ps_if (pt_cmpR op_eq (pv 1) pe_str (nomark _)) (pss_one (ps_ret (pe_cmpR op_in_seq (pv 0) (pe_glob (v := .ref aC) (by rfl) mC rfl) (by rfl)))) pss_nil)
      (pss_one (ps_ret (pe_and (pe_cmpR (op_in_kd FD) (pv 0) (pe_glob (v := .ref aF) (by rfl) mFo rfl) (by rfl)) (pe_one (pe_cmpR op_eq (pe_cmpR op_in_seq (pv 0) (pe_glob (v := .ref aT) (by rfl) mT rfl) (by rfl)) (pe_cmpR op_eq (pv 1) pe_str (nomark _)) (nomark _))))))), ?_⟩
    unfold begK at q
    refine ⟨_, rfl, rfl, _, rfl, ?_⟩
    rw [dec_s]
    refine ite2 (fun c1 => ?_) (fun c1 => ?_)
    · rw [if_pos (of_decide_eq_true c1)] at q
      refine ⟨_, rfl, aW, walksL.map V.str, rfl, .inr (WK H), rfl, flat_strs _, ?_⟩
      show Q (.bl (inV (.str x) (walksL.map V.str))) _
      rw [inV_strs]
      exact q H same_id
    rw [if_neg (fun e => c1 (decide_eq_true e))] at q
    refine ⟨_, rfl, rfl, _, rfl, ?_⟩
    rw [dec_s]
    refine ite2 (fun c2 => ?_) (fun c2 => ?_)
    · rw [if_pos (of_decide_eq_true c2)] at q
      refine ⟨_, rfl, aC, choosersL.map V.str, rfl, .inr (CK H), rfl, flat_strs _, ?_⟩
      show Q (.bl (inV (.str x) (choosersL.map V.str))) _
      rw [inV_strs]
      exact q H same_id
    rw [if_neg (fun e => c2 (decide_eq_true e))] at q
    cases hf : formOf x with
    | none =>
      rw [hf] at q
      exact ⟨_, rfl, x, _, rfl, rfl, FN x hf, _, rfl, iteF (q H same_id)⟩
    | some ks =>
      rw [hf] at q
      obtain ⟨a, ⟨es2, n2, u, e1, e2, e3, e4⟩, _⟩ := FK _ (lookup_mem hf)
      refine ⟨_, rfl, x, _, rfl, rfl, e3, _, rfl, iteT ⟨_, rfl, aT, testsL.map V.str, rfl, .inr (TK H), rfl, flat_strs _, _, rfl, rfl, rfl, ?_⟩⟩
      show Q (.bl (decide (V.bl (inV (.str x) (testsL.map V.str)) = V.bl (decide (V.str k = V.str "test"))))) _
      rw [inV_strs, dec_s]
      have e : decide (V.bl (decide (x ∈ testsL)) = V.bl (decide (k = "test"))) = decide (decide (x ∈ testsL) = decide (k = "test")) := decide_eq_decide.mpr ⟨fun h => V.bl.inj h, fun h => by rw [h]⟩
      rw [e]
      exact q H same_id
theorem ok_unl {f : Addr} {fd : FuncData} (F : Fun K "_are_unlike" "_are_unlike" sUnl f fd) (mLen : mg "len" = none) (mSet : mg "set" = none) : FnOk P w K mg base CX0 1 f fd ["names"] (spUnl K) := by
  refine F.ok scUn (fun vs H Q E h => ?_) (fun cdv A outer s H vs Q E hr h => ?_)
  · obtain ⟨a, ks, rfl, _⟩ := h
    rfl
  · obtain ⟨a, ks, rfl, ha, hl, q⟩ := h
    refine ⟨_, pss_one (ps_ret (pe_cmpR op_eq (L2.pe_lenSetA rfl (by rfl) mLen (by rfl) mSet (pv 0)) (pe_callB call_len_seq (by rfl) mLen PySem.boot_len (pa_cons (pv 0) pa_nil)) (nomark _))), ?_⟩
    refine ⟨_, rfl, a, ks, rfl, ha, hl, fun n hn => ⟨_, rfl, a, _, rfl, ha, rfl, ?_⟩⟩
    have eu : decide (V.int (n : Int) = V.int ((ks.map V.str).length : Nat)) = uniq ks := by
      unfold uniq
      refine decide_eq_decide.mpr ?_
      rw [List.length_map, ← hn]
      constructor
      · intro z
        have := V.int.inj z
        omega
      · intro z
        rw [z]
    rw [eu]
    exact q H same_id
theorem ok_ents {f fN fU : Addr} {fd fdN fdU : FuncData} (F : Fun K "_are_entries" "_are_entries" sEnts f fd) (GN : FnOk P w K mg base CX0 1 fN fdN ["value"] (spM K wordD)) (mN : mg "is_name" = some (.ref fN)) (kN : PySem.W.keepIn K (.ref fN) = true) (bN : Binds K fdN ["value"] [])
    (GU : FnOk P w K mg base CX0 1 fU fdU ["names"] (spUnl K)) (mU : mg "_are_unlike" = some (.ref fU)) (kU : PySem.W.keepIn K (.ref fU) = true) (bU : Binds K fdU ["names"] []) (mI : mg "isinstance" = none) (mTu : mg "tuple" = none) (mLen : mg "len" = none) (mA : mg "all" = none) : FnOk P w K mg base CX0 2 f fd ["values"] (spEnts K) := by
  refine F.ok scEn (fun vs H Q E h => ?_) (fun cdv A outer s H vs Q E hr h => ?_)
  · obtain ⟨a, us, l, rfl, _⟩ := h
    rfl
  · obtain ⟨a, us, l, rfl, ha, hus, hl, hok, q⟩ := h
    have lus := dvl_len hus
    refine ⟨_, pss_cons (ps_if (pt_not (pt_val (pe_callB (cr_all rfl) (by rfl) mA (by decide +kernel) (pa_cons (pe_lc (own := [("entry", 1)]) (g := gName 1) (te := tAndV (tCB (rIsi K) (tCons (tVar 1) (tCons (tC (.ty "tuple")) tNil))) (tAndV (tOp rEq (tCB (fun xs H Q => ∃ p ys, xs = [.ref p] ∧ (SqL K H p ys ∨ SqT K H p ys) ∧ Q (.int ys.length) H) (tCons (tVar 1) tNil)) (tC (.int 2))) (tCall (spM K wordD) [] E0 (tCons (tOp (rIxT K) (tVar 1) (tC (.int 0))) tNil)))) (by rfl) scEn.nd (pi_tup (pv 0))
            (blkOk_by (own := [("entry", 1)]) (N := NEn) (sc := defScope sEnts) (by decide +kernel)) (fun _ _ _ _ _ => pg_name (i := 1) scEn.nd rfl (Or.inl rfl)) (fun _ _ _ _ _ => pts_nil)
            (fun _ _ _ _ _ => pe_and (pe_callB call_isi (by rfl) mI PyProof.Rows.boot_isinstance (pa_cons (pv 1) (pa_cons (pe_bltn (v := .ty "tuple") (by rfl) mTu (by decide +kernel) rfl) pa_nil)))
              (pe_and (pe_cmpR op_eq (pe_callB call_len_seq (by rfl) mLen PySem.boot_len (pa_cons (pv 1) pa_nil)) pe_int (nomark _)) (pe_one (pe_call GN hr (by rfl) mN kN bN .nil pass0 (pa_cons (pe_ix ix_tup (pv 1) pe_int (fun _ _ => rfl)) pa_nil)))))) pa_nil)))) (pss_one (ps_ret pe_bl)) pss_nil)
      (pss_one (ps_ret (pe_call GU hr (by rfl) mU kU bU .nil pass0 (pa_cons (pe_lc (own := [("key", 3), ("_", 2)]) (g := gTup K 2 (gCons (gName 3) (gCons (gName 2) gNil))) (te := tVar 3) (by rfl) scEn.nd (pi_tup (pv 0))
            (blkOk_by (own := [("key", 3), ("_", 2)]) (N := NEn) (sc := defScope sEnts) (by decide +kernel)) (fun _ _ _ _ _ => by exact (pg_tup rfl (pgs_cons (by exact (pg_name (i := 3) scEn.nd rfl (Or.inl rfl))) (pgs_cons (by exact (pg_name (i := 2) scEn.nd rfl (Or.inl rfl))) pgs_nil)))) (fun _ _ _ _ _ => pts_nil)
            (fun _ _ _ _ _ => pv 3)) pa_nil)))), ?_⟩
    refine ⟨_, rfl, a, rfl, ⟨us, ha⟩, fun D nD => ?_⟩
    refine lc_map (walk_tup (K := K) (a := a) (xs := us)) (fun i => V.bl (entD (l.getD i .non))) (by omega) nD (fun H' s' => same_seqT s' ha) yAt_same ?_ ?_
    · rintro i y H2 P1 hi s2 ⟨_, hy⟩ h1
      obtain ⟨ti, hti, hdi⟩ := dvl_get hus hy
      have eg : l.getD i .non = ti := by rw [List.getD_eq_getElem?_getD, hti]; rfl
      rw [eg] at h1
      have hd2 := dvM s2 hdi
      have hok2 := okd_get hok hti
      refine ⟨rfl, _, rfl, isT hd2 ⟨_, rfl, ?_⟩⟩
      cases hd2 with
      | non => exact iteF (h1 _ same_id)
      | bl b => exact iteF (h1 _ same_id)
      | int i => exact iteF (h1 _ same_id)
      | str x => exact iteF (h1 _ same_id)
      | lst _ => exact iteF (h1 _ same_id)
      | dct _ => exact iteF (h1 _ same_id)
      | @tup e ys l2 hse hl2 =>
        have ly := dvl_len hl2
        refine iteT ⟨_, rfl, e, ys, rfl, .inr hse, rfl, _, rfl, ?_⟩
        by_cases h2 : ys.length = 2
        · rw [decide_eq_true (show V.int (ys.length : Nat) = V.int 2 by rw [h2]; rfl)]
          refine iteT ?_
          cases hl2 with
          | nil => simp at h2
          | @cons y1 d1 r1 l1 g1 hr1' =>
          cases hr1' with
          | nil => simp at h2
          | @cons y2 d2 r2 l2' g2 hr2' =>
          cases hr2' with
          | cons _ _ => simp at h2
          | nil =>
            simp only [okd, okdL, Bool.and_eq_true] at hok2
            refine ⟨_, rfl, e, _, 0, y1, rfl, rfl, hse, atI_nat (j := 0) rfl, y1, d1, rfl, g1, hok2.2.1, fun H3 s3 => ?_⟩
            have e3 : entD (.tup [d1, d2]) = wordD d1 := by cases g1 <;> rfl
            rw [e3] at h1
            exact h1 _ s3
        · rw [decide_eq_false (show ¬ V.int (ys.length : Nat) = V.int 2 by
            intro z
            have := V.int.inj z
            omega)]
          have e3 : entD (.tup l2) = false := by
            unfold entD
            split
            · rename_i he
              cases he
              exact absurd ly h2
            · rfl
          rw [e3] at h1
          exact iteF (h1 _ same_id)
    · intro H1 s1 hD
      rw [lus] at hD
      refine ⟨D, (List.range l.length).map fun i => entD (l.getD i .non), rfl, SqL.of (by rw [hD, List.map_map]; rfl), _, rfl, ?_⟩
      have ea : ((List.range l.length).map fun i => entD (l.getD i .non)).all id = l.all entD := by
        rw [all_map_id]
        refine all_range l entD _ fun i hi => ?_
        rw [List.getD_eq_getElem?_getD, List.getElem?_eq_getElem hi]
        rfl
      rw [ea]
      unfold entsD at q
      cases hea : l.all entD with
      | false =>
        rw [hea, Bool.false_and] at q
        exact iteT (q H1 s1)
      | true =>
        rw [hea, Bool.true_and] at q
        refine iteF ?_
        have ha1 := same_seqT s1 ha
        refine ⟨_, rfl, a, rfl, ⟨us, ha1⟩, fun D2 nD2 => ?_⟩
        refine lc_map (walk_tup (K := K) (a := a) (xs := us)) (fun i => V.str (keyD (l.getD i .non))) (by omega) nD2 (fun H' s' => same_seqT s' ha1) yAt_same ?_ ?_
        · rintro i y H2 P1 hi s2 ⟨_, hy⟩ h1
          obtain ⟨ti, hti, hdi⟩ := dvl_get hus hy
          have eg : l.getD i .non = ti := by rw [List.getD_eq_getElem?_getD, hti]; rfl
          rw [eg] at h1
          have he := List.all_eq_true.mp hea ti (List.mem_of_getElem? hti)
          have hd2 := dvM (s1.trans s2) hdi
          cases hd2 with
          | @tup e ys l2 hse hl2 =>
            cases hl2 with
            | nil => cases he
            | @cons y1 d1 r1 l1 g1 hr1' =>
            cases hr1' with
            | nil =>
              cases g1 <;> cases he
            | @cons y2 d2 r2 l2' g2 hr2' =>
            cases hr2' with
            | cons _ _ => cases g1 <;> cases he
            | nil =>
              cases g1 with
              | str k => exact ⟨e, _, rfl, hse, rfl, _, _, rfl, _, _, rfl, rfl, rfl, _, rfl, h1 _ same_id⟩
              | _ => cases he
          | _ => cases he
        · intro H2 s2 hD2
          rw [lus] at hD2
          have ek : (List.range l.length).map (fun i => V.str (keyD (l.getD i .non))) = (l.map keyD).map V.str := by
            refine List.ext_getElem (by simp) fun i h1 h2 => ?_
            simp only [List.getElem_map, List.getElem_range]
            have hi : i < l.length := by simpa using h1
            rw [List.getD_eq_getElem?_getD, List.getElem?_eq_getElem hi]
            rfl
          rw [ek] at hD2
          exact ⟨D2, l.map keyD, rfl, .inl (SqL.of hD2), by rw [List.length_map]; omega, fun H3 s3 => q H3 ((s1.trans s2).trans s3)⟩
abbrev sIdx : Stmt := top 34
theorem scIx : FnScope ["value"] ["value"] (defScope sIdx) := ⟨rfl, rfl, rfl, by decide +kernel, rfl, by decide +kernel, by decide +kernel⟩
theorem ok_index {f fI : Addr} {fd fdI : FuncData} {u99 : Value} (F : Fun K "is_index" "is_index" sIdx f fd) (m99 : mg "MOST_INDEX" = some u99) (r99 : RelV (.int 99) u99)
    (GI : FnOk P w K mg base CX0 1 fI fdI ["value"] (spM K intD)) (mIn : mg "is_integer" = some (.ref fI)) (kI : PySem.W.keepIn K (.ref fI) = true) (bI : Binds K fdI ["value"] []) : FnOk P w K mg base CX0 2 f fd ["value"] (spM K wholeD) := by
  refine F.ok scIx (fun vs H Q E h => ?_) (fun cdv A outer s H vs Q E hr h => ?_)
  · obtain ⟨v, t, rfl, _⟩ := h
    rfl
  · obtain ⟨v, t, rfl, hv, hok, q⟩ := h
    refine ⟨_, pss_one (ps_ret (pe_and (pe_call GI hr (by rfl) mIn kI bI .nil pass0 (pa_cons (pv 0) pa_nil)) (pe_one (pe_chain op_le op_le pe_int (pv 0) (pe_glob (v := .int 99) (by rfl) m99 r99))))), ?_⟩
    refine ⟨_, rfl, v, t, rfl, hv, hok, fun H1 s1 => ⟨_, rfl, ?_⟩⟩
    cases hv with
    | int i =>
      have e : wholeD (.int i) = (decide (0 ≤ i) && decide (i ≤ 99)) := rfl
      rw [e] at q
      refine iteT ⟨_, rfl, _, _, rfl, rfl, _, rfl, ?_⟩
      refine ite2 (fun c5 => ?_) (fun c5 => ?_)
      · rw [c5, Bool.true_and] at q
        exact ⟨_, _, rfl, rfl, q H1 s1⟩
      · have c5 : decide (0 ≤ i) = false := by simpa using c5
        rw [c5, Bool.false_and] at q
        exact q H1 s1
    | non => exact iteF (q H1 s1)
    | bl b => exact iteF (q H1 s1)
    | str x => exact iteF (q H1 s1)
    | tup _ _ => exact iteF (q H1 s1)
    | lst _ => exact iteF (q H1 s1)
    | dct _ => exact iteF (q H1 s1)
theorem ok_fld {f aP aS fN fF fI fL fU fE : Addr} {fd fdN fdF fdI fdL fdU fdE : FuncData} {u3 : Value} (F : Fun K "_is_field" "_is_field" sFld f fd) (mPK : mg "PART_KINDS" = some (.ref aP)) (PKK : TupK K aP kinds4) (mSo : mg "SORTS" = some (.ref aS)) (SK : TupK K aS sortsL)
    (m3 : mg "MOST_HANDED" = some u3) (r3 : RelV (.int 3) u3)
    (GN : FnOk P w K mg base CX0 1 fN fdN ["value"] (spM K wordD)) (mN : mg "is_name" = some (.ref fN)) (kN : PySem.W.keepIn K (.ref fN) = true) (bN : Binds K fdN ["value"] [])
    (GF : FnOk P w K mg base CX0 2 fF fdF ["value"] (spM K freeD)) (mF : mg "is_free_name" = some (.ref fF)) (kF : PySem.W.keepIn K (.ref fF) = true) (bF : Binds K fdF ["value"] [])
    (GI : FnOk P w K mg base CX0 2 fI fdI ["value"] (spM K wholeD)) (mIn : mg "is_index" = some (.ref fI)) (kI : PySem.W.keepIn K (.ref fI) = true) (bI : Binds K fdI ["value"] [])
    (GL : FnOk P w K mg base CX0 2 fL fdL ["value"] (spM K leafD)) (mL : mg "is_leaf" = some (.ref fL)) (kL : PySem.W.keepIn K (.ref fL) = true) (bL : Binds K fdL ["value"] [])
    (GU : FnOk P w K mg base CX0 1 fU fdU ["names"] (spUnl K)) (mU : mg "_are_unlike" = some (.ref fU)) (kU : PySem.W.keepIn K (.ref fU) = true) (bU : Binds K fdU ["names"] [])
    (GE : FnOk P w K mg base CX0 2 fE fdE ["values"] (spEnts K)) (mE : mg "_are_entries" = some (.ref fE)) (kE : PySem.W.keepIn K (.ref fE) = true) (bE : Binds K fdE ["values"] [])
    (mI : mg "isinstance" = none) (mTu : mg "tuple" = none) (mLen : mg "len" = none) (mA : mg "all" = none) : FnOk P w K mg base CX0 3 f fd ["value", "told"] (spFld K) := by
  refine F.ok scFi (fun vs H Q E h => ?_) (fun cdv A outer s H vs Q E hr h => ?_)
  · obtain ⟨v, k, t, rfl, _⟩ := h
    rfl
  · obtain ⟨v, k, t, rfl, hv, hok, q⟩ := h
    have hu : A.units + 3 + 65 < cLine ∨ True := .inr trivial
    have hu := hr.un
    have hu : (A.deeper (envOfC "_is_field" (defScope sFld) s.heap.objs.size f cdv)).units + 65 < cLine := by
      have := hr.un
      omega
    have hr1 : Room 1 _ := hr.mono (show 1 ≤ 2 by omega)
    refine ⟨_, pss_cons (ps_if (pt_cmpR op_in_seq (pv 1) (pe_glob (v := .ref aP) (by rfl) mPK rfl) (by rfl)) (pss_one (ps_ret pe_bl)) pss_nil)
      (pss_cons (ps_if (pt_cmpR op_eq (pv 1) pe_str (nomark _)) (pss_one (ps_ret (pe_call GN hr1 (by rfl) mN kN bN .nil pass0 (pa_cons (pv 0) pa_nil)))) pss_nil)
      (pss_cons (ps_if (pt_cmpR op_eq (pv 1) pe_str (nomark _)) (pss_one (ps_ret (pe_call GF hr (by rfl) mF kF bF .nil pass0 (pa_cons (pv 0) pa_nil)))) pss_nil)
      (pss_cons (ps_if (pt_cmpR op_eq (pv 1) pe_str (nomark _)) (pss_one (ps_ret (pe_call GI hr (by rfl) mIn kI bI .nil pass0 (pa_cons (pv 0) pa_nil)))) pss_nil)
      (pss_cons (ps_if (pt_cmpR op_eq (pv 1) pe_str (nomark _)) (pss_one (ps_ret (pe_call GL hr (by rfl) mL kL bL .nil pass0 (pa_cons (pv 0) pa_nil)))) pss_nil)
      (pss_cons (ps_if (pt_cmpR op_eq (pv 1) pe_str (nomark _)) (pss_one (ps_ret (pe_cmpR (op_inTx hu) (pv 0) (pe_glob (v := .ref aS) (by rfl) mSo rfl) (by rfl)))) pss_nil)
      (pss_cons (ps_if (pt_not (pt_val (pe_callB call_isi (by rfl) mI PyProof.Rows.boot_isinstance (pa_cons (pv 0) (pa_cons (pe_bltn (v := .ty "tuple") (by rfl) mTu (by decide +kernel) rfl) pa_nil))))) (pss_one (ps_ret pe_bl)) pss_nil)
      (pss_cons (ps_if (pt_cmpR op_eq (pv 1) pe_str (nomark _)) (pss_one (ps_ret (pe_cmpR op_le (pe_callB call_len_seq (by rfl) mLen PySem.boot_len (pa_cons (pv 0) pa_nil)) (pe_glob (v := .int 3) (by rfl) m3 r3) (nomark _)))) pss_nil)
      (pss_cons (ps_if (pt_cmpR op_eq (pv 1) pe_str (nomark _)) (pss_one (ps_ret (pe_and (pe_cmpR op_le (pe_callB call_len_seq (by rfl) mLen PySem.boot_len (pa_cons (pv 0) pa_nil)) (pe_glob (v := .int 3) (by rfl) m3 r3) (nomark _))
          (pe_and (pe_callB (cr_all rfl) (by rfl) mA (by decide +kernel) (pa_cons (pe_lc (own := [("name", 2)]) (g := gName 2) (te := tCall (spM K freeD) [] E0 (tCons (tVar 2) tNil)) (by rfl) scFi.nd (pi_tup (pv 0))
            (blkOk_by (own := [("name", 2)]) (N := NFi) (sc := defScope sFld) (by decide +kernel)) (fun _ _ _ _ _ => pg_name (i := 2) scFi.nd rfl (Or.inl rfl)) (fun _ _ _ _ _ => pts_nil)
            (fun _ _ _ _ _ => pe_call GF hr (by rfl) mF kF bF .nil pass0 (pa_cons (pv 2) pa_nil))) pa_nil))
          (pe_one (pe_call GU hr1 (by rfl) mU kU bU .nil pass0 (pa_cons (pv 0) pa_nil))))))) pss_nil)
      (pss_one (ps_ret (pe_call GE hr (by rfl) mE kE bE .nil pass0 (pa_cons (pv 0) pa_nil)))))))))))), ?_⟩
    unfold fldD at q
    refine ⟨_, rfl, aP, _, rfl, .inr (PKK H), rfl, flat_strs kinds4, _, rfl, ?_⟩
    have ein : inV (V.str k) (kinds4.map V.str) = PK k := inV_strs k kinds4
    show (if inV (V.str k) (kinds4.map V.str) = true then _ else _)
    rw [ein]
    refine ite2 (fun c1 => ?_) (fun c1 => ?_)
    · rw [if_pos c1] at q
      exact q H same_id
    rw [if_neg c1] at q
    refine ⟨_, rfl, rfl, _, rfl, ?_⟩
    rw [dec_s]
    refine ite2 (fun c => ?_) (fun c => ?_)
    · rw [if_pos (of_decide_eq_true c)] at q
      exact ⟨_, rfl, v, t, rfl, hv, hok, fun H1 s1 => q H1 s1⟩
    rw [if_neg (fun e => c (decide_eq_true e))] at q
    refine ⟨_, rfl, rfl, _, rfl, ?_⟩
    rw [dec_s]
    refine ite2 (fun c => ?_) (fun c => ?_)
    · rw [if_pos (of_decide_eq_true c)] at q
      exact ⟨_, rfl, v, t, rfl, hv, hok, fun H1 s1 => q H1 s1⟩
    rw [if_neg (fun e => c (decide_eq_true e))] at q
    refine ⟨_, rfl, rfl, _, rfl, ?_⟩
    rw [dec_s]
    refine ite2 (fun c => ?_) (fun c => ?_)
    · rw [if_pos (of_decide_eq_true c)] at q
      exact ⟨_, rfl, v, t, rfl, hv, hok, fun H1 s1 => q H1 s1⟩
    rw [if_neg (fun e => c (decide_eq_true e))] at q
    refine ⟨_, rfl, rfl, _, rfl, ?_⟩
    rw [dec_s]
    refine ite2 (fun c => ?_) (fun c => ?_)
    · rw [if_pos (of_decide_eq_true c)] at q
      exact ⟨_, rfl, v, t, rfl, hv, hok, fun H1 s1 => q H1 s1⟩
    rw [if_neg (fun e => c (decide_eq_true e))] at q
    refine ⟨_, rfl, rfl, _, rfl, ?_⟩
    rw [dec_s]
    refine ite2 (fun c => ?_) (fun c => ?_)
    · rw [if_pos (of_decide_eq_true c)] at q
      rcases dv_flat hv with ⟨f1, f2⟩ | ⟨a, rfl, f2, f3⟩
      · rw [f2] at q
        exact ⟨_, rfl, aS, sortsL, rfl, SK H, .inl ⟨f1, q H same_id⟩⟩
      · rw [f2] at q
        exact ⟨_, rfl, aS, sortsL, rfl, SK H, .inr ⟨a, rfl, f3, q H same_id⟩⟩
    rw [if_neg (fun e => c (decide_eq_true e))] at q
    refine ⟨_, rfl, isT hv ⟨_, rfl, ?_⟩⟩
    cases hv with
    | non => exact iteT (q H same_id)
    | bl b => exact iteT (q H same_id)
    | int i => exact iteT (q H same_id)
    | str x => exact iteT (q H same_id)
    | lst _ => exact iteT (q H same_id)
    | dct _ => exact iteT (q H same_id)
    | @tup a us l ha hus =>
      refine iteF ?_
      refine nx_run ?_
      dsimp only at q ⊢
      have lus := dvl_len hus
      simp only [okd, Bool.and_eq_true, decide_eq_true_eq] at hok
      have e3 : decide ((us.length : Int) ≤ 3) = decide (l.length ≤ 3) := decide_eq_decide.mpr (by omega)
      refine ⟨_, rfl, rfl, _, rfl, ?_⟩
      rw [dec_s]
      refine ite2 (fun c => ?_) (fun c => ?_)
      · rw [if_pos (of_decide_eq_true c), ← e3] at q
        exact ⟨_, rfl, a, us, rfl, .inr ha, _, _, rfl, rfl, q H same_id⟩
      rw [if_neg (fun e => c (decide_eq_true e))] at q
      refine ⟨_, rfl, rfl, _, rfl, ?_⟩
      rw [dec_s]
      refine ite2 (fun c => ?_) (fun c => ?_)
      · rw [if_pos (of_decide_eq_true c)] at q
        refine ⟨_, rfl, a, us, rfl, .inr ha, _, _, rfl, rfl, _, rfl, ?_⟩
        refine ite2 (fun c7 => ?_) (fun c7 => ?_)
        · rw [e3.symm.trans c7, Bool.true_and] at q
          refine ⟨_, rfl, a, rfl, ⟨us, ha⟩, fun D nD => ?_⟩
          refine lc_map (walk_tup (K := K) (a := a) (xs := us)) (fun i => V.bl (freeD (l.getD i .non))) (by omega) nD (fun H' s' => same_seqT s' ha) yAt_same ?_ ?_
          · rintro i y H2 P1 hi s2 ⟨_, hy⟩ h1
            obtain ⟨ti, hti, hdi⟩ := dvl_get hus hy
            have eg : l.getD i .non = ti := by rw [List.getD_eq_getElem?_getD, hti]; rfl
            rw [eg] at h1
            exact ⟨rfl, _, rfl, y, ti, rfl, dvM s2 hdi, okd_get hok.2 hti, fun H3 s3 => h1 _ s3⟩
          · intro H1 s1 hD
            rw [lus] at hD
            refine ⟨D, (List.range l.length).map fun i => freeD (l.getD i .non), rfl, SqL.of (by rw [hD, List.map_map]; rfl), _, rfl, ?_⟩
            have ea : ((List.range l.length).map fun i => freeD (l.getD i .non)).all id = l.all freeD := by
              rw [all_map_id]
              refine all_range l freeD _ fun i hi => ?_
              rw [List.getD_eq_getElem?_getD, List.getElem?_eq_getElem hi]
              rfl
            rw [ea]
            cases hfa : l.all freeD with
            | false =>
              rw [hfa, Bool.false_and] at q
              exact iteF (q H1 s1)
            | true =>
              rw [hfa, Bool.true_and] at q
              have ek : us = (l.map strOfD).map V.str := by
                have : ∀ {us : List V} {ts : List Dt}, DvL K H us ts → ts.all freeD = true → us = (ts.map strOfD).map V.str := by
                  intro us ts h
                  induction ts generalizing us with
                  | nil => cases h; intro _; rfl
                  | cons t ts ih =>
                    cases h with
                    | cons a b =>
                      intro h
                      rw [List.all_cons, Bool.and_eq_true] at h
                      have ih := ih b h.2
                      cases a with
                      | str x =>
                        rw [ih]
                        rfl
                      | _ => simp [freeD] at h
                exact this hus hfa
              have ha1 := same_seqT s1 ha
              rw [ek] at ha1
              exact iteT ⟨_, rfl, a, l.map strOfD, rfl, .inr ha1, by rw [List.length_map]; omega, fun H2 s2 => q H2 (s1.trans s2)⟩
        · have c7 : decide (l.length ≤ 3) = false := by rw [← e3]; simpa using c7
          rw [c7, Bool.false_and] at q
          exact q H same_id
      rw [if_neg (fun e => c (decide_eq_true e))] at q
      exact ⟨_, rfl, a, us, l, rfl, ha, hus, hok.1, hok.2, fun H1 s1 => q H1 s1⟩
end
end Toy


namespace Toy
open PySem PySem.Spec L2 PyProof.Rows PySem.W
abbrev sHF : Stmt := top 31
abbrev NHF : List Str := ["value", "kind", "fields", "told", "field"]
def hasF (k : Str) (t : Dt) : Bool := match t with
  | .tup (.str x :: fs) => begK x k && (match formOf x with
    | some ks => decide (fs.length = ks.length) && (List.range fs.length).all fun i => fldD (ks.getD i Str.empty) (fs.getD i .non)
    | none => false)
  | _ => false
theorem walks_form : ∀ x ∈ walksL, (formOf x).isSome = true := by decide +kernel
theorem choosers_form : ∀ x ∈ choosersL, (formOf x).isSome = true := by decide +kernel
theorem forms_len : ∀ p ∈ formsL, p.2.length ≤ 4 := by decide +kernel
theorem begK_form {x k : Str} (h : begK x k = true) : ∃ ks, formOf x = some ks := by
  have : (formOf x).isSome = true := by
    unfold begK at h
    split at h
    · exact walks_form x (of_decide_eq_true h)
    · split at h
      · exact choosers_form x (of_decide_eq_true h)
      · rw [Bool.and_eq_true] at h
        exact h.1
  cases e : formOf x with
  | none => rw [e] at this; cases this
  | some ks => exact ⟨ks, rfl⟩
theorem hasF_cases {k : Str} {t : Dt} (h : hasF k t = true) : ∃ x fs ks, t = .tup (.str x :: fs) ∧ formOf x = some ks ∧ fs.length = ks.length ∧ ∀ i, i < fs.length → fldD (ks.getD i Str.empty) (fs.getD i .non) = true := by
  unfold hasF at h
  split at h
  · rename_i x fs
    rw [Bool.and_eq_true] at h
    cases e : formOf x with
    | none =>
      rw [e] at h
      exact absurd h.2 Bool.false_ne_true
    | some ks =>
      have h2 := h.2
      rw [e] at h2
      simp only [Bool.and_eq_true, decide_eq_true_eq, List.all_eq_true, List.mem_range] at h2
      exact ⟨x, fs, ks, rfl, e, h2.1, h2.2⟩
  · cases h
def spHF (K : PySem.W.Frag) : Sp := fun vs H Q _ => ∃ (v : V) (t : Dt) (k : Str), vs = [v, .str k] ∧ Dv K H v t ∧ okd 300 t = true ∧ ∀ H', Same H H' → Q (.bl (hasF k t)) H'
theorem cut_1w (a : V) (xs : List V) : ¬ (HT.sIx (a :: xs).length 0 (some 1) = 0 ∧ HT.sIx (a :: xs).length (a :: xs).length none = (a :: xs).length) := by
  rw [show HT.sIx (a :: xs).length 0 (some 1) = min 1 (a :: xs).length from HT.sIx_nat _ _ 1]
  intro h
  have := h.1
  rw [List.length_cons] at this
  omega
section
variable {P : Program} {w : World} {K : PySem.W.Frag} {mg : Str → Option Value} {base : Heap}
theorem scHF : FnScope NHF ["value", "kind"] (defScope sHF) := ⟨rfl, rfl, rfl, by decide +kernel, rfl, by decide +kernel, by decide +kernel⟩
theorem ok_hf {f aF fB fF : Addr} {fd fdB fdF : FuncData} (F : Fun K "_has_form" "_has_form" sHF f fd) (mFo : mg "FORMS" = some (.ref aF)) (FK : FormsK K w aF)
    (GB : FnOk P w K mg base CX0 1 fB fdB ["word", "kind"] spBeg) (mB : mg "begins_kind" = some (.ref fB)) (kB : PySem.W.keepIn K (.ref fB) = true) (bB : Binds K fdB ["word", "kind"] [])
    (GF : FnOk P w K mg base CX0 3 fF fdF ["value", "told"] (spFld K)) (mF : mg "is_field_filters" = some (.ref fF)) (kF : PySem.W.keepIn K (.ref fF) = true) (bF : Binds K fdF ["value", "told"] [])
    (mI : mg "isinstance" = none) (mTu : mg "tuple" = none) (mS : mg "str" = none) (mLen : mg "len" = none) (mA : mg "all" = none) (mZip : mg "zip" = none) : FnOk P w K mg base CX0 4 f fd ["value", "kind"] (spHF K) := by
  refine F.ok scHF (fun vs H Q E h => ?_) (fun cdv A outer s H vs Q E hr h => ?_)
  · obtain ⟨v, t, k, rfl, _⟩ := h
    rfl
  · obtain ⟨v, t, k, rfl, hv, hok, q⟩ := h
    have hr1 : Room 1 _ := hr.mono (show 1 ≤ 3 by omega)
    refine ⟨_, pss_cons (ps_if (PW.pt (pw_or (pt_not (pt_val (pe_callB call_isi (by rfl) mI PyProof.Rows.boot_isinstance (pa_cons (pv 0) (pa_cons (pe_bltn (v := .ty "tuple") (by rfl) mTu (by decide +kernel) rfl) pa_nil)))))
          (pw_or (pt_not (pt_truth (pv 0) (by intro _; rfl))) (pw_or1 (pt_not (pt_val (pe_callB call_isi (by rfl) mI PyProof.Rows.boot_isinstance (pa_cons (pe_ix ix_tup (pv 0) pe_int (fun _ _ => rfl)) (pa_cons (pe_bltn (v := .ty "str") (by rfl) mS (by decide +kernel) rfl) pa_nil))))))))) (pss_one (ps_ret pe_bl)) pss_nil)
      (pss_cons (ps_if (pt_not (pt_val (pe_call GB hr1 (by rfl) mB kB bB .nil pass0 (pa_cons (pe_ix ix_tup (pv 0) pe_int (fun _ _ => rfl)) (pa_cons (pv 1) pa_nil))))) (pss_one (ps_ret pe_bl)) pss_nil)
      (pss_cons (ps_set (i := 2) scHF.nd rfl (Or.inl rfl) (pe_ix ix_kdict (pe_glob (v := .ref aF) (by rfl) mFo rfl) (pe_ix ix_tup (pv 0) pe_int (fun _ _ => rfl)) (fun _ _ => rfl)))
      (pss_cons (ps_if (pt_cmpR op_ne (pe_callB call_len_seq (by rfl) mLen PySem.boot_len (pa_cons (pv 0) pa_nil)) (pe_op op_add (pe_callB call_len_seq (by rfl) mLen PySem.boot_len (pa_cons (pv 2) pa_nil)) pe_int) (nomark _)) (pss_one (ps_ret pe_bl)) pss_nil)
      (pss_one (ps_ret (pe_callB (cr_all rfl) (by rfl) mA (by decide +kernel) (pa_cons (pe_lc (own := [("told", 3), ("field", 4)]) (g := gTup K 2 (gCons (gName 3) (gCons (gName 4) gNil))) (te := tCall (spFld K) [] E0 (tCons (tVar 4) (tCons (tVar 3) tNil))) (by rfl) scHF.nd (RZ.pi_zipA (by rfl) mZip (pa_cons (pv 2) (pa_cons (pe_slice sl_tup (pv 0) (po_some pe_int) po_none) pa_nil)))
            (blkOk_by (own := [("told", 3), ("field", 4)]) (N := NHF) (sc := defScope sHF) (by decide +kernel)) (fun _ _ _ _ _ => by exact (pg_tup rfl (pgs_cons (by exact (pg_name (i := 3) scHF.nd rfl (Or.inl rfl))) (pgs_cons (by exact (pg_name (i := 4) scHF.nd rfl (Or.inl rfl))) pgs_nil)))) (fun _ _ _ _ _ => pts_nil)
            (fun _ _ _ _ _ => pe_call GF hr (by rfl) mF kF bF .nil pass0 (pa_cons (pv 4) (pa_cons (pv 3) pa_nil)))) pa_nil))))))), ?_⟩
    refine ⟨_, rfl, isT hv ⟨_, rfl, ?_⟩⟩
    cases hv with
    | non => exact iteT (iteT (q H same_id))
    | bl b => exact iteT (iteT (q H same_id))
    | int i => exact iteT (iteT (q H same_id))
    | str x => exact iteT (iteT (q H same_id))
    | lst _ => exact iteT (iteT (q H same_id))
    | dct _ => exact iteT (iteT (q H same_id))
    | @tup av xs l hseq hall =>
      refine iteF ⟨_, rfl, _, .inr (.inl ⟨_, hseq, rfl⟩), ?_⟩
      cases hall with
      | nil => exact iteT (iteT (q H same_id))
      | @cons u d vs fs hd hvs =>
        refine iteF ⟨_, rfl, av, _, 0, u, rfl, rfl, hseq, at_0 _ _, isS hd ⟨_, rfl, ?_⟩⟩
        cases hd with
        | non => exact iteT (q H same_id)
        | bl b => exact iteT (q H same_id)
        | int i => exact iteT (q H same_id)
        | tup _ _ => exact iteT (q H same_id)
        | lst _ => exact iteT (q H same_id)
        | dct _ => exact iteT (q H same_id)
        | str wd =>
          have hvl := dvl_len hvs
          simp only [okd, okdL, List.length_cons, Bool.and_eq_true, decide_eq_true_eq] at hok
          have eF : hasF k (.tup (.str wd :: fs)) = (begK wd k && (match formOf wd with
            | some ks => decide (fs.length = ks.length) && (List.range fs.length).all fun i => fldD (ks.getD i Str.empty) (fs.getD i .non)
            | none => false)) := rfl
          rw [eF] at q
          refine iteF ?_
          refine nx_run ?_
          dsimp only
          refine ⟨_, rfl, av, _, 0, _, rfl, rfl, hseq, at_0 _ _, _, rfl, wd, k, rfl, fun H1 s1 => ⟨_, rfl, ?_⟩⟩
          cases hbk : begK wd k with
          | false =>
            rw [hbk, Bool.false_and] at q
            exact iteT (q H1 s1)
          | true =>
            obtain ⟨ks, hk⟩ := begK_form hbk
            rw [hbk, Bool.true_and, hk] at q
            dsimp only at q
            have k4 : ks.length ≤ 4 := forms_len _ (lookup_mem hk)
            obtain ⟨aK, hK1, hK2⟩ := FK _ (lookup_mem hk)
            refine iteF ?_
            refine nx_run ?_
            dsimp only
            have seq1 := same_seqT s1 hseq
            refine asg_run ?_
            refine ⟨_, rfl, av, _, 0, _, rfl, rfl, seq1, at_0 _ _, aF, wd, _, rfl, rfl, hK1, ?_⟩
            refine ⟨_, rfl, av, _, rfl, .inr seq1, _, rfl, aK, _, rfl, .inr (hK2 H1), _, _, rfl, rfl, rfl, _, rfl, ?_⟩
            by_cases hl : fs.length = ks.length
            · rw [decide_eq_true hl, Bool.true_and] at q
              rw [decide_eq_true (show V.int ((V.str wd :: vs).length : Nat) = V.int (((ks.map V.str).length : Nat) + (1 : Int)) by
                congr 1
                rw [List.length_cons, List.length_map]
                omega)]
              refine iteF ?_
              refine nx_run ?_
              dsimp only
              refine ret_run ?_
              refine ⟨_, rfl, _, rfl, 1, rfl, av, _, rfl, seq1, cut_1w _ _, fun B nB => ?_⟩
              rw [cut_1]
              have sB := same_new (u := .tup vs) s1 nB
              have hB : (upd H1 B (.tup vs)) B = some (.tup vs) := upd_same
              generalize upd H1 B (.tup vs) = H2 at sB hB ⊢
              refine ⟨aK, B, ks.map V.str, vs, rfl, .inr ⟨hK2 H2, SqT.of hB, fun D nD => ?_⟩⟩
              refine ⟨fun i m H' => m + i = ks.length ∧ Same H2 H' ∧ H' D = some (.lst ((List.range i).map fun i => V.bl (fldD (ks.getD i Str.empty) (fs.getD i .non)))), ⟨ks.length, rfl, same_new same_id nD, upd_same⟩, fun i m H' hW => ?_⟩
              obtain ⟨em, s2, hD⟩ := hW
              have hBB := SqT.of (K := K) (s2 _ _ hB)
              have hlk : (ks.map V.str).length = ks.length := List.length_map ..
              by_cases hi : i < ks.length
              · have m1 : (ks.map V.str)[i]? = some (.str ks[i]) := by rw [List.getElem?_map, List.getElem?_eq_getElem hi]; rfl
                obtain ⟨y0, m2⟩ : ∃ y0, vs[i]? = some y0 := ⟨vs[i]'(by omega), List.getElem?_eq_getElem (by omega)⟩
                obtain ⟨f0, hf0, hyf⟩ := dvl_get hvs m2
                have e1 : ks.getD i Str.empty = ks[i] := by rw [List.getD_eq_getElem?_getD, List.getElem?_eq_getElem hi]; rfl
                have e2 : fs.getD i .non = f0 := by rw [List.getD_eq_getElem?_getD, hf0]; rfl
                refine .inr ⟨⟨_, _, _, _, hK2 H', hBB, m1, m2⟩, fun H3 => Same H2 H3 ∧ H3 D = some (.lst ((List.range (i + 1)).map fun i => V.bl (fldD (ks.getD i Str.empty) (fs.getD i .non)))), fun H3 hN => ⟨m - 1, by omega, by omega, hN.1, hN.2⟩, fun v H3 hy => ?_⟩
                obtain ⟨T1, x1, x2, rfl, nT, rfl, f1, f2⟩ := hy
                obtain rfl : x1 = .str ks[i] := Option.some.inj ((f1 _ (hK2 H')).symm.trans m1)
                obtain rfl : x2 = y0 := Option.some.inj ((f2 _ hBB).symm.trans m2)
                have nDT : D ≠ T1 := ne_of_none hD nT
                have sT : Same H2 (upd H' T1 (.tup [.str ks[i], x2])) := same_new s2 nT
                refine ⟨T1, _, rfl, SqT.of upd_same, rfl, _, _, rfl, _, _, rfl, rfl, rfl, _, rfl, _, rfl, x2, ks[i], f0, rfl, dvM (sB.trans sT) hyf, okd_get hok.2.2 hf0, fun H5 s5 => ?_⟩
                refine ⟨_, s5 _ _ ((upd_ne nDT).trans hD), small1000 (by rw [List.length_map, List.length_range]; omega), same_put (sT.trans s5) nD, ?_⟩
                rw [upd_same, List.range_succ, List.map_append, ← e1, ← e2]
                rfl
              · have hik : i = ks.length := by omega
                subst hik
                refine .inl ⟨⟨_, _, hK2 H', hBB, .inl (by show (ks.map V.str).length ≤ ks.length; omega)⟩, D, (List.range ks.length).map fun i => fldD (ks.getD i Str.empty) (fs.getD i .non), rfl, SqL.of (by rw [hD, List.map_map]; rfl), ?_⟩
                rw [all_map_id, ← hl]
                exact q H' (sB.trans s2)
            · rw [decide_eq_false hl, Bool.false_and] at q
              rw [decide_eq_false (show ¬ V.int ((V.str wd :: vs).length : Nat) = V.int (((ks.map V.str).length : Nat) + (1 : Int)) by
                intro z
                have z := V.int.inj z
                rw [List.length_cons, List.length_map] at z
                omega)]
              exact iteT (q H1 s1)
end
end Toy


namespace Toy
open PySem PySem.Spec L2 PyProof.Rows PySem.W
abbrev sKP : Stmt := top 23
abbrev NKP : List Str := ["term", "found", "kind", "field", "part", "_"]
/-! ### the parts of a form, with what they must be -/
def itemsD : Dt → List Dt
  | .tup l => l
  | _ => []
def kpK (k : Str) (f : Dt) : List (Str × Dt) := if PK k = true then [(k, f)] else if k = "filters" then (itemsD f).map fun g => (("filter" : Str), g) else if k = "entries" then (itemsD f).map fun e => (("filter" : Str), valD e) else []
def kpF : List Str → List Dt → List (Str × Dt)
  | k :: ks, f :: fs => kpK k f ++ kpF ks fs
  | _, _ => []
theorem kpF_take : ∀ (ks : List Str) (fs : List Dt) (i : Nat) {k : Str} {f : Dt}, ks[i]? = some k → fs[i]? = some f → kpF (ks.take (i + 1)) (fs.take (i + 1)) = kpF (ks.take i) (fs.take i) ++ kpK k f
  | k :: ks, f :: fs, 0, _, _, h1, h2 => by
    cases h1
    cases h2
    simp [kpF]
  | k :: ks, f :: fs, i + 1, _, _, h1, h2 => by
    have := kpF_take ks fs i (by simpa using h1) (by simpa using h2)
    simp only [List.take_succ_cons, kpF]
    rw [this, List.append_assoc]
  | [], _, _, _, _, h1, _ => by simp at h1
  | _ :: _, [], _, _, _, _, h2 => by simp at h2
def kpOf : Dt → List (Str × Dt)
  | .tup (.str x :: fs) => match formOf x with
    | some ks => kpF ks fs
    | none => []
  | _ => []
/-- at q a pair of what a part must be and the part, as H told it -/
def OKp (K : PySem.W.Frag) (H H' : Hp) (q : Addr) (p : Str × Dt) : Prop := ∃ v, H' q = some (.tup [.str p.1, v]) ∧ Dv K H v p.2
theorem okp_same {K : PySem.W.Frag} {H H1 H2 : Hp} {qs : List Addr} {ps : List (Str × Dt)} (s : Same H1 H2) (h : Paired (OKp K H H1) qs ps) : Paired (OKp K H H2) qs ps := L2.Paired.mapP h fun _ _ ⟨v, z, d⟩ => ⟨v, s _ _ z, d⟩
theorem okp_put {K : PySem.W.Frag} {H H1 : Hp} {L : Addr} {xs ys : List V} {qs : List Addr} {ps : List (Str × Dt)} (hL : H1 L = some (.lst xs)) (h : Paired (OKp K H H1) qs ps) : Paired (OKp K H (upd H1 L (.lst ys))) qs ps := L2.Paired.mapP h fun q p ⟨v, z, d⟩ => ⟨v, by
  rw [upd_ne (ne_of z hL (by intro e; cases e))]
  exact z, d⟩
theorem ent_casesE {t : Dt} (h : entD t = true) : ∃ k g, t = .tup [.str k, g] ∧ wordS k = true := by
  unfold entD at h
  split at h
  · exact ⟨_, _, rfl, h⟩
  · cases h
theorem paired_app {α β : Type} {F : α → β → Prop} : ∀ {xs : List α} {ys : List β} {us : List α} {vs : List β}, Paired F xs ys → Paired F us vs → Paired F (xs ++ us) (ys ++ vs)
  | _, _, _, _, .nil, r => r
  | _, _, _, _, .cons a b, r => .cons a (paired_app b r)
def spKP (K : PySem.W.Frag) : Sp := fun vs H Q _ => ∃ (v : V) (t : Dt) (k : Str) (H0 : Hp), vs = [v] ∧ Same H0 H ∧ Dv K H0 v t ∧ okd 300 t = true ∧ hasF k t = true ∧ ∀ H' L (qs : List Addr), Same H H' → H L = none → H' L = some (.lst (qs.map V.ref)) → Paired (OKp K H0 H') qs (kpOf t) → qs.length ≤ 1200 → Q (.ref L) H'
section
variable {P : Program} {w : World} {K : PySem.W.Frag} {mg : Str → Option Value} {base : Heap}
theorem scKP : FnScope NKP ["term"] (defScope sKP) := ⟨rfl, rfl, rfl, by decide +kernel, rfl, by decide +kernel, by decide +kernel⟩
theorem ok_kp {f aF aP : Addr} {fd : FuncData} (F : Fun K "kinds_and_parts" "kinds_and_parts" sKP f fd) (mFo : mg "FORMS" = some (.ref aF)) (FK : FormsK K w aF) (mPK : mg "PART_KINDS" = some (.ref aP)) (PKK : TupK K aP kinds4)
    (mZip : mg "zip" = none) : FnOk P w K mg base CX0 1 f fd ["term"] (spKP K) := by
  refine F.ok scKP (fun vs H Q E h => ?_) (fun cdv A outer s H vs Q E hr h => ?_)
  · obtain ⟨v, t, k, H0, rfl, _⟩ := h
    rfl
  · obtain ⟨v, t, k, H0, rfl, s0, hv, hok, hf, q⟩ := h
    obtain ⟨wd, fs, ks, rfl, hk, hkl, hfl⟩ := hasF_cases hf
    refine ⟨_, pss_cons (ps_set (i := 1) scKP.nd rfl (Or.inl rfl) (pe_lst pa_nil))
      (pss_cons (ps_for PassesOwn.never rfl (RZ.pi_zipA (by rfl) mZip (pa_cons (pe_ix ix_kdict (pe_glob (v := .ref aF) (by rfl) mFo rfl) (pe_ix ix_tup (pv 0) pe_int (fun _ _ => rfl)) (fun _ _ => rfl)) (pa_cons (pe_slice sl_tup (pv 0) (po_some pe_int) po_none) pa_nil)))
        (pg_tup (by rfl) (pgs_cons (pg_name (i := 2) scKP.nd rfl (.inl rfl)) (pgs_cons (pg_name (i := 3) scKP.nd rfl (.inl rfl)) pgs_nil)))
        (pss_one (ps_if (pt_cmpR op_in_seq (pv 2) (pe_glob (v := .ref aP) (by rfl) mPK rfl) (by rfl))
          (pss_one (ps_expr (pe_bm PySem.F.plainAttrs_list PySem.F.slot_list_append PySem.F.type_list_append mt_append (pv 1) (pa_cons (pe_tup (pa_cons (pv 2) (pa_cons (pv 3) pa_nil))) pa_nil))))
          (pss_one (ps_if (pt_cmpR op_eq (pv 2) pe_str (nomark _))
            (pss_one (ps_expr (pe_bm PySem.F.plainAttrs_list PySem.F.slot_list_extend PySem.F.type_list_extend mt_extend (pv 1) (pa_cons (pe_lc (own := [("part", 4)]) (g := gName 4) (te := tTup (tCons (tC (.str "filter")) (tCons (tVar 4) tNil))) (by rfl) scKP.nd (pi_tup (pv 3))
              (blkOk_by (own := [("part", 4)]) (N := NKP) (sc := defScope sKP) (by decide +kernel)) (fun _ _ _ _ _ => pg_name (i := 4) scKP.nd rfl (Or.inl rfl)) (fun _ _ _ _ _ => pts_nil)
              (fun _ _ _ _ _ => pe_tup (pa_cons pe_str (pa_cons (pv 4) pa_nil)))) pa_nil))))
            (pss_one (ps_if (pt_cmpR op_eq (pv 2) pe_str (nomark _))
              (pss_one (ps_expr (pe_bm PySem.F.plainAttrs_list PySem.F.slot_list_extend PySem.F.type_list_extend mt_extend (pv 1) (pa_cons (pe_lc (own := [("_", 5), ("part", 4)]) (g := gTup K 2 (gCons (gName 5) (gCons (gName 4) gNil))) (te := tTup (tCons (tC (.str "filter")) (tCons (tVar 4) tNil))) (by rfl) scKP.nd (pi_tup (pv 3))
                (blkOk_by (own := [("_", 5), ("part", 4)]) (N := NKP) (sc := defScope sKP) (by decide +kernel)) (fun _ _ _ _ _ => by exact (pg_tup rfl (pgs_cons (by exact (pg_name (i := 5) scKP.nd rfl (Or.inl rfl))) (pgs_cons (by exact (pg_name (i := 4) scKP.nd rfl (Or.inl rfl))) pgs_nil)))) (fun _ _ _ _ _ => pts_nil)
                (fun _ _ _ _ _ => pe_tup (pa_cons pe_str (pa_cons (pv 4) pa_nil)))) pa_nil))))
              pss_nil)))))))
      (pss_one (ps_ret (pv 1)))), ?_⟩
    cases hv with
    | @tup av xs _ hseq hall =>
    cases hall with
    | @cons v0 d0 vs ds h0 hvs =>
    cases h0
    have hseq := same_seqT s0 hseq
    have hvl := dvl_len hvs
    simp only [okd, okdL, List.length_cons, Bool.and_eq_true, decide_eq_true_eq] at hok
    have hmem := lookup_mem hk
    obtain ⟨aK, hK1, hK2⟩ := FK _ hmem
    have k4 : ks.length ≤ 4 := forms_len _ hmem
    have eK : kpOf (.tup (.str wd :: fs)) = kpF ks fs := by
      unfold kpOf
      simp only [hk]
    rw [eK] at q
    refine ⟨few (by show 0 ≤ 1000; decide), fun L nL => ?_⟩
    have sL : Same H (upd H L (.lst [])) := same_new same_id nL
    have q1 : SqT K (upd H L (.lst [])) av (.str wd :: vs) := same_seqT sL hseq
    have hL0 : (upd H L (.lst [])) L = some (.lst []) := upd_same
    generalize upd H L (.lst []) = H1 at sL q1 hL0 ⊢
    refine ⟨_, rfl, av, _, 0, _, rfl, rfl, q1, at_0 _ _, aF, wd, _, rfl, rfl, hK1, _, rfl, 1, rfl, av, _, rfl, q1, cut_1w _ _, fun B nB => ?_⟩
    rw [cut_1]
    have nLB : L ≠ B := ne_of_none hL0 nB
    have hB : (upd H1 B (.tup vs)) B = some (.tup vs) := upd_same
    have hLB : (upd H1 B (.tup vs)) L = some (.lst []) := (upd_ne nLB).trans hL0
    have sHB : Same H (upd H1 B (.tup vs)) := same_new sL nB
    generalize upd H1 B (.tup vs) = H4 at hB hLB sHB ⊢
    refine ⟨aK, B, ks.map V.str, vs, rfl, .inr ⟨hK2 H4, SqT.of hB, ?_⟩⟩
    refine RZ.for_zipT (K := K) (a := aK) (b := B) (xs := ks.map V.str) (ys := vs) (by rw [List.length_map]; omega) (fun i σ H' => ∃ (qs : List Addr) (a b : Option V), σ = [some (.ref av), some (.ref L), a, b, none, none] ∧ Same H H' ∧ H' L = some (.lst (qs.map V.ref)) ∧ H' B = some (.tup vs) ∧ Paired (OKp K H0 H') qs (kpF (ks.take i) (fs.take i)) ∧ qs.length ≤ 300 * i)
      ⟨[], none, none, rfl, sHB, hLB, hB, .nil, Nat.zero_le _⟩ ?_ ?_ ?_
    · rintro i σ H' ⟨qs, a, b, _, _, _, e, _⟩
      exact ⟨hK2 H', SqT.of e⟩
    · rintro i k y T σ H5 hk5 hy ⟨qs, a, b, rfl, s5, hM, hB5, hqs, hlen⟩ nT
      have hi : i < vs.length := by
        rcases Nat.lt_or_ge i vs.length with z | z
        · exact z
        · rw [List.getElem?_eq_none z] at hy
          cases hy
      have z4 := sizeLine_eq
      obtain ⟨f0, hf0, hyf⟩ := dvl_get hvs hy
      have hki : ks[i]? = some ks[i] := List.getElem?_eq_getElem (by omega)
      have hfo := hfl i (by omega)
      have e1 : ks.getD i Str.empty = ks[i] := by rw [List.getD_eq_getElem?_getD, hki]; rfl
      have e2 : fs.getD i .non = f0 := by rw [List.getD_eq_getElem?_getD, hf0]; rfl
      rw [e1, e2] at hfo
      generalize ks[i] = k0 at hki hfo
      have ek : k = .str k0 := by
        rw [List.getElem?_map, hki] at hk5
        exact (Option.some.inj hk5).symm
      subst ek
      have hpt := kpF_take ks fs i hki hf0
      have hokf := okd_get hok.2.2 hf0
      have nMT : L ≠ T := ne_of_none hM nT
      have nBT : B ≠ T := ne_of_none hB5 nT
      have sT1 : Same H5 (upd H5 T (.tup [.str k0, y])) := same_new same_id nT
      have sT : Same H (upd H5 T (.tup [.str k0, y])) := same_new s5 nT
      have hMT : (upd H5 T (.tup [.str k0, y])) L = some (.lst (qs.map V.ref)) := (upd_ne nMT).trans hM
      have hBT : (upd H5 T (.tup [.str k0, y])) B = some (.tup vs) := (upd_ne nBT).trans hB5
      have hqT := okp_same sT1 hqs
      refine ⟨T, _, rfl, SqT.of upd_same, rfl, _, _, rfl, _, _, rfl, rfl, ?_⟩
      generalize upd H5 T (.tup [.str k0, y]) = H6 at sT hMT hBT hqT ⊢
      refine ⟨_, rfl, aP, _, rfl, .inr (PKK H6), rfl, flat_strs kinds4, _, rfl, ?_⟩
      have ein : inV (V.str k0) (kinds4.map V.str) = PK k0 := inV_strs k0 kinds4
      show (if inV (V.str k0) (kinds4.map V.str) = true then _ else _)
      rw [ein]
      refine ite2 (fun c1 => ?_) (fun c1 => ?_)
      · have ep : kpK k0 f0 = [(k0, f0)] := by unfold kpK; rw [if_pos c1]
        refine ⟨_, rfl, .inl ⟨rfl, _, SqL.of hMT⟩, _, rfl, _, rfl, few (by show 2 ≤ 1000; decide), fun T2 nT2 => ?_⟩
        have nLT2 : L ≠ T2 := ne_of_none hMT nT2
        refine ⟨L, qs.map V.ref, .ref T2, rfl, rfl, (upd_ne nLT2).trans hMT, by rw [List.length_map]; omega, ?_⟩
        refine ⟨qs ++ [T2], _, _, rfl, same_put (same_new sT nT2) nL, by rw [upd_same, List.map_append]; rfl, ?_, ?_, ?_⟩
        · rw [upd_ne (ne_of hBT hMT (by intro e; cases e)), upd_ne (ne_of_none hBT nT2)]
          exact hBT
        · rw [hpt, ep]
          exact Paired.snoc (okp_put ((upd_ne nLT2).trans hMT) (okp_same (same_new same_id nT2) hqT)) ⟨y, by show upd _ _ _ _ = _; rw [upd_ne nLT2.symm, upd_same], hyf⟩
        · rw [List.length_append, List.length_singleton]
          omega
      have hPn := c1
      refine ⟨_, rfl, rfl, _, rfl, ite2 (fun c2 => ?_) (fun c2 => ?_)⟩
      · have hE : k0 = "filters" := V.str.inj (of_decide_eq_true c2)
        subst hE
        cases hyf with
        | @tup ay zs gs hzq hza =>
          simp only [okd, Bool.and_eq_true, decide_eq_true_eq] at hokf
          have hzq := same_seqT s0 hzq
          have zl := dvl_len hza
          have ep : kpK "filters" (.tup gs) = gs.map fun g => (("filter" : Str), g) := by
            unfold kpK
            rw [if_neg hPn, if_pos rfl]
            rfl
          refine ⟨_, rfl, .inl ⟨rfl, _, SqL.of hMT⟩, _, rfl, ay, rfl, ⟨zs, same_seqT sT hzq⟩, fun D nD => ?_⟩
          have nLD : L ≠ D := ne_of_none hMT nD
          refine lc_tup (K := K) (a := ay) (xs := zs) (fun j H' => ∃ (rs : List Addr), Same H6 H' ∧ H' D = some (.lst (rs.map V.ref)) ∧ Paired (OKp K H0 H') rs ((gs.take j).map fun g => (("filter" : Str), g))) ⟨[], same_new same_id nD, upd_same, .nil⟩ ?_ ?_ ?_
          · rintro j H' _ ⟨rs, s7, _⟩
            exact same_seqT (sT.trans s7) hzq
          · rintro j z H' hz ⟨rs, s7, hD, hrs⟩
            obtain ⟨g0, hg0, hzg⟩ := dvl_get hza hz
            have lrs := Paired.length hrs
            rw [List.length_map, List.length_take] at lrs
            refine ⟨rfl, _, rfl, few (by show 2 ≤ 1000; decide), fun T2 nT2 => ?_⟩
            have nDT2 : D ≠ T2 := ne_of_none hD nT2
            refine ⟨rs.map V.ref, (upd_ne nDT2).trans hD, by rw [List.length_map]; omega, rs ++ [T2], ?_, by rw [upd_same, List.map_append]; rfl, ?_⟩
            · intro b' o ho
              rw [upd_ne (ne_of_none ho nD), upd_ne (ne_of_none (s7 _ _ ho) nT2)]
              exact s7 _ _ ho
            · rw [List.take_add_one, hg0, List.map_append]
              exact Paired.snoc (okp_put ((upd_ne nDT2).trans hD) (okp_same (same_new same_id nT2) hrs)) ⟨z, by show upd _ _ _ _ = _; rw [upd_ne nDT2.symm, upd_same], hzg⟩
          · rintro H7 ⟨rs, s7, hD, hrs⟩
            rw [zl, List.take_length] at hrs
            have lrs := Paired.length hrs
            rw [List.length_map] at lrs
            have hM7 := s7 _ _ hMT
            refine ⟨L, D, qs.map V.ref, rs.map V.ref, rfl, rfl, hM7, hD, by rw [List.length_map, List.length_map]; omega, ?_⟩
            refine ⟨qs ++ rs, _, _, rfl, same_put (sT.trans s7) nL, by rw [upd_same, List.map_append], ?_, ?_, ?_⟩
            · rw [upd_ne (ne_of (s7 _ _ hBT) hM7 (by intro e; cases e))]
              exact s7 _ _ hBT
            · rw [hpt, ep]
              exact paired_app (okp_put hM7 (okp_same s7 hqT)) (okp_put hM7 hrs)
            · rw [List.length_append]
              omega
        | _ => exact absurd hfo (by simp [fldD, show PK "filters" = false from by decide +kernel, show ¬ (("filters" : Str) = "key") from by decide +kernel, show ¬ (("filters" : Str) = "free") from by decide +kernel, show ¬ (("filters" : Str) = "index") from by decide +kernel, show ¬ (("filters" : Str) = "leaf") from by decide +kernel, show ¬ (("filters" : Str) = "sort") from by decide +kernel])
      refine ⟨_, rfl, rfl, _, rfl, ite2 (fun c3 => ?_) (fun c3 => ?_)⟩
      · have hE : k0 = "entries" := V.str.inj (of_decide_eq_true c3)
        subst hE
        have hen : ∃ gs, f0 = .tup gs ∧ entsD gs = true := by
          cases f0 with
          | tup gs =>
            refine ⟨gs, rfl, ?_⟩
            simpa [fldD, show PK "entries" = false from by decide +kernel, show ¬ (("entries" : Str) = "key") from by decide +kernel, show ¬ (("entries" : Str) = "free") from by decide +kernel, show ¬ (("entries" : Str) = "index") from by decide +kernel, show ¬ (("entries" : Str) = "leaf") from by decide +kernel, show ¬ (("entries" : Str) = "sort") from by decide +kernel, show ¬ (("entries" : Str) = "filters") from by decide +kernel, show ¬ (("entries" : Str) = "parameters") from by decide +kernel] using hfo
          | _ => exact absurd hfo (by simp [fldD, show PK "entries" = false from by decide +kernel, show ¬ (("entries" : Str) = "key") from by decide +kernel, show ¬ (("entries" : Str) = "free") from by decide +kernel, show ¬ (("entries" : Str) = "index") from by decide +kernel, show ¬ (("entries" : Str) = "leaf") from by decide +kernel, show ¬ (("entries" : Str) = "sort") from by decide +kernel])
        obtain ⟨gs, rfl, hen⟩ := hen
        have hae : gs.all entD = true := by
          unfold entsD at hen
          rw [Bool.and_eq_true] at hen
          exact hen.1
        simp only [okd, Bool.and_eq_true, decide_eq_true_eq] at hokf
        cases hyf with
        | @tup ay zs _ hzq hza =>
          have hzq := same_seqT s0 hzq
          have zl := dvl_len hza
          have ep : kpK "entries" (.tup gs) = gs.map fun e => (("filter" : Str), valD e) := by
            unfold kpK
            rw [if_neg hPn, if_neg (by decide +kernel), if_pos rfl]
            rfl
          refine ⟨_, rfl, .inl ⟨rfl, _, SqL.of hMT⟩, _, rfl, ay, rfl, ⟨zs, same_seqT sT hzq⟩, fun D nD => ?_⟩
          have nLD : L ≠ D := ne_of_none hMT nD
          refine lc_tup (K := K) (a := ay) (xs := zs) (fun j H' => ∃ (rs : List Addr), Same H6 H' ∧ H' D = some (.lst (rs.map V.ref)) ∧ Paired (OKp K H0 H') rs ((gs.take j).map fun e => (("filter" : Str), valD e))) ⟨[], same_new same_id nD, upd_same, .nil⟩ ?_ ?_ ?_
          · rintro j H' _ ⟨rs, s7, _⟩
            exact same_seqT (sT.trans s7) hzq
          · rintro j z H' hz ⟨rs, s7, hD, hrs⟩
            obtain ⟨g0, hg0, hzg⟩ := dvl_get hza hz
            obtain ⟨kx, g', rfl, _⟩ := ent_casesE (List.all_eq_true.mp hae g0 (List.mem_of_getElem? hg0))
            cases hzg with
            | @tup az es _ heq hea =>
            cases hea with
            | @cons e0 _ es1 _ k0' hea1 =>
            cases hea1 with
            | @cons e1v _ es2 _ k1' hea2 =>
            cases hea2
            have heq := same_seqT s0 heq
            have lrs := Paired.length hrs
            rw [List.length_map, List.length_take] at lrs
            refine ⟨az, _, rfl, same_seqT (sT.trans s7) heq, rfl, _, _, rfl, _, _, rfl, rfl, rfl, _, rfl, few (by show 2 ≤ 1000; decide), fun T2 nT2 => ?_⟩
            have nDT2 : D ≠ T2 := ne_of_none hD nT2
            refine ⟨rs.map V.ref, (upd_ne nDT2).trans hD, by rw [List.length_map]; omega, rs ++ [T2], ?_, by rw [upd_same, List.map_append]; rfl, ?_⟩
            · intro b' o ho
              rw [upd_ne (ne_of_none ho nD), upd_ne (ne_of_none (s7 _ _ ho) nT2)]
              exact s7 _ _ ho
            · rw [List.take_add_one, hg0, List.map_append]
              exact Paired.snoc (okp_put ((upd_ne nDT2).trans hD) (okp_same (same_new same_id nT2) hrs)) ⟨e1v, by show upd _ _ _ _ = _; rw [upd_ne nDT2.symm, upd_same], k1'⟩
          · rintro H7 ⟨rs, s7, hD, hrs⟩
            rw [zl, List.take_length] at hrs
            have lrs := Paired.length hrs
            rw [List.length_map] at lrs
            have hM7 := s7 _ _ hMT
            refine ⟨L, D, qs.map V.ref, rs.map V.ref, rfl, rfl, hM7, hD, by rw [List.length_map, List.length_map]; omega, ?_⟩
            refine ⟨qs ++ rs, _, _, rfl, same_put (sT.trans s7) nL, by rw [upd_same, List.map_append], ?_, ?_, ?_⟩
            · rw [upd_ne (ne_of (s7 _ _ hBT) hM7 (by intro e; cases e))]
              exact s7 _ _ hBT
            · rw [hpt, ep]
              exact paired_app (okp_put hM7 (okp_same s7 hqT)) (okp_put hM7 hrs)
            · rw [List.length_append]
              omega
      · have n1 : ¬ k0 = "filters" := fun e => c2 (by rw [e]; exact decide_eq_true rfl)
        have n2 : ¬ k0 = "entries" := fun e => c3 (by rw [e]; exact decide_eq_true rfl)
        have ep : kpK k0 f0 = [] := by
          unfold kpK
          rw [if_neg hPn, if_neg n1, if_neg n2]
        refine ⟨qs, _, _, rfl, sT, hMT, hBT, ?_, by omega⟩
        rw [hpt, ep, List.append_nil]
        exact hqT
    · rintro σ H5 ⟨qs, a, b, rfl, s5, hM, hB5, hqs, hlen⟩
      rw [List.length_map] at hlen
      rw [List.length_map, List.take_length, show fs.take ks.length = fs by rw [← hkl, List.take_length]] at hqs
      exact ⟨_, rfl, q H5 L qs s5 nL hM hqs (by omega)⟩
end
end Toy


namespace Toy
open PySem PySem.Spec L2 PyProof.Rows PySem.W
abbrev sOK : Stmt := top 30
abbrev sIT : Stmt := top 29
abbrev NOK : List Str := ["value", "kind", "waiting", "many", "term", "wanted", "level", "inner", "told", "part"]
/-! ### what the program answers: right in form, not too deep, not too many -/
def okk : Nat → Str → Dt → Bool
  | 0, _, _ => false
  | n + 1, k, t => hasF k t && (kpOf t).all fun p => okk n (nar k p.1) p.2
def maxL : List Nat → Nat
  | [] => 0
  | a :: l => max a (maxL l)
def lev : Nat → Dt → Nat
  | 0, _ => 1
  | n + 1, t => 1 + maxL ((kpOf t).map fun p => lev n p.2)
def spo : Nat → Dt → Nat
  | 0, _ => 1
  | n + 1, t => 1 + ((kpOf t).map fun p => spo n p.2).sum
theorem lev_pos : ∀ n t, 1 ≤ lev n t
  | 0, _ => Nat.le_refl _
  | n + 1, t => by rw [lev]; omega
theorem spo_pos : ∀ n t, 1 ≤ spo n t
  | 0, _ => Nat.le_refl _
  | n + 1, t => by rw [spo]; omega
theorem maxL_le {l : List Nat} {m : Nat} : maxL l ≤ m ↔ ∀ x ∈ l, x ≤ m := by
  induction l with
  | nil => simp [maxL]
  | cons a l ih =>
    rw [maxL, Nat.max_le, ih]
    simp
abbrev Itm := Nat × Str × Dt × Nat
def fine1 (e : Itm) : Bool := okk e.1 e.2.1 e.2.2.1 && decide (e.2.2.2 + lev e.1 e.2.2.1 ≤ 41)
def spoI (e : Itm) : Nat := spo e.1 e.2.2.1
def fine (ws : List Itm) (many : Nat) : Bool := ws.all fine1 && decide (many + (ws.map fun e => spoI e - 1).sum ≤ 200)
def totI (ws : List Itm) : Nat := (ws.map spoI).sum
def kidsI (n : Nat) (k : Str) (t : Dt) (lv : Nat) : List Itm := (kpOf t).map fun p => (n, nar k p.1, p.2, lv + 1)
theorem sum_minus : ∀ ws : List Itm, (ws.map fun e => spoI e - 1).sum + ws.length = totI ws
  | [] => rfl
  | e :: ws => by
    have := sum_minus ws
    have := spo_pos e.1 e.2.2.1
    unfold totI at *
    simp only [List.map_cons, List.sum_cons, List.length_cons]
    unfold spoI at *
    omega
theorem totI_app (a b : List Itm) : totI (a ++ b) = totI a + totI b := by
  unfold totI
  rw [List.map_append, List.sum_append]
theorem len_le_totI : ∀ ws : List Itm, ws.length ≤ totI ws := fun ws => by
  have := sum_minus ws
  omega
theorem tot_kids (n : Nat) (k : Str) (t : Dt) (lv : Nat) : totI (kidsI n k t lv) + 1 = spo (n + 1) t := by
  unfold totI kidsI
  rw [spo, List.map_map]
  show ((kpOf t).map fun p => spo n p.2).sum + 1 = _
  omega
theorem fine_pop {wi : List Itm} {n lv many : Nat} {k : Str} {t : Dt} (hf : hasF k t = true) (hl : lv ≤ 40) : fine (wi ++ [(n + 1, k, t, lv)]) many = fine (wi ++ kidsI n k t lv) (many + (kpOf t).length) := by
  have e1 : fine1 (n + 1, k, t, lv) = (kidsI n k t lv).all fine1 := by
    unfold fine1 kidsI
    rw [okk, hf, Bool.true_and, List.all_map]
    rw [Bool.eq_iff_iff, Bool.and_eq_true, List.all_eq_true, List.all_eq_true, decide_eq_true_eq]
    simp only [Function.comp_apply, Bool.and_eq_true, decide_eq_true_eq]
    rw [show (lv + lev (n + 1) t ≤ 41) ↔ ∀ p ∈ kpOf t, lv + 1 + lev n p.2 ≤ 41 by
      rw [lev]
      constructor
      · intro z p hp
        have : maxL ((kpOf t).map fun p => lev n p.2) ≤ 40 - lv := by omega
        have := (maxL_le.mp this) (lev n p.2) (List.mem_map.mpr ⟨p, hp, rfl⟩)
        omega
      · intro z
        have : maxL ((kpOf t).map fun p => lev n p.2) ≤ 40 - lv := maxL_le.mpr fun x hx => by
          obtain ⟨p, hp, rfl⟩ := List.mem_map.mp hx
          have := z p hp
          omega
        omega]
    exact ⟨fun h p hp => ⟨h.1 p hp, h.2 p hp⟩, fun h => ⟨fun p hp => (h p hp).1, fun p hp => (h p hp).2⟩⟩
  have e2 := sum_minus (kidsI n k t lv)
  have e3 := tot_kids n k t lv
  have e4 : (kidsI n k t lv).length = (kpOf t).length := by unfold kidsI; rw [List.length_map]
  unfold fine
  rw [List.all_append, List.all_append, List.map_append, List.map_append, List.sum_append, List.sum_append]
  simp only [List.all_cons, List.all_nil, Bool.and_true, List.map_cons, List.map_nil, List.sum_cons, List.sum_nil]
  rw [e1]
  congr 1
  refine decide_eq_decide.mpr ?_
  have e5 : spoI (n + 1, k, t, lv) = spo (n + 1) t := rfl
  omega
theorem fine_deep {wi : List Itm} {e : Itm} {many : Nat} (h : 40 < e.2.2.2) : fine (wi ++ [e]) many = false := by
  have := lev_pos e.1 e.2.2.1
  unfold fine
  rw [List.all_append]
  simp only [List.all_cons, List.all_nil]
  unfold fine1
  rw [decide_eq_false (by omega)]
  simp
theorem fine_form {wi : List Itm} {n lv many : Nat} {k : Str} {t : Dt} (h : hasF k t = false) : fine (wi ++ [(n + 1, k, t, lv)]) many = false := by
  unfold fine
  rw [List.all_append]
  simp only [List.all_cons, List.all_nil]
  unfold fine1
  rw [okk, h]
  simp
theorem fine_many {wi : List Itm} {n lv many : Nat} {k : Str} {t : Dt} (h : 200 < many + (kpOf t).length) : fine (wi ++ [(n + 1, k, t, lv)]) many = false := by
  have e3 := tot_kids n k t lv
  have e4 := len_le_totI (kidsI n k t lv)
  have e5 : (kidsI n k t lv).length = (kpOf t).length := by unfold kidsI; rw [List.length_map]
  unfold fine
  rw [List.map_append, List.sum_append]
  simp only [List.map_cons, List.map_nil, List.sum_cons, List.sum_nil]
  have e6 : spoI (n + 1, k, t, lv) = spo (n + 1) t := rfl
  rw [decide_eq_false (show ¬ many + ((wi.map fun e => spoI e - 1).sum + (spoI (n + 1, k, t, lv) - 1 + 0)) ≤ 200 by omega), Bool.and_false]
/-! a part is less deep than what it is part of -/
theorem kpF_dep {ks : List Str} {fs : List Dt} : ∀ p ∈ kpF ks fs, dep p.2 ≤ depL fs ∧ (okdL 300 fs = true → okd 300 p.2 = true) := by
  induction ks generalizing fs with
  | nil => intro p hp; simp [kpF] at hp
  | cons k ks ih =>
    cases fs with
    | nil => intro p hp; simp [kpF] at hp
    | cons f fs =>
      intro p hp
      rw [kpF, List.mem_append] at hp
      rw [depL, okdL, Bool.and_eq_true]
      rcases hp with hp | hp
      · have key : dep p.2 ≤ dep f ∧ (okd 300 f = true → okd 300 p.2 = true) := by
          unfold kpK at hp
          split at hp
          · rw [List.mem_singleton] at hp
            subst hp
            exact ⟨Nat.le_refl _, id⟩
          · split at hp
            · obtain ⟨g, hg, rfl⟩ := List.mem_map.mp hp
              cases f with
              | tup l =>
                have h1 := dep_mem hg
                refine ⟨by rw [dep]; show dep g ≤ _; exact Nat.le_succ_of_le h1, fun h => ?_⟩
                rw [okd, Bool.and_eq_true, okdL_all] at h
                exact List.all_eq_true.mp h.2 g hg
              | _ => simp [itemsD] at hg
            · split at hp
              · obtain ⟨g, hg, rfl⟩ := List.mem_map.mp hp
                cases f with
                | tup l =>
                  have h1 : dep g ≤ depL l := dep_mem hg
                  have h2 : dep (valD g) ≤ dep g ∧ (okd 300 g = true → okd 300 (valD g) = true) := by
                    unfold valD
                    split
                    · rename_i a b
                      refine ⟨by simp only [dep, depL]; omega, fun h => ?_⟩
                      simp only [okd, okdL, Bool.and_eq_true] at h
                      exact h.2.2.1
                    · exact ⟨Nat.le_refl _, id⟩
                  refine ⟨by rw [dep]; show dep (valD g) ≤ _; exact Nat.le_succ_of_le (Nat.le_trans h2.1 h1), fun h => ?_⟩
                  rw [okd, Bool.and_eq_true, okdL_all] at h
                  exact h2.2 (List.all_eq_true.mp h.2 g hg)
                | _ => simp [itemsD] at hg
              · simp at hp
        exact ⟨by omega, fun h => key.2 h.1⟩
      · have := ih p hp
        exact ⟨by omega, fun h => this.2 h.2⟩
theorem kp_dep {t : Dt} : ∀ p ∈ kpOf t, dep p.2 < dep t ∧ (okd 300 t = true → okd 300 p.2 = true) := by
  intro p hp
  unfold kpOf at hp
  split at hp
  · rename_i x fs
    split at hp
    · rename_i ks _
      have z := kpF_dep p hp
      refine ⟨by simp only [dep, depL]; omega, fun h => ?_⟩
      simp only [okd, okdL, Bool.and_eq_true] at h
      exact z.2 h.2.2
    · simp at hp
  · simp at hp
def OI (K : PySem.W.Frag) (H H' : Hp) (q : Addr) (e : Itm) : Prop := ∃ u : V, H' q = some (.tup [u, .str e.2.1, .int (e.2.2.2 : Nat)]) ∧ Dv K H u e.2.2.1 ∧ dep e.2.2.1 < e.1 ∧ okd 300 e.2.2.1 = true
theorem OI.put {K : PySem.W.Frag} {H H' : Hp} {q : Addr} {e : Itm} {L : Addr} {xs ys : List V} (h : OI K H H' q e) (hL : H' L = some (.lst xs)) : OI K H (upd H' L (.lst ys)) q e := by
  obtain ⟨u, h1, h2⟩ := h
  exact ⟨u, (upd_ne (ne_of h1 hL (by intro e; cases e))).trans h1, h2⟩
theorem OI.same {K : PySem.W.Frag} {H H1 H2 : Hp} {q : Addr} {e : Itm} (h : OI K H H1 q e) (s : Same H1 H2) : OI K H H2 q e := by
  obtain ⟨u, h1, h2⟩ := h
  exact ⟨u, s _ _ h1, h2⟩
theorem paired_snoc {α β : Type} {F : α → β → Prop} {xs : List α} {ys : List β} {y : β} (h : Paired F xs (ys ++ [y])) : ∃ xi x, xs = xi ++ [x] ∧ Paired F xi ys ∧ F x y := by
  induction ys generalizing xs with
  | nil =>
    cases h with
    | cons a b =>
      cases b
      exact ⟨[], _, rfl, .nil, a⟩
  | cons z ys ih =>
    cases h with
    | cons a b =>
      obtain ⟨xi, x, rfl, h1, h2⟩ := ih b
      exact ⟨_ :: xi, x, rfl, .cons a h1, h2⟩
theorem fresh_of {H H1 : Hp} {p : Addr} (s : Same H H1) (n : H1 p = none) : H p = none := by
  cases e : H p with
  | none => rfl
  | some o =>
    rw [s _ _ e] at n
    cases n
def spOK (K : PySem.W.Frag) : Sp := fun vs H Q _ => ∃ (v : V) (n : Nat) (t : Dt) (k : Str), vs = [v, .str k] ∧ Dv K H v t ∧ okd 300 t = true ∧ dep t < n ∧ spo n t ≤ 10000000 ∧ ∀ H', Same H H' → Q (.bl (fine [(n, k, t, 1)] 1)) H'
def spIK (K : PySem.W.Frag) (k : Str) : Sp := fun vs H Q _ => ∃ (v : V) (n : Nat) (t : Dt), vs = [v] ∧ Dv K H v t ∧ okd 300 t = true ∧ dep t < n ∧ spo n t ≤ 10000000 ∧ ∀ H', Same H H' → Q (.bl (fine [(n, k, t, 1)] 1)) H'
def OW (K : PySem.W.Frag) (H : Hp) (v kv : V) (L : Addr) (b : Bool) (mm : Nat) (σ : L2.St) (H' : Hp) : Prop := ∃ (o4 o5 o6 o7 : Option V) (many : Nat) (ys : List Addr) (ws : List Itm), σ = [some v, some kv, some (.ref L), some (.int (many : Nat)), o4, o5, o6, o7, none, none] ∧ Same H H' ∧ H' L = some (.lst (ys.map V.ref)) ∧ Paired (OI K H H') ys ws ∧ totI ws ≤ 10000000 ∧ mm = totI ws ∧ many ≤ 200 ∧ fine ws many = b
section
variable {P : Program} {w : World} {K : PySem.W.Frag} {mg : Str → Option Value} {base : Heap}
theorem scOK : FnScope NOK ["value", "kind"] (defScope sOK) := ⟨rfl, rfl, rfl, by decide +kernel, rfl, by decide +kernel, by decide +kernel⟩
theorem scIT : FnScope ["value"] ["value"] (defScope sIT) := ⟨rfl, rfl, rfl, by decide +kernel, rfl, by decide +kernel, by decide +kernel⟩
theorem ok_of {f fH fK fN : Addr} {fd fdH fdK fdN : FuncData} {u40 u200 : Value} (F : Fun K "_is_of_kind" "_is_of_kind" sOK f fd) (m1 : mg "MOST_LEVELS" = some u40) (r1 : RelV (.int 40) u40) (m2 : mg "MOST_SPOTS" = some u200) (r2 : RelV (.int 200) u200)
    (GH : FnOk P w K mg base CX0 4 fH fdH ["value", "kind"] (spHF K)) (mH : mg "_has_form" = some (.ref fH)) (kH : PySem.W.keepIn K (.ref fH) = true) (bH : Binds K fdH ["value", "kind"] [])
    (GK : FnOk P w K mg base CX0 1 fK fdK ["term"] (spKP K)) (mK : mg "kinds_and_parts" = some (.ref fK)) (kK : PySem.W.keepIn K (.ref fK) = true) (bK : Binds K fdK ["term"] [])
    (GN : FnOk P w K mg base CX0 1 fN fdN ["outer", "kind"] spNar) (mN : mg "narrowed" = some (.ref fN)) (kN : PySem.W.keepIn K (.ref fN) = true) (bN : Binds K fdN ["outer", "kind"] [])
    (mLen : mg "len" = none) : FnOk P w K mg base CX0 5 f fd ["value", "kind"] (spOK K) := by
  refine F.ok scOK (fun vs H Q E h => ?_) (fun cdv A outer s H vs Q E hr h => ?_)
  · obtain ⟨v, n, t, k, rfl, _⟩ := h
    rfl
  · obtain ⟨v, n, t, k, rfl, hv, hok, hdep, hz, q⟩ := h
    have hr1 : Room 1 _ := hr.mono (show 1 ≤ 4 by omega)
    refine ⟨_, pss_cons (ps_set (i := 2) scOK.nd rfl (Or.inl rfl) (pe_lst (pa_cons (pe_tup (pa_cons (pv 0) (pa_cons (pv 1) (pa_cons pe_int pa_nil)))) pa_nil)))
      (pss_cons (ps_set (i := 3) scOK.nd rfl (Or.inl rfl) pe_int)
      (pss_cons (ps_while PassesOwn.never (pt_truth (pv 2) (by intro _; rfl))
        (pss_cons (ps_asg (pe_bm0 PySem.F.plainAttrs_list PySem.F.slot_list_pop PySem.F.type_list_pop mt_pop (pv 2)) (pg_tup (by rfl) (pgs_cons (pg_name (i := 4) scOK.nd rfl (.inl rfl)) (pgs_cons (pg_name (i := 5) scOK.nd rfl (.inr rfl)) (pgs_cons (pg_name (i := 6) scOK.nd rfl (.inr rfl)) pgs_nil)))))
        (pss_cons (ps_if (PW.pt (pw_or (pt_cmpR op_gt (pv 6) (pe_glob (v := .int 40) (by rfl) m1 r1) (nomark _)) (pw_or1 (pt_not (pt_val (pe_call GH hr (by rfl) mH kH bH .nil pass0 (pa_cons (pv 4) (pa_cons (pv 5) pa_nil)))))))) (pss_one (ps_ret pe_bl)) pss_nil)
        (pss_cons (ps_set (i := 7) scOK.nd rfl (Or.inl rfl) (pe_call GK hr1 (by rfl) mK kK bK .nil pass0 (pa_cons (pv 4) pa_nil)))
        (pss_cons (ps_aug (i := 3) scOK.nd rfl (Or.inl rfl) (pe_callB call_len_seq (by rfl) mLen PySem.boot_len (pa_cons (pv 7) pa_nil)) ip_add)
        (pss_cons (ps_if (pt_cmpR op_gt (pv 3) (pe_glob (v := .int 200) (by rfl) m2 r2) (nomark _)) (pss_one (ps_ret pe_bl)) pss_nil)
        (pss_one (ps_expr (pe_bm PySem.F.plainAttrs_list PySem.F.slot_list_extend PySem.F.type_list_extend mt_extend (pv 2) (pa_cons (pe_lc (own := [("told", 8), ("part", 9)]) (g := gTup K 2 (gCons (gName 8) (gCons (gName 9) gNil))) (te := tTup (tCons (tVar 9) (tCons (tCall spNar [] E0 (tCons (tVar 5) (tCons (tVar 8) tNil))) (tCons (tOp rAdd (tVar 6) (tC (.int 1))) tNil)))) (by rfl) scOK.nd (pi_list (pv 7))
            (blkOk_by (own := [("told", 8), ("part", 9)]) (N := NOK) (sc := defScope sOK) (by decide +kernel)) (fun _ _ _ _ _ => by exact (pg_tup rfl (pgs_cons (by exact (pg_name (i := 8) scOK.nd rfl (Or.inl rfl))) (pgs_cons (by exact (pg_name (i := 9) scOK.nd rfl (Or.inl rfl))) pgs_nil)))) (fun _ _ _ _ _ => pts_nil)
            (fun _ _ _ _ _ => pe_tup (pa_cons (pv 9) (pa_cons (pe_call GN hr1 (by rfl) mN kN bN .nil pass0 (pa_cons (pv 5) (pa_cons (pv 8) pa_nil))) (pa_cons (pe_op op_add (pv 6) pe_int) pa_nil))))) pa_nil))))))))))
      (pss_one (ps_ret pe_bl)))), ?_⟩
    refine ⟨_, rfl, _, rfl, few (by show 3 ≤ 1000; decide), fun T nT => ⟨few (by show 1 ≤ 1000; decide), fun L nL => ?_⟩⟩
    have s1 : Same H (upd (upd H T (.tup [v, .str k, .int 1])) L (.lst [.ref T])) := same_new (same_new same_id nT) nL
    have nTL : T ≠ L := ne_of_none upd_same nL
    have hT1 : (upd (upd H T (.tup [v, .str k, .int 1])) L (.lst [.ref T])) T = some (.tup [v, .str k, .int 1]) := (upd_ne nTL).trans upd_same
    have hL1 : (upd (upd H T (.tup [v, .str k, .int 1])) L (.lst [.ref T])) L = some (.lst ([T].map V.ref)) := upd_same
    have nLH : H L = none := fresh_of (same_new (u := .tup [v, .str k, .int 1]) same_id nT) nL
    generalize upd (upd H T (.tup [v, .str k, .int 1])) L (.lst [.ref T]) = H1 at s1 hT1 hL1 ⊢
    refine ⟨OW K H v (.str k) L (fine [(n, k, t, 1)] 1), ⟨_, none, none, none, none, 1, [T], [(n, k, t, 1)], rfl, s1, hL1, .cons ⟨v, hT1, hv, hdep, hok⟩ .nil, ?_, rfl, by decide, rfl⟩, ?_⟩
    · unfold totI spoI
      simp only [List.map_cons, List.map_nil, List.sum_cons, List.sum_nil]
      omega
    rintro mm σ H2 ⟨o4, o5, o6, o7, many, ys, ws, rfl, s2, hL, hys, htot, rfl, hm2, hb⟩
    rw [← hb] at q
    refine ⟨_, rfl, _, .inl ⟨ys.map V.ref, SqL.of hL, rfl⟩, ?_⟩
    rcases List.eq_nil_or_concat ws with rfl | ⟨wi, e, rfl⟩
    · cases hys
      have e0 : fine [] many = true := decide_eq_true (show many + 0 ≤ 200 from hm2)
      rw [e0] at q
      exact iteF (q H2 s2)
    rw [List.concat_eq_append] at hys htot q hb ⊢
    obtain ⟨yi, y, rfl, hyi, hy⟩ := paired_snoc hys
    have et : (!((yi ++ [y]).map V.ref).isEmpty) = true := by
      cases yi <;> rfl
    rw [et]
    refine iteT ⟨fun σ' H' => ∃ m', m' < totI (wi ++ [e]) ∧ OW K H v (.str k) L (fine [(n, k, t, 1)] 1) m' σ' H', fun _ _ h => h, ?_⟩
    obtain ⟨n1, k1, t1, lv⟩ := e
    obtain ⟨u, hyT, hu1, hdp, hok1⟩ := hy
    simp only at hyT hu1 hdp hok1
    cases n1 with
    | zero => cases hdp
    | succ n1 =>
    have hyL : y ≠ L := ne_of hyT hL (by intro z; cases z)
    refine ⟨_, rfl, .inl ⟨rfl, _, SqL.of hL⟩, L, _, .ref y, rfl, rfl, hL, by simp, y, [u, .str k1, .int (lv : Nat)], rfl, SqT.of ((upd_ne hyL).trans hyT), rfl, _, _, rfl, _, _, rfl, _, _, rfl, rfl, ?_⟩
    rw [List.map_append, List.map_singleton, List.dropLast_concat]
    have s3 : Same H (upd H2 L (.lst (yi.map V.ref))) := same_put s2 nLH
    have hL3 : (upd H2 L (.lst (yi.map V.ref))) L = some (.lst (yi.map V.ref)) := upd_same
    have hyi3 : Paired (OI K H (upd H2 L (.lst (yi.map V.ref)))) yi wi := L2.Paired.mapP hyi fun _ _ z => z.put hL
    generalize upd H2 L (.lst (yi.map V.ref)) = H3 at s3 hL3 hyi3 ⊢
    refine ⟨_, rfl, _, _, rfl, rfl, _, rfl, ite2 (fun c1 => ?_) (fun c1 => ?_)⟩
    · have h40 : 40 < lv := by
        have := of_decide_eq_true c1
        omega
      rw [fine_deep (e := (n1 + 1, k1, t1, lv)) h40] at q
      exact iteT (q H3 s3)
    have h40 : lv ≤ 40 := by
      have : ¬ ((40 : Int) < (lv : Nat)) := fun z => c1 (decide_eq_true z)
      omega
    refine ⟨_, rfl, _, rfl, u, t1, k1, rfl, dvM s3 hu1, hok1, fun H4 s34 => ⟨_, rfl, ?_⟩⟩
    cases hfo : hasF k1 t1 with
    | false =>
      rw [fine_form hfo] at q
      exact iteT (q H4 (s3.trans s34))
    | true =>
    refine iteF ?_
    refine nx_run ?_
    dsimp only
    refine asg_run ?_
    have s04 := s3.trans s34
    refine ⟨_, rfl, u, t1, k1, H, rfl, s04, hu1, hok1, hfo, fun H5 R qs s45 nR hR hqs hlen => ?_⟩
    have s35 : Same H3 H5 := s34.trans s45
    have s05 := s3.trans s35
    have lqs := Paired.length hqs
    refine ⟨_, rfl, _, rfl, R, _, rfl, .inl (SqL.of hR), _, _, rfl, rfl, ?_⟩
    have em : ((many : Nat) : Int) + (((qs.map V.ref).length : Nat) : Int) = ((many + (kpOf t1).length : Nat) : Int) := by
      rw [List.length_map, lqs]
      omega
    dsimp only
    rw [em]
    refine ⟨_, rfl, _, _, rfl, rfl, _, rfl, ite2 (fun c2 => ?_) (fun c2 => ?_)⟩
    · have h200 : 200 < many + (kpOf t1).length := by
        have := of_decide_eq_true c2
        omega
      rw [fine_many h200] at q
      exact q H5 s05
    have h200 : many + (kpOf t1).length ≤ 200 := by
      have : ¬ ((200 : Int) < ((many + (kpOf t1).length : Nat) : Int)) := fun z => c2 (decide_eq_true z)
      omega
    have hL5 := s35 _ _ hL3
    refine nx_run ?_
    dsimp only
    refine ⟨_, rfl, .inl ⟨rfl, _, SqL.of hL5⟩, _, rfl, R, rfl, ⟨_, SqL.of hR⟩, fun D nD => ?_⟩
    have nDL : L ≠ D := ne_of_none hL5 nD
    refine lc_list (K := K) (a := R) (xs := qs.map V.ref) (fun i H' => ∃ rs : List Addr, Same H5 H' ∧ H' D = some (.lst (rs.map V.ref)) ∧ Paired (OI K H H') rs (((kpOf t1).take i).map fun p => (n1, nar k1 p.1, p.2, lv + 1))) ⟨[], same_new same_id nD, upd_same, .nil⟩ ?_ ?_ ?_
    · rintro i H' _ ⟨rs, s6, _⟩
      exact SqL.of (s6 _ _ hR)
    · rintro i x H' hi ⟨rs, s6, hD, hrs⟩
      rw [List.getElem?_map] at hi
      obtain ⟨q0, hq0, rfl⟩ : ∃ q0, qs[i]? = some q0 ∧ x = .ref q0 := by
        cases e : qs[i]? with
        | none => rw [e] at hi; cases hi
        | some q0 => rw [e] at hi; exact ⟨q0, rfl, (Option.some.inj hi).symm⟩
      have hil : i < (kpOf t1).length := by
        rw [← lqs]
        exact (List.getElem?_eq_some_iff.mp hq0).1
      have hg : (kpOf t1)[i]? = some (kpOf t1)[i] := List.getElem?_eq_getElem hil
      obtain ⟨q1, hq1, y0, hkp, hug⟩ := paired_get hqs hg
      obtain rfl : q1 = q0 := Option.some.inj (hq1.symm.trans hq0)
      have hpd := kp_dep _ (List.mem_of_getElem? hg)
      generalize (kpOf t1)[i] = pr at hg hkp hug hpd
      have lrs := Paired.length hrs
      rw [List.length_map, List.length_take] at lrs
      refine ⟨q1, _, rfl, SqT.of (s6 _ _ hkp), rfl, _, _, rfl, _, _, rfl, rfl, rfl, _, rfl, _, rfl, _, rfl, k1, pr.1, rfl, fun H7 s7 => ⟨_, rfl, _, _, rfl, rfl, few (by show 3 ≤ 1000; decide), fun T2 nT2 => ?_⟩⟩
      have hD7 := s7 _ _ hD
      have nDT : D ≠ T2 := ne_of_none hD7 nT2
      refine ⟨rs.map V.ref, (upd_ne nDT).trans hD7, small1000 (by rw [List.length_map]; omega), rs ++ [T2], ?_, by rw [upd_same, List.map_append]; rfl, ?_⟩
      · intro b' o ho
        rw [upd_ne (ne_of_none ho nD), upd_ne (ne_of_none (s7 _ _ (s6 _ _ ho)) nT2)]
        exact s7 _ _ (s6 _ _ ho)
      · rw [List.take_add_one, hg, List.map_append]
        have sn : Same H7 (upd H7 T2 (.tup [y0, .str (nar k1 pr.1), .int ((lv : Nat) + 1)])) := same_new same_id nT2
        refine Paired.snoc (L2.Paired.mapP hrs fun _ _ z => ((z.same s7).same sn).put ((upd_ne nDT).trans hD7)) ?_
        refine OI.put (xs := rs.map V.ref) ⟨y0, upd_same, ?_, ?_, ?_⟩ ((upd_ne nDT).trans hD7)
        · exact hug
        · exact Nat.lt_of_lt_of_le hpd.1 (Nat.le_of_lt_succ hdp)
        · exact hpd.2 hok1
    · rintro H6 ⟨rs, s6, hD, hrs⟩
      rw [List.length_map, lqs, List.take_length] at hrs
      have esz : totI (wi ++ [(n1 + 1, k1, t1, lv)]) = totI (wi ++ kidsI n1 k1 t1 lv) + 1 := by
        have := tot_kids n1 k1 t1 lv
        rw [totI_app, totI_app]
        have e5 : totI [(n1 + 1, k1, t1, lv)] = spo (n1 + 1) t1 := by
          unfold totI spoI
          simp
        omega
      have ll := len_le_totI (wi ++ kidsI n1 k1 t1 lv)
      have ek : (kidsI n1 k1 t1 lv).length = (kpOf t1).length := by unfold kidsI; rw [List.length_map]
      rw [List.length_append, ek] at ll
      have lrs := Paired.length hrs
      rw [List.length_map] at lrs
      have lyi := Paired.length hyi
      have hL6 := s6 _ _ hL5
      refine ⟨L, D, yi.map V.ref, rs.map V.ref, rfl, rfl, hL6, hD, by rw [List.length_map, List.length_map, sizeLine_eq]; omega, ?_⟩
      refine ⟨totI (wi ++ kidsI n1 k1 t1 lv), by omega, _, _, _, _, many + (kpOf t1).length, yi ++ rs, wi ++ kidsI n1 k1 t1 lv, rfl, same_put (s05.trans s6) nLH, by rw [upd_same, List.map_append], ?_, by omega, rfl, h200, ?_⟩
      · exact paired_app (L2.Paired.mapP hyi3 fun _ _ z => (z.same (s35.trans s6)).put hL6) (L2.Paired.mapP hrs fun _ _ z => z.put hL6)
      · rw [← hb]
        exact (fine_pop hfo h40).symm
theorem ok_it {f fO : Addr} {fd fdO : FuncData} (F : Fun K "is_test" "is_test" sIT f fd) (GO : FnOk P w K mg base CX0 5 fO fdO ["value", "kind"] (spOK K)) (mO : mg "_is_of_kind" = some (.ref fO)) (kO : PySem.W.keepIn K (.ref fO) = true) (bO : Binds K fdO ["value", "kind"] []) : FnOk P w K mg base CX0 6 f fd ["value"] (spIK K "test") := by
  refine F.ok scIT (fun vs H Q E h => ?_) (fun cdv A outer s H vs Q E hr h => ?_)
  · obtain ⟨v, n, t, rfl, _⟩ := h
    rfl
  · obtain ⟨v, n, t, rfl, hv, hok, hd, hz, q⟩ := h
    refine ⟨_, pss_one (ps_ret (pe_call GO hr (by rfl) mO kO bO .nil pass0 (pa_cons (pv 0) (pa_cons pe_str pa_nil)))), ?_⟩
    exact ⟨_, rfl, v, n, t, "test", rfl, hv, hok, hd, hz, q⟩
end
end Toy


/-! an own __iter__ that returns iter(a tuple) -/
namespace L2
open PySem PySem.Spec PyProof.Rows PySem.W
def tiObj (t : Addr) : Obj := { cls := .type "tuple_iterator", data := .fields #[.ref t, .int 0 0] }
/-- at it an iterator of the tuple at t, not yet asked -/
def TiO (t it : Addr) : HO := .ext fun h => h.get? it = some (tiObj t)
theorem tiO_ok {t it : Addr} {P : Program} {w : World} {H : Hp} {h : Heap} (e : h.get? it = some (tiObj t)) : ObjOk P w H h it (TiO t it) := ⟨e, ⟨tiObj t, e⟩, fun h1 h2 q k => k (tiObj t) q⟩
theorem tiO_get {X : Cx} {pins : List (Addr × Obj)} {σ : L2.St} {H : Hp} {s : Shared} {t it : Addr} (I : L2.Inv X pins σ H s) (h : H it = some (TiO t it)) : s.heap.get? it = some (tiObj t) := (I.hok it (TiO t it) h).1
def rIterT (X : Cx) (xs : List V) (H : Hp) (Q : VK) : Prop := ∃ l zs, xs = [V.ref l] ∧ SqT X.K H l zs ∧ ∀ it : Addr, H it = none → (it ∈ X.ex ∨ X.s_0.heap.objs.size ≤ it) → Q (.ref it) (upd H it (TiO l it))
theorem call_iterT {X : Cx} : CallR X (.builtin "iter") (rIterT X) := by
  intro pins s σ H xs us Q I r h
  obtain ⟨l, zs, rfl, hq, q⟩ := h
  obtain ⟨u, rfl, ru⟩ := vals1 r
  cases ru
  obtain ⟨its, rv, pl, hz⟩ := I.tuple hq
  refine Calls.call_function_entry GNX.call_iter._proof_1 GNX.call_iter._proof_2 kdk_entry_iter (kdk_args_iter _) ?_
  refine wpAny_bind (wpAny_of_eq (Eq.refl (someArgs "iter" 1 2 { pos := [Value.ref l] })) (wpAny_bind (wpAny_pyIter_tuple (items := its.toArray) (show s.heap.IsTuple l its.toArray from pl) (wpAny_pure ⟨_, rfl, ?_⟩))))
  have hn := HOk.fresh I.hok (Nat.le_refl s.heap.objs.size)
  exact ⟨V.ref s.heap.objs.size, _, I.laid (fun b u e => Heap.get?_push_of_some (tiObj l) e) (Nat.le_refl _) (tiO_ok (Heap.get?_push_size s.heap rfl)), rfl, q _ hn (Inv.fpOk I (Nat.le_refl _) hn).2.2.2.1⟩
/-- a def's run from one state: its promise may speak of how many objects there are -/
structure FnN (P : Program) (w : World) (K : PySem.W.Frag) (mg : Str → Option Value) (base : Heap) (k : Nat) (f : Addr) (fd : FuncData) (ps : List Str) (sp : Nat → Sp) : Prop where
  run : ∀ (A : Around) (outer : List Env) (s : Shared) (H : Hp) (args : Args) (us : List Value) (vs : List V) (Q : VK) (E : XK), Room k A → Env0 P w K mg base A outer s H → BindsTo s fd args (ps.zip us) → Vals vs us → vs.length = ps.length →
    sp s.heap.objs.size vs H Q E → codeAny (model P w) A (.call (.ref f) args) (CR CX0 outer P w H s Q E) s
theorem Fun.okN {P : Program} {w : World} {K : PySem.W.Frag} {mg : Str → Option Value} {base : Heap} {x qual : Str} {st : Stmt} {f : Addr} {fd : FuncData} {N ps : List Str} {k : Nat} {sp : Nat → Sp} (F : Fun K x qual st f fd) (S : FnScope N ps (defScope st))
    (hbody : ∀ (cdv : Value) (A : Around) (outer : List Env) (s : Shared) (H : Hp) (vs : List V) (Q : VK) (E : XK), Room k (A.deeper (envOfC qual (defScope st) s.heap.objs.size f cdv)) → sp s.heap.objs.size vs H Q E →
      ∃ t, PSs (cxOf CX0 P w K mg base N qual (defScope st) f cdv A outer s H E).nox (defBody st) t ∧ t { nx := fun x H' => Q V.non H', rt := Q } (L2.start N vs) H) : FnN P w K mg base (k + 1) f fd ps sp := by
  obtain ⟨oc, od, kV, doc, pm, an, cdv, ct, osl, rfl, lk, hcd⟩ := F.ex
  refine ⟨fun A outer s H args us vs Q E hr e0 hb r hl hsp => ?_⟩
  have KX : K.In s.heap := e0.mod.kin.keeps fun b o e => (e0.bs b o e).1
  have lim : s.heap.NoLimit := e0.mod.nolimit.keeps fun b o e => (e0.bs b o e).1
  refine codeAny_call_function hr.depth (KX _ _ lk) rfl S.co S.gen rfl (codeRec_of KX hcd) (hb _ _ _ _ ?_)
  refine wpAny_newFunctionEnv_cells S.kind (fun x hy => ?_) fun env he s1 x => ?_
  · obtain ⟨n, v⟩ := x
    rcases S.par n (List.of_mem_zip hy).1 with q | q
    · exact .inl q
    · exact .inr ⟨q, cellsFrom_some _ _ [] (.inl q)⟩
  subst he
  refine ⟨lim.keeps x.toInCall.keep, codeAny_func ?_⟩
  obtain ⟨t, ht, hq⟩ := hbody cdv A outer s H vs Q E (hr.deeper _) hsp
  have I : Inv (cxOf CX0 P w K mg base N qual (defScope st) f cdv A outer s H E) [] (L2.start N vs) H s1 := inv_start S hr.hd e0 hl r x
  refine wpAny_mono (ht.nox.run [] s1 (L2.start N vs) H { nx := fun x H' => Q V.non H', rt := Q } I hq) (fun fl s' hs => ?_) fun e s' hs => hs
  have fin : ∀ {σ' : L2.St} {H' : Hp} {v : V} {u : Value}, Inv (cxOf CX0 P w K mg base N qual (defScope st) f cdv A outer s H E) [] σ' H' s' → L2.RelV v u → Q v H' → CE outer P w H s Q u s' :=
    fun {σ' H' v u} J rv q => ⟨v, H', J.os, J.bare, J.base, J.hok, rv, q⟩
  cases fl with
  | ret u =>
    obtain ⟨v, σ', H', J, rv, q⟩ := hs
    exact fin J rv q
  | next =>
    obtain ⟨σ', H', J, q⟩ := hs
    exact fin (v := V.non) (u := Value.none) J rfl q
  | brk =>
    obtain ⟨_, _, _, q⟩ := hs
    exact False.elim q
  | cont =>
    obtain ⟨_, _, _, q⟩ := hs
    exact False.elim q
/-- self is told, a new iterator of the tuple at t comes back -/
def spIterN (G : Addr → Hp → Addr → Prop) : Nat → Sp := fun n vs H Q _ => ∃ a t, vs = [.ref a] ∧ G a H t ∧ ∀ it, H it = none → n ≤ it → Q (.ref it) (upd H it (TiO t it))
theorem run_iter {X : Cx} {k : Nat} {f a t : Addr} {fd : FuncData} {G : Addr → Hp → Addr → Prop} {pins : List (Addr × Obj)} {σ : L2.St} {H : Hp} {s : Shared} {Er : Value → Shared → Prop} (F : FnN X.prog X.w X.K X.mg X.base k f fd ["self"] (spIterN G)) {A1 : Around} (sb : L2.Sub X k A1) (hb : L2.Binds X.K fd ["self"] []) (I : L2.Inv X pins σ H s) (h : G a H t) :
    wpAny (model X.prog X.w) A1 (call (.ref f) [.ref a]) (fun u s' => ∃ it, u = .ref it ∧ H it = none ∧ s.heap.objs.size ≤ it ∧ L2.Inv X pins σ (upd H it (TiO t it)) s') Er s := by
  have e0 : Env0 X.prog X.w X.K X.mg X.base A1 X.stack s H := by
    have e := Inv.env0 I
    exact { frames := by rw [sb.fr]; exact e.frames, mod := e.mod, bs := e.bs, bsz := e.bsz, funs := e.funs, frf := e.frf, hok := e.hok, bare := e.bare }
  have hbb := hb s [.ref a] (Inv.kIn I) rfl
  rw [List.append_nil] at hbb
  refine wpAny_call (codeAny_mono (F.run A1 X.stack s H ⟨[.ref a], []⟩ [.ref a] [V.ref a] (fun v H' => ∃ it, v = .ref it ∧ H it = none ∧ s.heap.objs.size ≤ it ∧ H' = upd H it (TiO t it)) E0 sb.room e0 hbb (.cons (show L2.RelV (V.ref a) (Value.ref a) from rfl) .nil) rfl ⟨a, t, rfl, h, fun it h1 h2 => ⟨it, rfl, h1, h2, rfl⟩⟩) fun r s' hq => ?_)
  cases r with
  | error e => exact hq.elim
  | ok fl =>
    cases fl with
    | ret u =>
      obtain ⟨v, H', I', rv, it, rfl, h1, h2, rfl⟩ := Inv.after I hq
      cases rv
      exact ⟨it, rfl, h1, h2, I'⟩
    | _ => exact hq.elim
/-- pyIter of an object by its own __iter__, which returns iter(a tuple) -/
theorem iter_own {X : Cx} {k : Nat} {C f a dx t : Addr} {fs : List (Str × V)} {fd : FuncData} {G : Addr → Hp → Addr → Prop} {pins : List (Addr × Obj)} {σ : L2.St} {H : Hp} {s : Shared} {Q Er : Value → Shared → Prop}
    (hf : findIn X.K (.ref C) "__iter__" = some (some (.ref f))) (hfn : isFn X.K (.ref f) = true) (F : FnN X.prog X.w X.K X.mg X.base k f fd ["self"] (spIterN G)) (hb : L2.Binds X.K fd ["self"] []) {A1 : Around} (sb : L2.Sub X k A1) (I1 : L2.Inv X pins σ H s) (ha : H a = some (.ins C dx fs)) (h : G a H t)
    (q : ∀ it s', L2.Inv X pins σ (upd H it (TiO t it)) s' → H it = none → s.heap.objs.size ≤ it → Q (.ref it) s') : wpAny (model X.prog X.w) A1 (pyIter (.ref a)) Q Er s := by
  obtain ⟨mA, J, _⟩ := ins_get I1.hok ha
  obtain ⟨od, J, _⟩ := ObjM.look J
  obtain ⟨m0, hF⟩ := Inv.fr I1
  refine owit_iter hF I1.ok.mod.kin J hf hfn ?_
  refine wpAny_mono (run_iter F sb hb I1 h) (fun u2 s2 x => ?_) (fun e s2 z => z)
  obtain ⟨it, rfl, hit, hsz, I2⟩ := x
  have hobj := tiO_get I2 upd_same
  have hti : s2.heap.IsTupleIter it t 0 := ⟨tiObj t, hobj, rfl, rfl⟩
  exact wpAny_specialOf hti.typeIs PySem.F.slot_tuple_iterator_next.lookup (q it s2 I2 hit hsz)
/-- the walk of an object by its own __iter__, which returns iter(a tuple) -/
def iOwn (K : PySem.W.Frag) (C : Addr) (G : Addr → Hp → Addr → Prop) (te : TE) : TI := fun σ H R => te σ H fun v H1 => ∃ a dx fs t, v = .ref a ∧ H1 a = some (.ins C dx fs) ∧ G a H1 t ∧ R (Itt K t) H1
theorem drop_upd {H : Hp} {it : Addr} {o : HO} (h : H it = none) : ItX.dropH (upd H it o) it = H := by
  funext b
  by_cases hb : b = it
  · subst hb
    rw [ItX.dropH_same, h]
  · rw [ItX.dropH_ne hb, upd_ne hb]
theorem pi_own {X : Cx} {k : Nat} {tg e : Expr} {te : TE} {C f : Addr} {fd : FuncData} {G : Addr → Hp → Addr → Prop} (he : PE X e te)
    (hf : findIn X.K (.ref C) "__iter__" = some (some (.ref f))) (hfn : isFn X.K (.ref f) = true) (F : FnN X.prog X.w X.K X.mg X.base k f fd ["self"] (spIterN G)) (hb : L2.Binds X.K fd ["self"] []) (hr : Room k X.A) : PI X tg e (iOwn X.K C G te) := by
  refine ⟨fun pins s σ H R I h => thn (he.run pins s σ H _ I h) fun u s1 x => ?_⟩
  obtain ⟨v, H1, I1, r1, a, dx, fs, t, rfl, ha, hG, hR⟩ := x
  cases r1
  refine iter_own hf hfn F hb ⟨hr, rfl⟩ I1 ha hG fun it s2 I2 hit hsz => ?_
  have hobj := tiO_get I2 upd_same
  have hti : s2.heap.IsTupleIter it t 0 := ⟨tiObj t, hobj, rfl, rfl⟩
  have I3 := ItX.inv_drop I2 upd_same
  rw [drop_upd hit] at I3
  refine ⟨it, [it], fun i h => h.IsTupleIter it t i, Itt X.K t, H1, rfl, I3, turn_tuple t it, hti, fun b hb => ?_, hR⟩
  rw [List.mem_singleton.mp hb]
  exact Inv.fpOk I1 hsz hit
end L2


/-! len, == and != of an object by its own methods -/
namespace L2
open PySem PySem.Spec PyProof.Rows PySem.W
/-- a call of a def beneath X -/
theorem run_at {X : Cx} {CX : CXT} {k : Nat} {f : Addr} {fd : FuncData} {ps : List Str} {sp : Sp} {E : XK} {pins : List (Addr × Obj)} {σ : L2.St} {H : Hp} {s : Shared} {Q : VK} {us : List Value} {vs : List V}
    (F : FnOk X.prog X.w X.K X.mg X.base CX k f fd ps sp) {A1 : Around} (sb : L2.Sub X k A1) (hb : L2.Binds X.K fd ps []) (hx : Passes CX X E) (I : L2.Inv X pins σ H s) (r : Vals vs us) (h : sp vs H Q E) :
    wpAny (model X.prog X.w) A1 (call (.ref f) us) (EP X pins σ Q) X.xe s := by
  have e0 : Env0 X.prog X.w X.K X.mg X.base A1 X.stack s H := by
    have e := Inv.env0 I
    exact { frames := by rw [sb.fr]; exact e.frames, mod := e.mod, bs := e.bs, bsz := e.bsz, funs := e.funs, frf := e.frf, hok := e.hok, bare := e.bare }
  have hl := F.len vs H Q E h
  have hbb := hb s us (Inv.kIn I) (by rw [List.append_nil, ← Vals.length r]; exact hl)
  rw [List.append_nil] at hbb
  refine wpAny_call (codeAny_mono (F.run A1 X.stack s H ⟨us, []⟩ us vs Q E sb.room e0 hbb r h) fun r s' hq => ?_)
  cases r with
  | error e => exact hx pins σ H s e s' I hq
  | ok fl =>
    cases fl with
    | ret u => exact Inv.after I hq
    | _ => exact hq.elim
theorem call_lenOwn {X : Cx} {CX : CXT} {k : Nat} {C f : Addr} {fd : FuncData} {ps : List Str} {sp : Sp} {E : XK} (hf : findIn X.K (.ref C) "__len__" = some (some (.ref f))) (hfn : isFn X.K (.ref f) = true) (F : FnOk X.prog X.w X.K X.mg X.base CX k f fd ps sp) (hb : L2.Binds X.K fd ps []) (hx : Passes CX X E) (hr : Room (k + 1) X.A) :
    CallR X (.builtin "len") (fun xs H Q => ∃ a dx fs, xs = [.ref a] ∧ H a = some (.ins C dx fs) ∧ sp [.ref a] H (fun v H' => ∃ n : Nat, v = .int (n : Int) ∧ n ≤ sizeLine ∧ Q v H') E) := by
  intro pins s σ H xs us Q I r h
  obtain ⟨a, dx, fs, rfl, ha, h⟩ := h
  obtain ⟨u, rfl, ru⟩ := vals1 r
  cases ru
  obtain ⟨mA, J, _⟩ := ins_get I.hok ha
  obtain ⟨od, J, _⟩ := ObjM.look J
  obtain ⟨m0, hF⟩ := Inv.fr I
  have sb : L2.Sub X k X.A.in1 := L2.Sub.in1 ⟨hr, rfl⟩
  refine len_K hF I.ok.mod.kin J hf hfn (wpAny_mono (run_at F sb hb hx I r h) (fun v s' hv => ?_) fun _ _ z => z)
  obtain ⟨v', H', I', rv, n, rfl, hn, q⟩ := hv
  obtain ⟨t, rfl⟩ := rv
  have e16 := sizeLine_eq
  exact ⟨⟨by omega, by omega⟩, .int n, H', I'.tok _, ⟨_, rfl⟩, q⟩
theorem op_eqOwn {X : Cx} {CX : CXT} {k : Nat} {C f : Addr} {fd : FuncData} {ps : List Str} {sp : Sp} {E : XK} (hf : findIn X.K (.ref C) "__eq__" = some (some (.ref f))) (hfn : isFn X.K (.ref f) = true) (F : FnOk X.prog X.w X.K X.mg X.base CX k f fd ps sp) (hb : L2.Binds X.K fd ps []) (hx : Passes CX X E) (hr : Room k X.A) :
    OpR X (compareOp .Eq) (fun x y H Q => ∃ a dx fs, x = .ref a ∧ H a = some (.ins C dx fs) ∧ ((∃ b dy gs, y = .ref b ∧ H b = some (.ins C dy gs)) ∨ (∃ b xs, y = .ref b ∧ SqT X.K H b xs ∧ subIn X.K (.type "tuple") (.ref C) = some false)) ∧ sp [x, y] H (fun v H' => ∃ r : Bool, v = .bl r ∧ Q v H') E) := by
  intro pins s σ H x y u v Q I rx ry h
  obtain ⟨a, dx, fs, rfl, ha, hy, h⟩ := h
  cases rx
  obtain ⟨mA, J, _⟩ := ins_get I.hok ha
  obtain ⟨od, J, _⟩ := ObjM.look J
  obtain ⟨m0, hF⟩ := Inv.fr I
  have ho : ∃ tb, Looks (model X.prog X.w) s.heap (typeOf v) tb ∧ notFirst X.K C tb = true := by
    rcases hy with ⟨b, dy, gs, rfl, hb'⟩ | ⟨b, xs, rfl, hq, hs⟩
    · cases ry
      obtain ⟨mB, J', _⟩ := ins_get I.hok hb'
      obtain ⟨od', J', _⟩ := ObjM.look J'
      exact ⟨_, InstAt.type J', by unfold notFirst; simp⟩
    · cases ry
      obtain ⟨P, hk, hP, _⟩ := kit_of I (show L2.RelV (V.ref b) (Value.ref b) from rfl) (Toy.tyT hq)
      exact ⟨.type "tuple", hk.ty _ _ (Inv.kIn I) hP, by unfold notFirst; rw [hs]; simp⟩
  obtain ⟨tb, hL, hnf⟩ := ho
  refine cmp_K (op := .Eq) hr.units0 hF I.ok.mod.kin J hL hnf hf hfn (wpAny_mono (run_at F ⟨hr, rfl⟩ hb hx I (.cons (show L2.RelV (V.ref a) (Value.ref a) from rfl) (.cons ry .nil)) h) (fun v s' hv => ?_) fun _ _ z => z)
  obtain ⟨v', H', I', rv, r, rfl, q⟩ := hv
  cases rv
  exact ⟨.bl r, H', I', rfl, q⟩
/-- a class with its own __eq__ and no __ne__ -/
structure NeC (K : PySem.W.Frag) (C f : Addr) : Prop where
  ok : ∀ (h : Heap) (x : Addr) (o : Obj), K.In h → h.get? x = some o → o.cls = .ref C → h.OwnEqNoNe x C f "object" [.type "object"]
theorem op_neOwn {X : Cx} {CX : CXT} {k : Nat} {C f : Addr} {fd : FuncData} {ps : List Str} {sp : Sp} {E : XK} (hN : NeC X.K C f) (F : FnOk X.prog X.w X.K X.mg X.base CX k f fd ps sp) (hb : L2.Binds X.K fd ps []) (hx : Passes CX X E) (hr : Room (k + 1) X.A) (hu : X.A.units + 1 < cLine) :
    OpR X (compareOp .NotEq) (fun x y H Q => ∃ a dx fs b dy gs, x = .ref a ∧ H a = some (.ins C dx fs) ∧ y = .ref b ∧ H b = some (.ins C dy gs) ∧ sp [x, y] H (fun v H' => ∃ r : Bool, v = .bl r ∧ Q (.bl !r) H') E) := by
  intro pins s σ H x y u v Q I rx ry h
  obtain ⟨a, dx, fs, b, dy, gs, rfl, ha, rfl, hb', h⟩ := h
  cases rx
  cases ry
  obtain ⟨mA, J, _⟩ := ins_get I.hok ha
  obtain ⟨od, J, _⟩ := ObjM.look J
  obtain ⟨mB, J', _⟩ := ins_get I.hok hb'
  obtain ⟨od', J', _⟩ := ObjM.look J'
  have hne := hN.ok s.heap a _ (Inv.kIn I) J.at_ J.cls
  have sb : L2.Sub X k X.A.in1 := L2.Sub.in1 ⟨hr, rfl⟩
  refine compareOp_ne_ownEq PySem.F.cmp_object hne J'.at_ J'.cls hu (wpAny_mono (run_at F sb hb hx I (.cons (show L2.RelV (V.ref a) (Value.ref a) from rfl) (.cons (show L2.RelV (V.ref b) (Value.ref b) from rfl) .nil)) h) (fun v s' hv => ?_) fun _ _ z => z)
  obtain ⟨v', H', I', rv, r, rfl, q⟩ := hv
  cases rv
  exact ⟨r, rfl, .bl !r, H', I', rfl, q⟩
end L2


/-! list of an object with an own __iter__ and an own __len__ -/
namespace L2
open PySem PySem.Spec PyProof.Rows PySem.W
/-- a call of a def that raises nothing -/
theorem run_at0 {X : Cx} {k : Nat} {f : Addr} {fd : FuncData} {ps : List Str} {sp : Sp} {Er : Value → Shared → Prop} {pins : List (Addr × Obj)} {σ : L2.St} {H : Hp} {s : Shared} {Q : VK} {us : List Value} {vs : List V}
    (F : FnOk X.prog X.w X.K X.mg X.base CX0 k f fd ps sp) {A1 : Around} (sb : L2.Sub X k A1) (hb : L2.Binds X.K fd ps []) (I : L2.Inv X pins σ H s) (r : Vals vs us) (h : sp vs H Q E0) :
    wpAny (model X.prog X.w) A1 (call (.ref f) us) (EP X pins σ Q) Er s := by
  have e0 : Env0 X.prog X.w X.K X.mg X.base A1 X.stack s H := by
    have e := Inv.env0 I
    exact { frames := by rw [sb.fr]; exact e.frames, mod := e.mod, bs := e.bs, bsz := e.bsz, funs := e.funs, frf := e.frf, hok := e.hok, bare := e.bare }
  have hl := F.len vs H Q E0 h
  have hbb := hb s us (Inv.kIn I) (by rw [List.append_nil, ← Vals.length r]; exact hl)
  rw [List.append_nil] at hbb
  refine wpAny_call (codeAny_mono (F.run A1 X.stack s H ⟨us, []⟩ us vs Q E0 sb.room e0 hbb r h) fun r s' hq => ?_)
  cases r with
  | error e => exact hq.elim
  | ok fl =>
    cases fl with
    | ret u => exact Inv.after I hq
    | _ => exact hq.elim
theorem list_loop {X : Cx} {pins : List (Addr × Obj)} {σ : L2.St} {H0 : Hp} {t it q : Addr} {ys : List V} {A1 : Around} {Rs : Result → Shared → Prop} (hcalm : X.calm = true) (hfr : A1.in1.handled = X.A.handled) (hy : SqT X.K H0 t ys) (hq0 : H0 q = none) (hz : ys.length ≤ sizeLine) (hf : ∀ acc, FpOk X pins (upd H0 q (.lst acc)) it)
    (hdone : ∀ s, L2.Inv X pins σ (upd H0 q (.lst ys)) s → Rs (.ok (.ret .none)) s) : ∀ (k i : Nat) (s : Shared), ys.length - i = k → i ≤ ys.length → L2.Inv X pins σ (upd H0 q (.lst (ys.take i))) s → s.heap.IsTupleIter it t i →
      codeAny (model X.prog X.w) A1 (.builtin "list.extend.loop" ⟨[.ref q, .ref it, .none], []⟩) Rs s := by
  intro k
  induction k with
  | zero =>
    intro i s hk hi I hti
    obtain rfl : i = ys.length := by omega
    rw [List.take_length] at I
    have hq' : SqT X.K (upd H0 q (.lst ys)) t ys := Toy.same_seqT (Toy.same_new Toy.same_id hq0) hy
    obtain ⟨its, rv, pl, _⟩ := I.tuple hq'
    refine codeAny_builtin PySem.F.entry_extend_loop ?_
    rw [Around.under_plainId PySem.F.plain_extend_loop]
    obtain ⟨f0, f1, f2, f3, f4, f5⟩ := hf ys
    refine wpAny_bind (wpAny_pyNext_tuple_end (hfr.trans (I.ok.hd hcalm)) hti (show s.heap.IsTuple t its.toArray from pl) ?_ fun h' eb => ?_)
    · rw [List.getElem?_toArray]
      exact List.getElem?_eq_none_iff.mpr (by rw [← Vals.length rv]; exact Nat.le_refl _)
    · exact wpAny_pure (hdone _ (Inv.turned I (fun b o hb e => eb b o hb e) f0 f1 f3 f4 f5))
  | succ k ih =>
    intro i s hk hi I hti
    have hil : i < ys.length := by omega
    have hq' : SqT X.K (upd H0 q (.lst (ys.take i))) t ys := Toy.same_seqT (Toy.same_new Toy.same_id hq0) hy
    obtain ⟨its, rv, pl, _⟩ := I.tuple hq'
    refine codeAny_builtin PySem.F.entry_extend_loop ?_
    rw [Around.under_plainId PySem.F.plain_extend_loop]
    obtain ⟨f0, f1, f2, f3, f4, f5⟩ := hf (ys.take i)
    obtain ⟨u, hu, ru⟩ := Vals.get rv (List.getElem?_eq_getElem hil)
    refine wpAny_bind (wpAny_pyNext_tuple_item hti (show s.heap.IsTuple t its.toArray from pl) (by rw [List.getElem?_toArray]; exact hu) fun h' st' sb => ?_)
    have I1 : L2.Inv X pins σ (upd H0 q (.lst (ys.take i))) { heap := h', gens := s.gens, drawn := s.drawn, toks := s.toks, os := s.os } := Inv.turned I (fun b o hb e => Eq.trans (sb.2 b hb) e) f0 f1 f3 f4 f5
    obtain ⟨z, its2, kk, r2, hl2, e2⟩ := Inv.lstM I1 upd_same
    refine wpAny_bind (wpAny_updateSeq e2 rfl (wpAny_pure ⟨plainId_quiet PySem.F.plain_extend_loop _, ?_⟩) ?_ ?_)
    · have I2 := Inv.lset I1 upd_same e2 (f := fun x => x.push u) (t' := s.toks) (List.push_toArray its2 u) (Vals.append r2 (.cons ru .nil)) (by rw [List.length_append, List.length_take, List.length_singleton]; omega)
      rw [upd_upd] at I2
      have et : ys.take i ++ [ys[i]] = ys.take (i + 1) := by rw [List.take_add_one, List.getElem?_eq_getElem hil]; rfl
      rw [et] at I2
      refine ih (i + 1) _ (by omega) (by omega) I2 (Heap.IsTupleIter.at st' fun o e => ?_)
      have hne : q ≠ it := fun z => by
        rw [← z, upd_same] at f0
        cases f0
      exact Heap.get?_update_of_ne _ hne e
    · have hl3 := Vals.length r2
      rw [List.length_take] at hl3
      rw [List.size_toArray]
      omega
    · have hl3 := Vals.length r2
      rw [List.length_take] at hl3
      rw [Array.size_push, List.size_toArray]
      omega
theorem if_any {α : Type} {M : Model} {A : Around} {E : Value → Shared → Prop} {s : Shared} {c : Bool} {a b : Sem α} {Q : α → Shared → Prop} (h1 : wpAny M A a Q E s) (h2 : wpAny M A b Q E s) : wpAny M A (if c = true then a else b) Q E s := by
  cases c with
  | true => exact h1
  | false => exact h2
theorem if_yes {α : Type} {M : Model} {A : Around} {E : Value → Shared → Prop} {s : Shared} {c : Bool} {a b : Sem α} {Q : α → Shared → Prop} (hc : c = true) (h1 : wpAny M A a Q E s) : wpAny M A (if c = true then a else b) Q E s := by
  subst hc
  exact h1
theorem len_own0 {X : Cx} {j : Nat} {C fl a dx : Addr} {fs : List (Str × V)} {fdl : FuncData} {spL : Sp} {pins : List (Addr × Obj)} {σ : L2.St} {H : Hp} {s : Shared} {Er : Value → Shared → Prop} {n : Nat}
    (hl : findIn X.K (.ref C) "__len__" = some (some (.ref fl))) (hln : isFn X.K (.ref fl) = true) (Fl : FnOk X.prog X.w X.K X.mg X.base CX0 j fl fdl ["self"] spL) (bl : L2.Binds X.K fdl ["self"] []) {A1 : Around} (sb : L2.Sub X j A1.in1) (I : L2.Inv X pins σ H s) (ha : H a = some (.ins C dx fs)) (hn : n ≤ sizeLine)
    (h : ∀ R : VK, R (.int (n : Int)) H → spL [.ref a] H R E0) : wpAny (model X.prog X.w) A1 (call (.builtin "len") [.ref a]) (fun v s' => ∃ tk, v = .int (n : Int) tk ∧ L2.Inv X pins σ H s') Er s := by
  obtain ⟨mA, J, _⟩ := ins_get I.hok ha
  obtain ⟨od, J, _⟩ := ObjM.look J
  obtain ⟨m0, hF⟩ := Inv.fr I
  refine len_K hF I.ok.mod.kin J hl hln (wpAny_mono (run_at0 Fl sb bl I (.cons (show L2.RelV (V.ref a) (Value.ref a) from rfl) .nil) (h (fun v H' => v = .int (n : Int) ∧ H' = H) ⟨rfl, rfl⟩)) (fun v s' hv => ?_) fun _ _ z => z)
  obtain ⟨v', H', I', rv, rfl, rfl⟩ := hv
  obtain ⟨t, rfl⟩ := rv
  have e16 := sizeLine_eq
  exact ⟨⟨by omega, by omega⟩, _, rfl, I'.tok _⟩
theorem call_listOwnT {X : Cx} {j k : Nat} {C fi fl : Addr} {fdi fdl : FuncData} {G : Addr → Hp → Addr → Prop} {spL : Sp} (hcalm : X.calm = true)
    (hi : findIn X.K (.ref C) "__iter__" = some (some (.ref fi))) (hin : isFn X.K (.ref fi) = true) (Fi : FnN X.prog X.w X.K X.mg X.base j fi fdi ["self"] (spIterN G)) (bi : L2.Binds X.K fdi ["self"] [])
    (hl : findIn X.K (.ref C) "__len__" = some (some (.ref fl))) (hln : isFn X.K (.ref fl) = true) (Fl : FnOk X.prog X.w X.K X.mg X.base CX0 j fl fdl ["self"] spL) (bl : L2.Binds X.K fdl ["self"] []) (hr : Room (j + 5) X.A) :
    CallR X (.type "list") (fun xs H Q => ∃ a dx fs t ys, xs = [.ref a] ∧ H a = some (.ins C dx fs) ∧ SqT X.K H t ys ∧ (∀ H', Same H H' → G a H' t) ∧ (∀ H' (R : VK), Same H H' → R (.int (ys.length : Int)) H' → spL [.ref a] H' R E0) ∧ ∀ q, H q = none → Q (.ref q) (upd H q (.lst ys))) := by
  intro pins s σ H xs us Q I r h
  obtain ⟨a, dx, fs, t, ys, rfl, ha, hy, hG, hL, q⟩ := h
  obtain ⟨u, rfl, ru⟩ := vals1 r
  cases ru
  have sb : L2.Sub X (j + 3) X.A.in1.in1 := L2.Sub.in1 (L2.Sub.in1 ⟨hr, rfl⟩)
  have hS : (s.heap.push { cls := .type "list", data := .seq #[] }).get? s.heap.objs.size = some { cls := .type "list", data := .seq #[] } := Heap.get?_push_size s.heap rfl
  have fr := HOk.fresh I.hok (Nat.le_refl s.heap.objs.size)
  refine callType_codes PySem.F.called_list (PySem.F.typeCall_list_1 (.ref a)) PySem.F.entry_list_init (code_list_new (Q₁ := fun o s1 => o = .ref s.heap.objs.size ∧ s1 = { heap := s.heap.push { cls := .type "list", data := .seq #[] }, gens := s.gens, drawn := s.drawn, toks := s.toks, os := s.os }) (.ref a) ⟨rfl, rfl⟩) fun obj s₁ h₁ => ?_
  obtain ⟨rfl, rfl⟩ := h₁
  refine ⟨⟨_, hS, rfl⟩, PySem.F.args_list_init_2 _ _, ?_⟩
  have I1 : L2.Inv X pins σ (upd H s.heap.objs.size (.lst [])) { heap := s.heap.push { cls := .type "list", data := .seq #[] }, gens := s.gens, drawn := s.drawn, toks := s.toks, os := s.os } := Inv.lnew (its := []) I .nil (Nat.zero_le _)
  have e16 := sizeLine_eq
  refine wpAny_bind (wpAny_bind (wpAny_seqItems hS rfl (wpAny_pure ?_)))
  refine wpAny_bind (wpAny_updateSeq hS rfl ?_ (by simp) (by simp))
  have I2 := Inv.lset (its := []) (its' := []) (ys := []) (f := fun _ => #[]) (t' := s.toks) I1 upd_same hS rfl .nil (Nat.zero_le _)
  rw [upd_upd] at I2
  refine wpAny_bind (wpAny_letGo ?_)
  have hqa : s.heap.objs.size ≠ a := fun z => by rw [z] at fr; rw [fr] at ha; cases ha
  have ha2 : (upd H s.heap.objs.size (.lst [])) a = some (.ins C dx fs) := (upd_ne hqa.symm).trans ha
  generalize hq : s.heap.objs.size = qq at *
  have sS : Same H (upd H qq (.lst [])) := Toy.same_new Toy.same_id fr
  generalize ({ heap := (s.heap.push { cls := Value.type "list", data := .seq #[] }).update qq (Obj.mapSeq fun x => #[]), gens := s.gens, drawn := s.drawn, toks := s.toks, os := s.os } : Shared) = s2 at I2 ⊢
  obtain ⟨mA, J, _⟩ := ins_get I2.hok ha2
  obtain ⟨od, J, _⟩ := ObjM.look J
  refine wpAny_bind (Looks.here (InstAt.type J) ?_)
  refine KFB.if_not (by
    show ((qq == a) || _ || _) = false
    rw [beq_eq_false_iff_ne.mpr hqa]
    rfl) ?_
  refine wpAny_bind (iter_own hi hin Fi bi (sb.mono (by omega)) I2 ha2 (hG _ sS) fun it s3 I3 hit hsz => ?_)
  have hqi : qq ≠ it := fun z => by rw [← z, upd_same] at hit; cases hit
  have hit0 : H it = none := by rw [upd_ne hqi.symm] at hit; exact hit
  have hai : a ≠ it := fun z => by rw [← z] at hit0; rw [hit0] at ha; cases ha
  have ha3 : (upd (upd H qq (.lst [])) it (TiO t it)) a = some (.ins C dx fs) := (upd_ne hai).trans ha2
  obtain ⟨mA3, J3, _⟩ := ins_get I3.hok ha3
  obtain ⟨od3, J3, _⟩ := ObjM.look J3
  have s3S : Same H (upd (upd H qq (.lst [])) it (TiO t it)) := Toy.same_new sS hit
  have hyl : ys.length ≤ sizeLine := by
    obtain ⟨_, _, _, hz⟩ := I.tuple hy
    exact hz
  refine wpAny_bind (wpAny_holding ?_)
  refine wpAny_bind (wpAny_bind (Looks.here (InstAt.type J3) (Looks.here (looks_findIn (Inv.kIn I3) hl) ?_)))
  refine KFB.if_not rfl ?_
  refine if_yes rfl ?_
  refine wpAny_bind (wpAny_rule ?_)
  refine wpAny_bind (wpAny_attempt (wpAny_mono (len_own0 (n := ys.length) hl hln Fl bl (Er := fun _ _ => False) (sb.in1.mono (by omega)) I3 ha3 hyl (fun R hR => hL _ R s3S hR)) (fun v s4 hv => ?_) fun _ _ z => z.elim))
  obtain ⟨tk, rfl, I4⟩ := hv
  refine wpAny_bind (wpAny_pure ?_)
  refine KFB.if_not (decide_eq_false (by rw [Int.toNat_natCast]; omega)) (wpAny_pure ?_)
  have hobj := tiO_get I4 upd_same
  have I5 := ItX.inv_drop I4 upd_same
  rw [drop_upd hit] at I5
  have hti : s4.heap.IsTupleIter it t 0 := ⟨tiObj t, hobj, rfl, rfl⟩
  have hfp : ∀ acc, FpOk X pins (upd H qq (.lst acc)) it := fun acc => Inv.fpOk I2 hsz (by rw [upd_ne hqi.symm]; exact hit0)
  have loop := fun (s5 : Shared) (I6 : L2.Inv X pins σ (upd H qq (.lst (ys.take 0))) s5) (h6 : s5.heap.IsTupleIter it t 0) => list_loop (X := X) (A1 := X.A.in1) (Rs := wants (fun r s₂ => r = Value.none ∧ EP X pins σ Q (.ref qq) s₂) X.xe) hcalm rfl hy fr hyl hfp (fun s6 I7 => ⟨rfl, V.ref qq, _, I7, rfl, q qq fr⟩) ys.length 0 s5 (Nat.sub_zero _) (Nat.zero_le _) I6 h6
  refine if_any ?_ ?_
  · refine wpAny_bind (wpAny_rule ?_)
    obtain ⟨z, its2, kk, r2, hl2, e2⟩ := Inv.lstM I5 upd_same
    cases r2
    refine wpAny_bind (wpAny_bind (wpAny_updateSeq e2 rfl ?_ (by simp) (by simp)))
    have I6 := Inv.lset (its := []) (its' := [Value.none]) (ys := [V.non]) (f := fun x => x.push Value.none) (t' := s4.toks) I5 upd_same e2 rfl (.cons (show L2.RelV V.non Value.none from rfl) .nil) (by rw [e16]; decide)
    rw [upd_upd] at I6
    have hti6 := Heap.IsTupleIter.at hti fun o e => Heap.get?_update_of_ne (Obj.mapSeq fun x => x.push Value.none) hqi e
    obtain ⟨z3, its3, kk3, r3, hl3, e3⟩ := Inv.lstM I6 upd_same
    have h3 : its3 = [Value.none] := by
      cases r3 with
      | cons a b =>
        cases a
        cases b
        rfl
    subst h3
    refine wpAny_updateSeq e3 rfl ?_ (by simp; omega) (by simp)
    have I7 := Inv.lset (its := [Value.none]) (its' := []) (ys := []) (f := fun x => x.pop) (t' := s4.toks) I6 upd_same e3 rfl .nil (Nat.zero_le _)
    rw [upd_upd] at I7
    exact wpAny_pure ⟨plainId_quiet PySem.F.plain_extend_loop _, loop _ I7 (Heap.IsTupleIter.at hti6 fun o e => Heap.get?_update_of_ne _ hqi e)⟩
  · exact wpAny_pure ⟨plainId_quiet PySem.F.plain_extend_loop _, loop _ I5 hti⟩
end L2


/-! enumerate of a tuple -/
namespace L2
open PySem PySem.Spec PyProof.Rows PySem.W
theorem draws_tup {prog : Program} {w : World} {A : Around} (hh : A.handled = none) (it l : Addr) (hne : l ≠ it) (items : Array Value) : Draws prog w A it [it, l] items.size (fun i v => items[i]? = some v) fun i h => h.IsTupleIter it l i ∧ h.IsTuple l items where
  live := fun i h st => by
    obtain ⟨o, ho, _⟩ := st.1
    exact ⟨o, ho⟩
  frame := fun i h h' st hk => ⟨st.1.at fun o e => hk it (by simp) o e, st.2.at fun o e => hk l (by simp) o e⟩
  item := fun i s Q E hi st hQ => RZ.nextOf_tuple_item st.1 st.2 (Array.getElem?_eq_getElem hi) fun h' hit' hs' => hQ _ h' s.toks (Array.getElem?_eq_getElem hi) ⟨hit', st.2.extBut hs'.extBut hne⟩ hs'
  done := fun s Q E st hE => RZ.nextOf_tuple_end hh st.1 st.2 (by simp) hE
def IteT (K : PySem.W.Frag) (a : Addr) : It :=
  ⟨fun i H => ∃ xs x, SqT K H a xs ∧ xs[i]? = some x, fun i H v H' => ∃ T x, v = .ref T ∧ H T = none ∧ H' = upd H T (.tup [.int (i : Nat), x]) ∧ ∀ xs, SqT K H a xs → xs[i]? = some x, fun i H => ∃ xs, SqT K H a xs ∧ xs.length = i⟩
theorem turn_enumT {P : Program} {w : World} {K : PySem.W.Frag} {elts : List Expr} {kk : Nat} {tpos : Pos} {a e it : Addr} (hei : e ≠ it) (hai : a ≠ it) (hae : a ≠ e) :
    Turn P w K (.Tuple elts kk tpos) (IteT K a) [e, it] e (fun i h => (∃ old, IsEnum h e it ((i : Nat) : Int) old) ∧ h.IsTupleIter it a i) where
  mem := by simp
  obj := fun i h st c hc => by
    obtain ⟨⟨old, he⟩, o1, e1, _, d1⟩ := st
    simp only [List.mem_cons, List.not_mem_nil, or_false] at hc
    rcases hc with q | q
    · rw [q]; exact ⟨_, he, fun v q => nomatch q⟩
    · rw [q]; exact ⟨o1, e1, fun v q => by rw [d1] at q; cases q⟩
  keep := fun i h h' st k => by
    obtain ⟨⟨old, he⟩, Z⟩ := st
    exact ⟨⟨old, k e (by simp) _ he⟩, Z.at fun o q => k it (by simp) o q⟩
  item := by
    intro X hP hw hK hc i pins s σ H E I hf st hg
    subst hP hw hK
    obtain ⟨⟨old, he⟩, hit⟩ := st
    obtain ⟨xs, x, hq, hx⟩ := hg
    obtain ⟨its, rv, pl, _⟩ := I.tuple hq
    obtain ⟨u, hu, ru⟩ := rv.get hx
    have elt : e < s.heap.objs.size := Heap.lt_size he
    have hil : i < its.toArray.size := by
      rw [List.size_toArray]
      exact (List.getElem?_eq_some_iff.mp hu).1
    refine wpAny_pyNext_enum_itemD (draws_tup (A := X.A.in1) (I.ok.hd hc) it a hai its.toArray) he ⟨hit, show s.heap.IsTuple a its.toArray from pl⟩ hil hei (by simp; exact ⟨hei, fun z => hae z.symm⟩) fun x' h' tk hx' ho st' hT hsz hk => ?_
    have ex : x' = u := by
      rw [List.getElem?_toArray] at hx'
      exact Option.some.inj (hx'.symm.trans hu)
    subst ex
    refine ⟨_, rfl, wpAny_letOwnedTupleGo_enum (s := { s with heap := h', toks := tk + 1 }) ho fun h'' he'' sb => ?_⟩
    replace sb : Heap.SameBut e h' h'' := sb
    have hT2 : h''.get? s.heap.objs.size = some { cls := .type "tuple", data := .seq #[.int i tk, x'] } := (sb.2 _ (Nat.ne_of_gt elt)).trans hT
    have newT : ObjOk X.prog X.w (upd H s.heap.objs.size (.tup [.int (i : Nat), x])) h'' s.heap.objs.size (.tup [.int (i : Nat), x]) :=
      ⟨by show 2 ≤ sizeLine; decide, [.int i tk, x'], .cons ⟨_, rfl⟩ (.cons ru .nil), ⟨_, hT2, rfl, _, rfl⟩⟩
    have hilt : it < s.heap.objs.size := by
      obtain ⟨o, q, _⟩ := hit
      exact Heap.lt_size q
    have I1 : Inv X pins σ (upd H s.heap.objs.size (.tup [.int (i : Nat), x])) { s with heap := h'', toks := tk + 1 } :=
      I.turnedNew (t' := tk + 1) (ch := [e, it]) (fun c o hb q => (sb.2 c (fun q' => hb (by rw [q']; simp))).trans (hk c o (fun q' => hb (by rw [q']; simp)) (fun q' => hb (by rw [q']; simp)) q)) hf (Nat.le_refl _) newT
    refine ⟨.ref s.heap.objs.size, _, I1, rfl, ⟨_, x, rfl, I.hok.fresh (Nat.le_refl _), rfl, fun l hl => by rw [I.tuple_inj hl hq]; exact hx⟩, ⟨⟨x', ?_⟩, st'.1.at fun o q => (sb.2 it hei.symm).trans q⟩, fun c hcm => ?_⟩
    · have e1 : ((i + 1 : Nat) : Int) = (i : Int) + 1 := by omega
      rw [e1]
      exact he''
    · have hlt : c < s.heap.objs.size := by
        simp only [List.mem_cons, List.not_mem_nil, or_false] at hcm
        rcases hcm with q | q
        · rw [q]; exact elt
        · rw [q]; exact hilt
      rw [upd_ne (Nat.ne_of_lt hlt)]
      exact (hf c hcm).1
  done := by
    intro X hP hw hK hc i pins s σ H E I hf st hg
    subst hP hw hK
    obtain ⟨⟨old, he⟩, hit⟩ := st
    obtain ⟨xs, hq, hx⟩ := hg
    obtain ⟨its, rv, pl, _⟩ := I.tuple hq
    have l1 := rv.length
    have hn : its.toArray.size = i := by rw [List.size_toArray, ← l1, hx]
    have hst : s.heap.IsTupleIter it a its.toArray.size ∧ s.heap.IsTuple a its.toArray := ⟨by rw [hn]; exact hit, pl⟩
    exact wpAny_pyNext_enum_endD (draws_tup (A := X.A.in1) (I.ok.hd hc) it a hai its.toArray) he hst fun h' kp => ⟨rfl, I.turnedL (t' := s.toks) (ch := [e, it]) (fun c o hb q => kp c o (fun q' => hb (by rw [q']; simp)) q) hf⟩
  self := fun A i s Q E st h => by
    obtain ⟨⟨old, he⟩, _⟩ := st
    exact wpAny_pyIter_enum he h
theorem meets_enum_tup (l : Addr) (o : Obj) (items : Array Value) :
    Meets (Builtin.«enumerate.__new__» ⟨[.type "enumerate", .ref l], []⟩) (fun _ R s => (s.heap.get? l = some o ∧ s.heap.IsTuple l items) ∧
      R (.ok (.ret (.ref (s.heap.push (tiObj l)).objs.size))) { s with heap := (s.heap.push (tiObj l)).push { cls := .type "enumerate", data := .fields #[.none, .bool false, .ref s.heap.objs.size, rawInt 0, .none, .none] } }) :=
  .of_wp fun prog w A R s h => by
    obtain ⟨hp, g, d, tk, os⟩ := s; obtain ⟨⟨hz, ht⟩, h⟩ := h
    have hsub := sub_enumerate
    have it : ∀ {A' : Around} {E : Value → Shared → Prop} {Q : Value → Shared → Prop}, Q (.ref hp.objs.size) ⟨hp.push (tiObj l), g, d, tk, os⟩ → wpAny (model prog w) A' (pyIter (.ref l)) Q E ⟨hp, g, d, tk, os⟩ := fun q => wpAny_pyIter_tuple (s := ⟨hp, g, d, tk, os⟩) ht q
    wp_walk using AutoSeq1.wpAny_loadPart' hz, it
    refine wpAny_stack_any fun st => wpAny_pure ?_
    split
    · rename_i c _ _ _ _ _
      cases (c == Value.type "enumerate")
      all_goals
        wp_walk using AutoSeq1.wpAny_loadPart' hz, it
        exact ⟨_, rfl, h⟩
    · wp_walk using AutoSeq1.wpAny_loadPart' hz, it
      exact ⟨_, rfl, h⟩
theorem call_enum_tup {prog : Program} {w : World} {A : Around} {E : Value → Shared → Prop} {s : Shared} {l : Addr} {items : Array Value} {Q : Value → Shared → Prop} (ht : s.heap.IsTuple l items)
    (h : ∀ h', IsEnum h' (s.heap.objs.size + 1) s.heap.objs.size 0 .none → h'.IsTupleIter s.heap.objs.size l 0 → (∀ b o, s.heap.get? b = some o → h'.get? b = some o) → Q (.ref (s.heap.objs.size + 1)) { s with heap := h' }) :
    wpAny (model prog w) A (call (.type "enumerate") [.ref l]) Q E s := by
  obtain ⟨o, ho⟩ : ∃ o, s.heap.get? l = some o := by
    obtain ⟨o, ho, _⟩ := ht
    exact ⟨o, ho⟩
  refine callType_new F.called_enumerate (by decide) (F.typeCall_enumerate_1 _) (F.newCall_enumerate_1 _) (fun obj => F.args_object_init_2 obj _) F.entry_enumerate_new (meets_enum_tup l o items) ⟨⟨ho, ht⟩, ?_⟩
  have hsz : (s.heap.push (tiObj l)).objs.size = s.heap.objs.size + 1 := Heap.size_push ..
  rw [hsz]
  have he : IsEnum ((s.heap.push (tiObj l)).push { cls := .type "enumerate", data := .fields #[.none, .bool false, .ref s.heap.objs.size, rawInt 0, .none, .none] }) (s.heap.objs.size + 1) s.heap.objs.size 0 .none := by
    rw [← hsz]
    exact Heap.get?_push_size _ rfl
  exact ⟨⟨_, he, rfl⟩, h _ he ⟨tiObj l, Heap.get?_push_of_some _ (Heap.get?_push_size _ rfl), rfl, rfl⟩ fun b o x => Heap.get?_push_of_some _ (Heap.get?_push_of_some _ x)⟩
/-- over enumerate(a tuple) -/
def iEnumT (K : PySem.W.Frag) (ta : TA) : TI := fun σ H R => ta σ H fun vs H1 => ∃ a xs, vs = [.ref a] ∧ ((SqL K H1 a xs ∧ R (Ite K a) H1) ∨ (SqT K H1 a xs ∧ R (IteT K a) H1))
theorem pi_enumLT {X : Cx} {e : Expr} {ta : TA} {p pos tpos : Pos} {elts : List Expr} {kk : Nat} (hg : Gl X "enumerate") (hm : X.mg "enumerate" = none) (ha : PA X [e] ta)
    (hs : starEach [e] X.env = [(false, eval e X.env)] := by rfl) :
    PI X (.Tuple elts kk tpos) (.Call (.Name "enumerate" p) [e] [] pos) (iEnumT X.K ta) := by
  refine ⟨fun pins s σ H R I h => ?_⟩
  refine Call_ (ld_blt I hg hm boot_enumerate (PyProof.Rows.callWith_type1 (thn (ha.run pos pins s σ H _ I h) fun us s1 ⟨vs, H1, I1, r1, q1⟩ => ?_) hs))
  obtain ⟨a, xs, ex, q1⟩ := q1
  subst ex
  cases r1 with
  | cons r rr =>
  cases rr
  cases r
  rcases q1 with ⟨hq, fin⟩ | ⟨hq, fin⟩
  · obtain ⟨its, rv, pl, _⟩ := I1.list hq
    refine call_enumerate_list pl.isList fun h' he hit hsz hk => wpAny_pyIter_enum he ?_
    have I2 : Inv X pins σ H1 { s1 with heap := h' } := I1.kept (t' := s1.toks) hk
    refine ⟨s1.heap.objs.size + 1, [s1.heap.objs.size + 1, s1.heap.objs.size], _, _, H1, rfl, I2, turn_enum a (s1.heap.objs.size + 1) s1.heap.objs.size, ⟨⟨.none, he⟩, hit, Nat.succ_ne_self _⟩, fun c hcm => ?_, fin⟩
    have hle : s1.heap.objs.size ≤ c := by
      simp only [List.mem_cons, List.not_mem_nil, or_false] at hcm
      rcases hcm with z | z <;> rw [z] <;> omega
    exact I1.fpOk hle (I1.hok.fresh hle)
  · obtain ⟨its, rv, pl, _⟩ := I1.tuple hq
    have la : a < s1.heap.objs.size := by
      obtain ⟨o, q, _⟩ := (show s1.heap.IsTuple a its.toArray from pl)
      exact Heap.lt_size q
    refine call_enum_tup (show s1.heap.IsTuple a its.toArray from pl) fun h' he hit hk => wpAny_pyIter_enum he ?_
    have I2 : Inv X pins σ H1 { s1 with heap := h' } := I1.kept (t' := s1.toks) hk
    refine ⟨s1.heap.objs.size + 1, [s1.heap.objs.size + 1, s1.heap.objs.size], _, _, H1, rfl, I2, turn_enumT (Nat.succ_ne_self _) (Nat.ne_of_lt la) (Nat.ne_of_lt (Nat.lt_succ_of_lt la)), ⟨⟨.none, he⟩, hit⟩, fun c hcm => ?_, fin⟩
    have hle : s1.heap.objs.size ≤ c := by
      simp only [List.mem_cons, List.not_mem_nil, or_false] at hcm
      rcases hcm with z | z <;> rw [z] <;> omega
    exact I1.fpOk hle (I1.hok.fresh hle)
end L2


/-! An own exception class over any base, called with positional or keyword arguments: the library tells it without keywords. -/
namespace PySem
namespace KX
open PySem.W PySem.Calls PyProof.Rows PySem.HandSPX
open Builtin Builtin.ObjectAttr
section
variable {P : Program} {wo : World} {Ar : Around} {Er : Value → Shared → Prop} {Rs : Result → Shared → Prop} {hp : Heap} {gs : Array GenState} {dr : Drawn} {tk : Nat} {os : OsState}
variable {cn qn : Str} {c nsA : Addr} {bases tl bt : List Value} {hasD : Bool} {sls : List Str} {subs : List Value} {abst : Bool} {coll : Option Bool} {cd : Option Addr} {y0 y1 y2 y3 y5 : Option Value} {base nid iid : String}
/-- the class's object -/
abbrev clsO (cn qn : Str) (c nsA : Addr) (bases tl : List Value) (hasD : Bool) (sls : List Str) (subs : List Value) (abst : Bool) (coll : Option Bool) (cd : Option Addr) (y0 y1 y2 y3 y5 : Option Value) (nid : String) : Obj :=
  excClassObj cn qn c nsA bases tl hasD sls subs abst coll cd y0 y1 y2 y3 y5 nid
variable (FB : ExcBaseFacts base nid iid bt) (same : ∀ Z : String, tl.contains (.type Z) = bt.contains (.type Z)) (at_ : hp.get? c = some (clsO cn qn c nsA bases tl hasD sls subs abst coll cd y0 y1 y2 y3 y5 nid))
include same in
theorem has_in {Z : String} {b : Bool} (z : bt.contains (.type Z) = b) : (Value.ref c :: tl).contains (.type Z) = b := by
  rw [List.contains_cons, same Z, z]; exact Bool.false_or b
include FB same at_ in
theorem new_checked {M : Model} {ps : List Value} {ks : List (Str × Value)} {Go : Unit → Shared → Prop} (go : Go () ⟨hp, gs, dr, tk, os⟩) : wpAny M Ar (checkBuiltinCall nid ⟨.ref c :: ps, ks⟩) Go Er ⟨hp, gs, dr, tk, os⟩ := by
  have star := FB.noStar
  have sub := has_in (c := c) same FB.hasB
  simp only [checkBuiltinCall, FB.newKind, FB.newSplit, FB.newRow]
  repeat (first | (refine wpAny_isSubtype_exc at_ ?_; rw [sub]) | refine wpAny_loadPart_at at_ ?_ | refine wpAny_madeBy_exc at_ ?_ | refine wpAny_staticBase_exc at_ ?_ | wp_step | simp only [Bool.false_eq_true, bne_self_eq_false, if_false])
  exact go
include FB same at_ in
theorem born {ps : List Value} {ks : List (Str × Value)} (few : ps.length ≤ sizeLine)
    (go : Rs (.ok (.ret (.ref (hp.objs.size + 1)))) ⟨(hp.push (W.kdv_tup ps)).push (excO c hp.objs.size), gs, dr, tk, os⟩) : codeAny (model P wo) Ar (.builtin nid ⟨.ref c :: ps, ks⟩) Rs ⟨hp, gs, dr, tk, os⟩ := by
  have fin := FB.ends
  have i1 := has_in (c := c) same FB.hasB
  have i2 := has_in (c := c) same FB.noAttr
  have i3 := has_in (c := c) same FB.noName
  refine codeAny_builtinAt FB.entry ?_
  unfold Builtin.«BaseException.__new__»
  refine wpAt_bind (?_ : wpAt _ _ _ (stack >>= _) _ _ _)
  refine wpAt_bind (wpAt_stack fun _ _ => wpAt_of_wpAny ?_)
  wp_walk
  refine wpAt_of_wpAny ?_
  rw [FB.owner]
  repeat (first | with_reducible refine wpAny_loadPart_at at_ ?_ | with_reducible refine wpAny_madeHere_exc FB.canon at_ ?_ | (with_reducible refine wpAny_isSubtype_exc at_ ?_; first | rw [i1] | rw [i2] | rw [i3]) | wp_step)
  show Rs _ _
  rw [Heap.size_push]
  exact go
include FB same at_ in
/-- C(.., k = ..): a new object, then the class's own __init__ -/
theorem class_called {ps : List Value} {ks : List (Str × Value)} {fi : Addr} (few : ps.length ≤ sizeLine)
    (ini : W.Looks (model P wo) hp (typeLookup (.ref c) "__init__") (some (.ref fi))) (bnd : ∀ self, W.Looks (model P wo) hp (bindSpecial (.ref fi) self) (.ref fi, [self]))
    (go : codeAny (model P wo) (Ar.under (.builtin "type.__call__" ⟨.ref c :: ps, ks⟩)) (.call (.ref fi) ⟨.ref (hp.objs.size + 1) :: ps, ks⟩) (W.InitBack (hp.objs.size + 1) Rs)
      ⟨(hp.push (W.kdv_tup ps)).push (excO c hp.objs.size), gs, dr, tk, os⟩) : codeAny (model P wo) Ar (.call (.ref c) ⟨ps, ks⟩) Rs ⟨hp, gs, dr, tk, os⟩ := by
  have t1 := tc_lookup
  have t2 := tc_bind (.ref c)
  have isT : (⟨hp, gs, dr, tk, os⟩ : Shared).TypeIs (.ref c) "type" := ⟨_, at_, rfl⟩
  refine codeAny_of_tree (?_ : wpAny _ _ (callAny (.ref c) _) _ _ _)
  repeat (any_goals (first | assumption | wp_step | with_reducible refine wpAny_loadPart_at at_ ?_))
  refine ⟨rfl, codeAny_call_builtin_at (Code.quiet_builtin _ (by decide +kernel)) entry_typeCall (wpAny_check_type_call_sub at_ (?_ : wpAny _ _ (Builtin.«type.__call__» ⟨.ref c :: ps, ks⟩) _ _ _))⟩
  repeat (first | with_reducible refine wpAny_madeBy_exc at_ ?_ | with_reducible refine wpAny_loadPart_at at_ ?_ | wp_step)
  refine codeAny_call_builtin_code (Code.quiet_builtin _ FB.quiet) (new_checked FB same at_ (born FB same at_ few ?_))
  show wpAny _ _ _ _ _ _
  have up : ∀ b o, hp.get? b = some o → ((hp.push (W.kdv_tup ps)).push (excO c hp.objs.size)).get? b = some o := fun _ _ q => Heap.get?_push_of_some _ (Heap.get?_push_of_some _ q)
  have at2 := up _ _ at_
  have obj : ((hp.push (W.kdv_tup ps)).push (excO c hp.objs.size)).get? (hp.objs.size + 1) = some (excO c hp.objs.size) := by heap_get
  have self : (Value.ref c :: tl).contains (.ref c) = true := by simp
  have l1 := ini.keeps up
  have l2 := (bnd (.ref (hp.objs.size + 1))).keeps up
  unfold isInstance
  repeat (first | (with_reducible refine wpAny_isSubtype_exc at2 ?_; rw [self]) | with_reducible refine wpAny_loadPart_at obj ?_ | wp_step)
  refine (l1.at ?_ : wpAny _ _ (typeLookup (.ref c) _) _ _ _)
  refine wpAny_holding (wpAny_bind (l2.at (wpAny_bind (wpAny_call (codeAny_mono go fun r s' q => ?_)))))
  cases r with
  | error e => exact q
  | ok fl =>
    cases fl with
    | ret v =>
      obtain ⟨rfl, q⟩ := q
      first
        | exact wpAny_pure (wpAny_pure q)
        | (wp_walk; exact q)
    | next => exact q.elim
    | brk => exact q.elim
    | cont => exact q.elim
end
end KX
end PySem


namespace PySem
namespace KX
open PySem.W PySem.Calls PyProof.Rows PySem.HandSPX
open Builtin Builtin.ObjectAttr
/-- what the written part says of an own exception class with an own __init__, over the built-in class of that name -/
structure Own (K : Frag) (c fi : Addr) (base nid iid : String) (bt : List Value) : Prop where
  FB : ExcBaseFacts base nid iid bt
  SF : StoreFacts base bt "object.__setattr__" "object"
  ini : excInitIn K c bt nid = true
  over : excOver K c bt = true
  dct : hasDictIn K c = true
  sa : findIn K (.ref c) "__setattr__" = some (some (.builtin "object.__setattr__"))
  ga : findIn K (.ref c) "__getattribute__" = some (some (.builtin "BaseException.__getattribute__"))
  gg : findIn K (.ref c) "__getattr__" = some none
  exc : subIn K (.ref c) (.type "BaseException") = some true
  kp : keepIn K (.ref c) = true
  fI : findIn K (.ref c) "__init__" = some (some (.ref fi))
  fT : typeIn K (.ref fi) = some (.type "function")
  cA : findIn K (.ref c) "__class__" = some (some (.builtin "object.__class__"))
  cN : specialIn K (.builtin "object.__class__") "__get__" = some (some (.builtin "getset_descriptor.__get__"))
  cT : takesIn K (.builtin "object.__class__") = some true
  cM : mroIn K c (.type "object") = some true
/-- no class says anything of the name f -/
structure Free (K : Frag) (c : Addr) (f : Str) : Prop where
  t : takerIn K c f = some none
  n : findIn K (.ref c) f = some none
/-- an exception's object, its dict at d -/
abbrev withD (c t : Addr) (d : Option Addr) : Obj := { cls := .ref c, dict := d, data := .fields #[.ref t, .none, .none, .none, .bool false, .none] }
section
variable {P : Program} {wo : World} {Ar : Around} {Rs : Result → Shared → Prop} {hp : Heap} {gs : Array GenState} {dr : Drawn} {tk : Nat} {os : OsState}
variable {K : Frag} {c fi : Addr} {base nid iid : String} {bt : List Value} {f : Str} {v : Value} {x t : Addr} {tn : Tok}
/-- the first store -/
theorem put_first (O : Own K c fi base nid iid bt) (N : Free K c f) (X : K.In hp) (hx : hp.get? x = some (withD c t none))
    (go : ∀ h' tk' dx, (∀ b o, b ≠ x → hp.get? b = some o → h'.get? b = some o) → hp.objs.size ≤ dx → dx ≠ x → h'.get? x = some (withD c t (some dx)) →
      h'.Ns1 dx (fun y => if y = f then some v else none) → Rs (.ok (.ret .none)) ⟨h', gs, dr, tk', os⟩) :
    codeAny (model P wo) Ar (.call (.builtin "object.__setattr__") ⟨[.ref x, .str f tn, v], []⟩) Rs ⟨hp, gs, dr, tk, os⟩ := by
  have at_ : InstAt hp x (withD c t none) c none := ⟨hx, rfl, rfl, trivial⟩
  have apart : x ≠ hp.objs.size := Nat.ne_of_lt (Heap.lt_size hx)
  obtain ⟨cd, hcd, hdd⟩ := any_some O.dct
  have look : Looks (model P wo) hp (classData c) cd := looks_clsIn X hcd
  refine osa_openX O.SF X at_ O.over N.t fun b => ?_
  show wpAny _ _ (storeInOwnDict (.ref x) (.ref c) (.str f tn) f v b) _ _ _
  obtain ⟨a1, a2, a3, a4, a5, a6, a7, a8, a9, a10, a11⟩ := cd
  have e6 : a6 = true := hdd
  subst e6
  unfold storeInOwnDict ownDictForStores
  repeat (first | with_reducible refine store_in_new ?_ ?_ | with_reducible refine look.at ?_ | with_reducible refine wpAny_loadPart_at hx ?_ | wp_step)
  · exact ⟨_, #[], _, (Heap.get?_update_ne _ _ _ _ apart.symm).trans (Heap.get?_push_at rfl rfl), rfl, fun e he => absurd he (by simp), fun _ => rfl⟩
  · intro h' tk' hn but
    have old : (hp.push { cls := .type "dict", data := .dict #[] }).get? x = some (withD c t none) := Heap.get?_push_of_some _ hx
    exact go h' tk' hp.objs.size (fun b o hb q => (but.2 b (Nat.ne_of_lt (Heap.lt_size q))).trans ((Heap.get?_update_ne _ _ _ _ hb).trans (Heap.get?_push_of_some _ q))) (Nat.le_refl _) apart.symm
      ((but.2 x apart).trans (Heap.get?_update_self _ old rfl)) hn
/-- a further store -/
theorem put_next {dx : Addr} {m0 : Str → Option Value} {ns : List Str} (O : Own K c fi base nid iid bt) (N : Free K c f) (X : K.In hp) (hx : hp.get? x = some (withD c t (some dx))) (hm : hp.Ns1 dx m0) (hw : Within m0 ns) (hz : ns.length ≤ 1000)
    (go : ∀ h' tk', (∀ b o, b ≠ dx → hp.get? b = some o → h'.get? b = some o) → h'.Ns1 dx (fun y => if y = f then some v else m0 y) → Rs (.ok (.ret .none)) ⟨h', gs, dr, tk', os⟩) :
    codeAny (model P wo) Ar (.call (.builtin "object.__setattr__") ⟨[.ref x, .str f tn, v], []⟩) Rs ⟨hp, gs, dr, tk, os⟩ := by
  obtain ⟨od, _, _, hod, _, _⟩ := hm.count hw
  have at_ : InstAt hp x (withD c t (some dx)) c (some od) := ⟨hx, rfl, rfl, hod⟩
  obtain ⟨cd, hcd, hdd⟩ := any_some O.dct
  have look : Looks (model P wo) hp (classData c) cd := looks_clsIn X hcd
  refine osa_openX O.SF X at_ O.over N.t fun b => ?_
  show wpAny _ _ (storeInOwnDict (.ref x) (.ref c) (.str f tn) f v b) _ _ _
  obtain ⟨a1, a2, a3, a4, a5, a6, a7, a8, a9, a10, a11⟩ := cd
  have e6 : a6 = true := hdd
  subst e6
  unfold storeInOwnDict ownDictForStores
  repeat (first | with_reducible refine PySem.OEX.store_in_old hm hw hz ?_ | with_reducible refine look.at ?_ | with_reducible refine wpAny_loadPart_at hx ?_ | wp_step)
  intro h' tk' hn but
  exact go h' tk' (fun b o hb q => (but.2 b hb).trans q) hn
end
end KX
end PySem


namespace PySem
namespace KX
open PySem.W PySem.Calls PyProof.Rows PySem.HandSPX
def arg1 (n : Str) (p : Pos) : Arg := { arg := n, annotation := none, pos := p }
def argsOf (l : List Arg) : Arguments := { posonlyargs := [], args := l, vararg := none, kwonlyargs := [], kw_defaults := [], kwarg := none, defaults := [] }
def setS (f : Str) (q1 q2 q3 q4 : Pos) : Stmt := .Assign [.Attribute (.Name "self" q1) f q2] (.Name f q3) q4
def scOf (l : List Str) : Scope := { kind := .function, names := l.map fun n => (n, .local), isGenerator := false, isCoroutine := false, more := [] }
/-- a local name is read -/
theorem readL {M : Model} {s : Shared} {name : Str} {sc : Scope} {L a : Addr} {cd : Value} {m : Str → Option Value} {x : Str} {pos : Pos} {v : Value} {Q : Value → Shared → Prop} {A : Around} {E : Value → Shared → Prop} (hn : s.heap.Ns L m) (hv : m x = some v)
    (hk : sc.kind = .function) (hl : sc.names.lookup x = some .local) (hd : (x == ("__debug__" : Str)) = false) (h : Q v s) : wpAny M A (eval (.Name x pos) (envOfC name sc L a cd)) Q E s := wpAny_Name (wpAny_loadName_local hk hl hn hv h) hd
/-- what __init__ leaves of the object at x: its dict at dx holds m -/
structure Filled (h h' : Heap) (x c dx t : Addr) (m : Str → Option Value) : Prop where
  old : ∀ b o, b ≠ x → h.get? b = some o → h'.get? b = some o
  obj : h'.get? x = some (withD c t (some dx))
  big : h.objs.size ≤ dx
  ne : dx ≠ x
  ns : h'.Ns1 dx m
section
variable {P : Program} {wo : World} {Ar : Around} {Rs : Result → Shared → Prop} {s : Shared} {K : Frag} {c fi : Addr} {base nid iid : String} {bt : List Value} {f g : Str} {v u : Value} {x t : Addr} {qual : Str} {fd : FuncData} {a1 a2 a3 q1 q2 q3 q4 r1 r2 r3 r4 : Pos} {args : Args}
theorem in_step {A : Around} {E : Value → Shared → Prop} {Q : Flow → Shared → Prop} {L a : Addr} {cd : Value} {sc : Scope} {m : Str → Option Value} {rest : List Stmt} (hn : s.heap.Ns L m) (hk : sc.kind = .function) (sS : sc.names.lookup ("self" : Str) = some NameKind.local) (sF : sc.names.lookup f = some .local)
    (dF : (f == ("__debug__" : Str)) = false) (mS : m "self" = some (.ref x)) (mF : m f = some v)
    (h : wpAny (model P wo) A (setAttr (.ref x) f v) (fun _ s' => wpAny (model P wo) A (execs rest (envOfC qual sc L a cd)) Q E s') E s) :
    wpAny (model P wo) A (execs (setS f q1 q2 q3 q4 :: rest) (envOfC qual sc L a cd)) Q E s := by
  refine wpAny_execs_cons (plainObj_wpAny_Assign_Attribute ?_)
  exact readL hn mF hk sF dF (readL hn mS hk sS (by decide) h)
theorem init_one (O : Own K c fi base nid iid bt) (N : Free K c f) (F : L2.FunD K "__init__" qual (argsOf [arg1 "self" a1, arg1 f a2]) [setS f q1 q2 q3 q4] (scOf ["self", f]) [] [] fi fd) (fs : (f == ("self" : Str)) = false) (fdb : (f == ("__debug__" : Str)) = false)
    (hb : BindsTo s fd args [("self", .ref x), (f, v)]) (X : K.In s.heap) (lim : s.heap.NoLimit) (hx : s.heap.get? x = some (withD c t none)) (room : Ar.depth < recursionLimit)
    (go : ∀ h' tk dx, Filled s.heap h' x c dx t (fun y => if y = f then some v else none) → Rs (.ok (.ret .none)) { s with heap := h', toks := tk }) :
    codeAny (model P wo) Ar (.call (.ref fi) args) Rs s := by
  obtain ⟨oc, od, dV, kV, doc, pm, an, cdv, ct, osl, rfl, lk, hcd, hD, hK⟩ := F.ex
  have l1 : (scOf ["self", f]).names.lookup ("self" : Str) = some .local := by simp [scOf, List.lookup]
  have l2 : (scOf ["self", f]).names.lookup f = some .local := by simp [scOf, List.lookup, fs]
  refine Att.call_fn (binds := [("self", .ref x), (f, v)]) X lim lk hcd room hb (by simp [l1, l2]) (fun s₁ IC => ?_) rfl rfl rfl
  obtain ⟨h₁, tk₁, rfl⟩ := IC.toInCall.same
  have up : ∀ b o, s.heap.get? b = some o → h₁.get? b = some o := IC.toInCall.keep
  have hn := IC.toInCall.ns
  have k1 : (envOfC qual (scOf ["self", f]) s.heap.objs.size fi cdv).kindOf ("self" : Str) = some .local := l1
  have k2 : (envOfC qual (scOf ["self", f]) s.heap.objs.size fi cdv).kindOf f = some .local := l2
  have nsf : ¬ (("self" : Str) = f) := fun z => by rw [← z] at fs; simp at fs
  refine in_step (x := x) (v := v) hn rfl l1 l2 fdb (by simp [bindL, k1, k2, nsf]) (by simp [bindL, k1, k2]) ?_
  refine set_plain (X.keeps up) (ox := withD c t none) (od := none) ⟨up _ _ hx, rfl, rfl, trivial⟩ O.sa ?_
  refine put_first O N (X.keeps up) (up _ _ hx) (fun h₃ tk₃ dx k₃ dn dne hx₃ hn₃ => ?_)
  have z : s.heap.objs.size < h₁.objs.size := hn.lt
  exact wpAny_execs_nil (go h₃ tk₃ dx ⟨fun b o hb e => k₃ b o hb (up b o e), hx₃, Nat.le_of_lt (Nat.lt_of_lt_of_le z dn), dne, hn₃⟩)
theorem init_two (O : Own K c fi base nid iid bt) (N : Free K c f) (N2 : Free K c g) (F : L2.FunD K "__init__" qual (argsOf [arg1 "self" a1, arg1 f a2, arg1 g a3]) [setS f q1 q2 q3 q4, setS g r1 r2 r3 r4] (scOf ["self", f, g]) [] [] fi fd)
    (fs : (f == ("self" : Str)) = false) (gs : (g == ("self" : Str)) = false) (gf : (g == f) = false) (fdb : (f == ("__debug__" : Str)) = false) (gdb : (g == ("__debug__" : Str)) = false)
    (hb : BindsTo s fd args [("self", .ref x), (f, v), (g, u)]) (X : K.In s.heap) (lim : s.heap.NoLimit) (hx : s.heap.get? x = some (withD c t none)) (hnx : K.lookup x = none) (room : Ar.depth < recursionLimit)
    (go : ∀ h' tk dx, Filled s.heap h' x c dx t (fun y => if y = g then some u else if y = f then some v else none) → Rs (.ok (.ret .none)) { s with heap := h', toks := tk }) :
    codeAny (model P wo) Ar (.call (.ref fi) args) Rs s := by
  obtain ⟨oc, od, dV, kV, doc, pm, an, cdv, ct, osl, rfl, lk, hcd, hD, hK⟩ := F.ex
  have l1 : (scOf ["self", f, g]).names.lookup ("self" : Str) = some .local := by simp [scOf, List.lookup]
  have l2 : (scOf ["self", f, g]).names.lookup f = some .local := by simp [scOf, List.lookup, fs]
  have l3 : (scOf ["self", f, g]).names.lookup g = some .local := by simp [scOf, List.lookup, gs, gf]
  refine Att.call_fn (binds := [("self", .ref x), (f, v), (g, u)]) X lim lk hcd room hb (by simp [l1, l2, l3]) (fun s₁ IC => ?_) rfl rfl rfl
  obtain ⟨h₁, tk₁, rfl⟩ := IC.toInCall.same
  have up : ∀ b o, s.heap.get? b = some o → h₁.get? b = some o := IC.toInCall.keep
  have hn := IC.toInCall.ns
  have k1 : (envOfC qual (scOf ["self", f, g]) s.heap.objs.size fi cdv).kindOf ("self" : Str) = some .local := l1
  have k2 : (envOfC qual (scOf ["self", f, g]) s.heap.objs.size fi cdv).kindOf f = some .local := l2
  have k3 : (envOfC qual (scOf ["self", f, g]) s.heap.objs.size fi cdv).kindOf g = some .local := l3
  have n1 : ¬ (("self" : Str) = f) := fun z => by rw [← z] at fs; simp at fs
  have n2 : ¬ (("self" : Str) = g) := fun z => by rw [← z] at gs; simp at gs
  have n3 : ¬ (f = g) := fun z => by rw [← z] at gf; simp at gf
  refine in_step (x := x) (v := v) hn rfl l1 l2 fdb (by simp [bindL, k1, k2, k3, n1, n2]) (by simp [bindL, k1, k2, k3, n3]) ?_
  refine set_plain (X.keeps up) (ox := withD c t none) (od := none) ⟨up _ _ hx, rfl, rfl, trivial⟩ O.sa ?_
  refine put_first O N (X.keeps up) (up _ _ hx) (fun h₃ tk₃ dx k₃ dn dne hx₃ hn₃ => ?_)
  have z : s.heap.objs.size < h₁.objs.size := hn.lt
  have lx : s.heap.objs.size ≠ x := Nat.ne_of_gt (Heap.lt_size hx)
  have hn3 : h₃.Ns s.heap.objs.size _ := hn.at fun o q => k₃ _ _ lx q
  obtain ⟨od3, _, _, hod3, _, _⟩ := hn₃.count (Within.cons f v Within.nil)
  have X3 : K.In h₃ := fun b o e => by
    by_cases hbx : b = x
    · rw [hbx, hnx] at e
      cases e
    · exact k₃ b o hbx (up _ _ (X b o e))
  refine in_step (x := x) (v := u) hn3 rfl l1 l3 gdb (by simp [bindL, k1, k2, k3, n1, n2]) (by simp [bindL, k1, k2, k3]) ?_
  refine set_plain X3 (ox := withD c t (some dx)) (od := some od3) ⟨hx₃, rfl, rfl, hod3⟩ O.sa ?_
  refine put_next O N2 X3 hx₃ hn₃ (Within.cons f v Within.nil) (by show 1 ≤ 1000; decide) (fun h₄ tk₄ k₄ hn₄ => ?_)
  exact wpAny_execs_nil (go h₄ tk₄ dx ⟨fun b o hb e => k₄ b o (Nat.ne_of_lt (Nat.lt_of_lt_of_le (Heap.lt_size (up b o e)) dn)) (k₃ b o hb (up b o e)), k₄ _ _ dne.symm hx₃, Nat.le_of_lt (Nat.lt_of_lt_of_le z dn), dne, hn₄⟩)
end
end KX
end PySem


namespace L2
open PySem PySem.Spec PyProof.Rows PySem.KX
/-- the end of C(..): the object at e and its dict at d stand -/
def Laid (H : Hp) (c : Addr) (fs : List (Str × V)) (Q : VK) : Prop := ∀ e d, H e = none → H d = none → d ≠ e → Q (.ref e) (upd (upd H d (exd d fs)) e (exo e c (some d)))
section
variable {X : Cx} {pins : List (Addr × Obj)} {σ : St} {H : Hp} {s : Shared} {c fi : Addr} {base nid iid : String} {bt : List Value} {f g : Str} {y z : V} {v u : Value} {qual : Str} {fd : FuncData} {a1 a2 a3 q1 q2 q3 q4 r1 r2 r3 r4 : Pos} {us : List Value} {ks : List (Str × Value)} {Q : VK} {k : Nat}
theorem laid_end {hp h' : Heap} {g0 : Array GenState} {dr : Drawn} {t0 t' : Nat} {os : OsState} {d0 t1 : Addr} {m : Str → Option Value} {fs : List (Str × V)} (I : Inv X pins σ H ⟨hp, g0, dr, t0, os⟩) (h : Laid H c fs Q) {w1 w2 : Obj}
    (M : Filled ((hp.push w1).push w2) h' (hp.objs.size + 1) c d0 t1 m) (rel : ∀ f, RelO (fs.lookup f) (m f)) :
    EP X pins σ Q (.ref (hp.objs.size + 1)) ⟨h', g0, dr, t', os⟩ := by
  have old : ∀ b o, hp.get? b = some o → h'.get? b = some o := fun b o e => M.old b o (Nat.ne_of_lt (Nat.lt_succ_of_lt (Heap.lt_size e))) (Heap.get?_push_of_some _ (Heap.get?_push_of_some _ e))
  have big : hp.objs.size ≤ d0 := by
    have z := M.big
    rw [Heap.size_push, Heap.size_push] at z
    omega
  have hn : H (hp.objs.size + 1) = none := I.hok.fresh (Nat.le_succ _)
  have hd : H d0 = none := I.hok.fresh big
  obtain ⟨G, g1, g2⟩ := restrict h' fun b => decide (b ≠ hp.objs.size + 1)
  have gk : ∀ b, b ≠ hp.objs.size + 1 → G.get? b = h'.get? b := fun b hb => g1 b (decide_eq_true hb)
  have ge : G.get? (hp.objs.size + 1) = none := g2 _ (by simp)
  have oldG : ∀ b o, hp.get? b = some o → G.get? b = some o := fun b o q => (gk b (Nat.ne_of_lt (Nat.lt_succ_of_lt (Heap.lt_size q)))).trans (old b o q)
  have J : Inv X pins σ (upd H d0 (exd d0 fs)) ⟨G, g0, dr, t', os⟩ := I.laid (t' := t') oldG big (exd_ok (M.ns.at fun o q => (gk d0 M.ne).trans q) rel)
  have he : (upd H d0 (exd d0 fs)) (hp.objs.size + 1) = none := by rw [upd_ne M.ne.symm]; exact hn
  refine ⟨.ref (hp.objs.size + 1), _, J.laidN (t' := t') (h' := h') (fun b o q => ?_) ge he (exo_ok M.obj), rfl, h _ _ hn hd M.ne⟩
  by_cases hb : b = hp.objs.size + 1
  · have q' : G.get? b = some o := q
    rw [hb, ge] at q'
    cases q'
  · exact (gk b hb).symm.trans q
theorem not_written {K : PySem.W.Frag} {hp : Heap} (KX : K.In hp) : K.lookup (hp.objs.size + 1) = none := by
  cases e : K.lookup (hp.objs.size + 1) with
  | none => rfl
  | some o =>
    have z : hp.get? (hp.objs.size + 1) = some o := KX _ _ e
    exact absurd (Nat.lt_of_succ_lt (Heap.lt_size z)) (Nat.lt_irrefl _)
theorem run_mk1 (O : Own X.K c fi base nid iid bt) (N : Free X.K c f) (F : FunD X.K "__init__" qual (argsOf [arg1 "self" a1, arg1 f a2]) [setS f q1 q2 q3 q4] (scOf ["self", f]) [] [] fi fd) (fs : (f == ("self" : Str)) = false) (fdb : (f == ("__debug__" : Str)) = false)
    (hr : Room 1 X.A) (I : Inv X pins σ H s) (rv : RelV y v) (few : us.length ≤ sizeLine) (hb : ∀ s self, BindsTo s fd ⟨.ref self :: us, ks⟩ [("self", .ref self), (f, v)])
    (h : Laid H c [(f, y)] Q) : wpAny (model X.prog X.w) X.A (call (.ref c) us ks) (EP X pins σ Q) X.xe s := by
  obtain ⟨nm, nsA, qn, bs, bm, hdct, sn, sub, ab, col, dd, k0, k1, k2, k3, k5, hC, same⟩ := PySem.W.excInit_of I.kIn O.ini
  obtain ⟨hp, g0, dr, tk, os⟩ := s
  have up : ∀ b o, hp.get? b = some o → ((hp.push (PySem.W.kdv_tup us)).push (PySem.HandSPX.excO c hp.objs.size)).get? b = some o := fun b o e => Heap.get?_push_of_some _ (Heap.get?_push_of_some _ e)
  have obj : ((hp.push (PySem.W.kdv_tup us)).push (PySem.HandSPX.excO c hp.objs.size)).get? (hp.objs.size + 1) = some (withD c hp.objs.size none) := by heap_get
  refine wpAny_call (class_called O.FB same hC few (PySem.W.looks_findIn I.kIn O.fI) (fun self => PySem.W.bind_fn I.kIn self O.fT) ?_)
  refine init_one (s := ⟨(hp.push (PySem.W.kdv_tup us)).push (PySem.HandSPX.excO c hp.objs.size), g0, dr, tk, os⟩) O N F fs fdb (hb _ _) (I.kIn.keeps up) (I.nolimit.keeps up) obj (by show X.A.depth + 1 < recursionLimit; have := hr.dp; omega) fun h' tk' d0 M => ?_
  refine ⟨rfl, laid_end I h M fun q => ?_⟩
  exact relO_put (fs := []) (mA := fun _ => none) rv (fun _ => True.intro) q
theorem run_mk2 (O : Own X.K c fi base nid iid bt) (N : Free X.K c f) (N2 : Free X.K c g) (F : FunD X.K "__init__" qual (argsOf [arg1 "self" a1, arg1 f a2, arg1 g a3]) [setS f q1 q2 q3 q4, setS g r1 r2 r3 r4] (scOf ["self", f, g]) [] [] fi fd)
    (fs : (f == ("self" : Str)) = false) (gs : (g == ("self" : Str)) = false) (gf : (g == f) = false) (fdb : (f == ("__debug__" : Str)) = false) (gdb : (g == ("__debug__" : Str)) = false)
    (hr : Room 1 X.A) (I : Inv X pins σ H s) (rv : RelV y v) (ru : RelV z u) (few : us.length ≤ sizeLine) (hb : ∀ s self, BindsTo s fd ⟨.ref self :: us, ks⟩ [("self", .ref self), (f, v), (g, u)])
    (h : Laid H c [(g, z), (f, y)] Q) : wpAny (model X.prog X.w) X.A (call (.ref c) us ks) (EP X pins σ Q) X.xe s := by
  obtain ⟨nm, nsA, qn, bs, bm, hdct, sn, sub, ab, col, dd, k0, k1, k2, k3, k5, hC, same⟩ := PySem.W.excInit_of I.kIn O.ini
  obtain ⟨hp, g0, dr, tk, os⟩ := s
  have up : ∀ b o, hp.get? b = some o → ((hp.push (PySem.W.kdv_tup us)).push (PySem.HandSPX.excO c hp.objs.size)).get? b = some o := fun b o e => Heap.get?_push_of_some _ (Heap.get?_push_of_some _ e)
  have obj : ((hp.push (PySem.W.kdv_tup us)).push (PySem.HandSPX.excO c hp.objs.size)).get? (hp.objs.size + 1) = some (withD c hp.objs.size none) := by heap_get
  refine wpAny_call (class_called O.FB same hC few (PySem.W.looks_findIn I.kIn O.fI) (fun self => PySem.W.bind_fn I.kIn self O.fT) ?_)
  refine init_two (s := ⟨(hp.push (PySem.W.kdv_tup us)).push (PySem.HandSPX.excO c hp.objs.size), g0, dr, tk, os⟩) O N N2 F fs gs gf fdb gdb (hb _ _) (I.kIn.keeps up) (I.nolimit.keeps up) obj (not_written I.kIn) (by show X.A.depth + 1 < recursionLimit; have := hr.dp; omega) fun h' tk' d0 M => ?_
  refine ⟨rfl, laid_end I h M fun q => ?_⟩
  exact relO_put (fs := [(f, y)]) ru (relO_put (fs := []) (mA := fun _ => none) rv (fun _ => True.intro)) q
end
end L2


namespace L2
open PySem PySem.Spec PyProof.Rows PySem.KX
/-- the class nm, at c, has an __init__ of one field f -/
structure Cl1 (K : PySem.W.Frag) (c : Addr) (f : Str) : Prop where
  ex : ∃ (fi : Addr) (base nid iid : String) (bt : List Value) (qual : Str) (fd : FuncData) (a1 a2 q1 q2 q3 q4 : Pos), Own K c fi base nid iid bt ∧
    FunD K "__init__" qual (argsOf [arg1 "self" a1, arg1 f a2]) [setS f q1 q2 q3 q4] (scOf ["self", f]) [] [] fi fd ∧
    (∀ s self v, BindsTo s fd ⟨[.ref self, v], []⟩ [("self", .ref self), (f, v)]) ∧ ∀ s self v, BindsTo s fd ⟨[.ref self], [(f, v)]⟩ [("self", .ref self), (f, v)]
  fr : Free K c f
  fs : (f == ("self" : Str)) = false
  fdb : (f == ("__debug__" : Str)) = false
  kp : PySem.W.keepIn K (.ref c) = true
/-- .. of two fields f, g; by name in the other order -/
structure Cl2 (K : PySem.W.Frag) (c : Addr) (f g : Str) : Prop where
  ex : ∃ (fi : Addr) (base nid iid : String) (bt : List Value) (qual : Str) (fd : FuncData) (a1 a2 a3 q1 q2 q3 q4 r1 r2 r3 r4 : Pos), Own K c fi base nid iid bt ∧
    FunD K "__init__" qual (argsOf [arg1 "self" a1, arg1 f a2, arg1 g a3]) [setS f q1 q2 q3 q4, setS g r1 r2 r3 r4] (scOf ["self", f, g]) [] [] fi fd ∧
    (∀ s self v u, BindsTo s fd ⟨[.ref self, v, u], []⟩ [("self", .ref self), (f, v), (g, u)]) ∧ ∀ s self v u, BindsTo s fd ⟨[.ref self], [(g, u), (f, v)]⟩ [("self", .ref self), (f, v), (g, u)]
  fr : Free K c f
  gr : Free K c g
  fs : (f == ("self" : Str)) = false
  gs : (g == ("self" : Str)) = false
  gf : (g == f) = false
  fdb : (f == ("__debug__" : Str)) = false
  gdb : (g == ("__debug__" : Str)) = false
  kp : PySem.W.keepIn K (.ref c) = true
/-- what reading an exception of the class at c wants -/
structure ClG (K : PySem.W.Frag) (c : Addr) : Prop where
  ga : PySem.W.findIn K (.ref c) "__getattribute__" = some (some (.builtin "BaseException.__getattribute__"))
  gg : PySem.W.findIn K (.ref c) "__getattr__" = some none
  exc : PySem.W.subIn K (.ref c) (.type "BaseException") = some true
  dct : PySem.W.hasDictIn K c = true
  cA : PySem.W.findIn K (.ref c) "__class__" = some (some (.builtin "object.__class__"))
  cN : PySem.W.specialIn K (.builtin "object.__class__") "__get__" = some (some (.builtin "getset_descriptor.__get__"))
  cT : PySem.W.takesIn K (.builtin "object.__class__") = some true
  cM : PySem.W.mroIn K c (.type "object") = some true
def tX1 (c : Addr) (f : Str) (ta : TA) : TE := fun σ H Q => ta σ H fun vs H1 => ∃ y, vs = [y] ∧ Laid H1 c [(f, y)] Q
def tX2 (c : Addr) (f g : Str) (ta : TA) : TE := fun σ H Q => ta σ H fun vs H1 => ∃ y z, vs = [y, z] ∧ Laid H1 c [(g, z), (f, y)] Q
def tX2k (c : Addr) (f g : Str) (ta : TA) : TE := fun σ H Q => ta σ H fun vs H1 => ∃ y z, vs = [z, y] ∧ Laid H1 c [(g, z), (f, y)] Q
/-- e.f of an exception object -/
def tXG (K : PySem.W.Frag) (f : Str) (te : TE) : TE := fun σ H Q => te σ H fun x H1 => ∃ (a c d : Addr) (fs : List (Str × V)) (v : V), x = .ref a ∧ ClG K c ∧ PySem.W.findIn K (.ref c) f = some none ∧ H1 a = some (exo a c (some d)) ∧ H1 d = some (exd d fs) ∧ fs.lookup f = some v ∧ Q v H1
def rIsX (K : PySem.W.Frag) : List V → Hp → VK → Prop := fun xs H Q => ∃ (a c d : Addr) (fs : List (Str × V)) (k : V) (u : Value) (b : Bool), xs = [.ref a, k] ∧ ClsV k u ∧ ClG K c ∧ H a = some (exo a c (some d)) ∧ H d = some (exd d fs) ∧ PySem.W.kitOne K (.ref c) u = some b ∧ Q (.bl b) H
section
variable {X : Cx} {c : Addr} {f g : Str} {x : Str} {p pos : Pos} {e : Expr} {es : List Expr} {kws : List Keyword} {ta : TA} {te : TE}
theorem one_few (v : Value) : [v].length ≤ sizeLine := by
  rw [sizeLine_eq]
  exact (by decide : 1 ≤ 16777216)
theorem two_few (v u : Value) : [v, u].length ≤ sizeLine := by
  rw [sizeLine_eq]
  exact (by decide : 2 ≤ 16777216)
theorem nil_few : ([] : List Value).length ≤ sizeLine := Nat.zero_le _
theorem pe_x1 (T : Cl1 X.K c f) (hr : Room 1 X.A) (hm : X.mg x = some (.ref c)) (hg : Gl X x) (ha : PA X [e] ta) (hdb : (x == ("__debug__" : Str)) = false := by decide)
    (he : starEach (e :: []) X.env = (false, eval e X.env) :: starEach [] X.env := by rfl) (hpl : (backTo pos (starEach [] X.env)).any (·.1) = false := by rfl) : PE X (.Call (.Name x p) [e] [] pos) (tX1 c f ta) := by
  refine ⟨fun pins s σ H Q I h => ?_⟩
  obtain ⟨fi, base, nid, iid, bt, qual, fd, a1, a2, q1, q2, q3, q4, O, F, b1, b2⟩ := T.ex
  refine wpAny_Call_Name_kw (ld_glob I hg hm ?_ hdb)
  refine PySem.W.callWith_K (h₀ := X.base) I.ok.mod.kin T.kp (thn (ha.run pos pins s σ H _ I h) fun us s1 hh => ?_) he hpl
  obtain ⟨vs, H1, I1, r1, y, rfl, q⟩ := hh
  obtain ⟨u, rfl, ru⟩ := vals1 r1
  exact ⟨I1.kIn, run_mk1 (us := [u]) (ks := []) O T.fr F T.fs T.fdb hr I1 ru (one_few u) (fun s self => b1 s self u) q⟩
theorem pe_x1k (T : Cl1 X.K c f) (hr : Room 1 X.A) (hm : X.mg x = some (.ref c)) (hg : Gl X x) (hkw : PK X kws ta) (hall : (backToKw pos (keywordEach kws X.env)).all (·.1.isSome) = true := by rfl) (hks : (backToKw pos (keywordEach kws X.env)).filterMap (·.1) = [f] := by rfl)
    (hdb : (x == ("__debug__" : Str)) = false := by decide) (hpl : ((backTo pos (starEach [] X.env)).any (·.1) || (backToKw pos (keywordEach kws X.env)).any (·.1.isNone)) = false := by rfl) : PE X (.Call (.Name x p) [] kws pos) (tX1 c f ta) := by
  refine ⟨fun pins s σ H Q I h => ?_⟩
  obtain ⟨fi, base, nid, iid, bt, qual, fd, a1, a2, q1, q2, q3, q4, O, F, b1, b2⟩ := T.ex
  refine wpAny_Call_Name_kw (ld_glob I hg hm ?_ hdb)
  refine PySem.W.callWith_KW0 (h₀ := X.base) I.ok.mod.kin T.kp hall ?_ hpl
  refine thn (hkw.run pos pins s σ H _ I h) fun ws s2 hh => ?_
  obtain ⟨zs, H2, I2, rz, y, rfl, q⟩ := hh
  obtain ⟨u, rfl, ru⟩ := vals1 rz
  refine ⟨I2.kIn, ?_⟩
  rw [hks]
  exact run_mk1 (us := []) (ks := [(f, u)]) O T.fr F T.fs T.fdb hr I2 ru nil_few (fun s self => b2 s self u) q
theorem pe_x2 (T : Cl2 X.K c f g) (hr : Room 1 X.A) (hm : X.mg x = some (.ref c)) (hg : Gl X x) (ha : PA X (e :: es) ta) (hdb : (x == ("__debug__" : Str)) = false := by decide)
    (he : starEach (e :: es) X.env = (false, eval e X.env) :: starEach es X.env := by rfl) (hpl : (backTo pos (starEach es X.env)).any (·.1) = false := by rfl) : PE X (.Call (.Name x p) (e :: es) [] pos) (tX2 c f g ta) := by
  refine ⟨fun pins s σ H Q I h => ?_⟩
  obtain ⟨fi, base, nid, iid, bt, qual, fd, a1, a2, a3, q1, q2, q3, q4, r1, r2, r3, r4, O, F, b1, b2⟩ := T.ex
  refine wpAny_Call_Name_kw (ld_glob I hg hm ?_ hdb)
  refine PySem.W.callWith_K (h₀ := X.base) I.ok.mod.kin T.kp (thn (ha.run pos pins s σ H _ I h) fun us s1 hh => ?_) he hpl
  obtain ⟨vs, H1, I1, r1, y, z, rfl, q⟩ := hh
  obtain ⟨u, u2, rfl, ru, ru2⟩ := vals2 r1
  exact ⟨I1.kIn, run_mk2 (us := [u, u2]) (ks := []) O T.fr T.gr F T.fs T.gs T.gf T.fdb T.gdb hr I1 ru ru2 (two_few u u2) (fun s self => b1 s self u u2) q⟩
theorem pe_x2k (T : Cl2 X.K c f g) (hr : Room 1 X.A) (hm : X.mg x = some (.ref c)) (hg : Gl X x) (hkw : PK X kws ta) (hall : (backToKw pos (keywordEach kws X.env)).all (·.1.isSome) = true := by rfl) (hks : (backToKw pos (keywordEach kws X.env)).filterMap (·.1) = [g, f] := by rfl)
    (hdb : (x == ("__debug__" : Str)) = false := by decide) (hpl : ((backTo pos (starEach [] X.env)).any (·.1) || (backToKw pos (keywordEach kws X.env)).any (·.1.isNone)) = false := by rfl) : PE X (.Call (.Name x p) [] kws pos) (tX2k c f g ta) := by
  refine ⟨fun pins s σ H Q I h => ?_⟩
  obtain ⟨fi, base, nid, iid, bt, qual, fd, a1, a2, a3, q1, q2, q3, q4, r1, r2, r3, r4, O, F, b1, b2⟩ := T.ex
  refine wpAny_Call_Name_kw (ld_glob I hg hm ?_ hdb)
  refine PySem.W.callWith_KW0 (h₀ := X.base) I.ok.mod.kin T.kp hall ?_ hpl
  refine thn (hkw.run pos pins s σ H _ I h) fun ws s2 hh => ?_
  obtain ⟨zs, H2, I2, rz, y, z, rfl, q⟩ := hh
  obtain ⟨u2, u, rfl, ru2, ru⟩ := vals2 rz
  refine ⟨I2.kIn, ?_⟩
  rw [hks]
  exact run_mk2 (us := []) (ks := [(g, u2), (f, u)]) O T.fr T.gr F T.fs T.gs T.gf T.fdb T.gdb hr I2 ru ru2 nil_few (fun s self => b2 s self u u2) q
theorem inst_at {pins : List (Addr × Obj)} {σ : St} {H : Hp} {s : Shared} {a d : Addr} {fs : List (Str × V)} (I : Inv X pins σ H s) (ea : H a = some (exo a c (some d))) (ed : H d = some (exd d fs)) :
    ∃ ox od, PySem.W.InstAt s.heap a ox c (some od) ∧ ∀ f v, fs.lookup f = some v → ∃ u, PySem.W.lookIn f od = some (some u) ∧ RelV v u := by
  obtain ⟨t1, ho⟩ := exo_at I.hok ea
  obtain ⟨mA, hns, rel⟩ := exd_at I.hok ed
  obtain ⟨od, hod, hl⟩ := lookIn_ns hns
  refine ⟨_, od, ⟨ho, rfl, rfl, hod⟩, fun f v l => ?_⟩
  obtain ⟨u, hu, ru⟩ := RelO.some_of (v := v) (o := mA f) (by rw [← l]; exact rel f)
  exact ⟨u, by rw [hl, hu], ru⟩
theorem pe_xg (he : PE X e te) (hb : attributeBase e f X.env (eval e X.env) = eval e X.env := by rfl) : PE X (.Attribute e f pos) (tXG X.K f te) := by
  refine ⟨fun pins s σ H Q I h => ?_⟩
  refine attr_of hb (thn (he.run pins s σ H _ I h) fun u s1 hh => ?_)
  obtain ⟨x, H1, I1, rx, a, c, d, fs, v, rfl, T, hno, ea, ed, l, q⟩ := hh
  obtain rfl : u = Value.ref a := rx
  obtain ⟨ox, od, J, look⟩ := inst_at I1 ea ed
  obtain ⟨w, lw, rw'⟩ := look f v l
  exact HandSPX.exc_get I1.kIn J T.ga T.gg T.exc (PySem.W.findObj_own T.dct hno rfl lw) (handed_of rw') ⟨v, H1, I1.tok _, rw', q⟩
theorem call_isX : CallR X (.builtin "isinstance") (rIsX X.K) := by
  intro pins s σ H xs us Q I r h
  obtain ⟨a, c, d, fs, k, u, b, rfl, ku, T, ea, ed, e, q⟩ := h
  obtain ⟨u1, u2, rfl, r1, r2⟩ := vals2 r
  have e2 := ku.eq r2
  subst e2
  obtain rfl : u1 = Value.ref a := r1
  obtain ⟨ox, od, J, look⟩ := inst_at I ea ed
  exact PySem.W.kia_one (PySem.W.kitx_exc (by obtain ⟨cd, hc, _⟩ := PySem.W.any_some T.dct; rw [hc]; rfl) T.ga T.gg T.exc T.cA T.cN T.cT T.cM) I.kIn J e (fun z => nomatch z) fun tk => ⟨.bl b, H, I.tok tk, rfl, q⟩
end
end L2


namespace L2
open PySem PySem.Spec PyProof.Rows PySem.KX
/-! repr of data: lists, tuples, dicts of flat values -/
def keyD : Key → PyData
  | .inl i => .int i
  | .inr x => .str x
def leafD : V → PyData
  | .int i => .int i
  | .str x => .str x
  | _ => .none
def leafV (v : V) : Prop := (∃ i, v = .int i) ∨ ∃ x, v = .str x
mutual
inductive Dq (H : Hp) : V → PyData → Prop
  | non : Dq H .non .none
  | bl (b : Bool) : Dq H (.bl b) (.bool b)
  | int (i : Int) : Dq H (.int i) (.int i)
  | str (x : Str) : Dq H (.str x) (.str x)
  | lst {a : Addr} {xs : List V} {ds : List PyData} : H a = some (.lst xs) → sysModules ≠ a → DqAll H xs ds → Dq H (.ref a) (.list ds)
  | tup {a : Addr} {xs : List V} {ds : List PyData} : H a = some (.tup xs) → DqAll H xs ds → Dq H (.ref a) (.tuple ds)
  | dct {a : Addr} {kvs : List (Key × V)} : H a = some (.dK kvs) → (∀ p ∈ kvs, leafV p.2) → Dq H (.ref a) (.dict (kvs.map fun p => (keyD p.1, leafD p.2)))
inductive DqAll (H : Hp) : List V → List PyData → Prop
  | nil : DqAll H [] []
  | cons {v : V} {vs : List V} {d : PyData} {ds : List PyData} : Dq H v d → DqAll H vs ds → DqAll H (v :: vs) (d :: ds)
end
mutual
theorem Dq.mono {H H' : Hp} (s : Same H H') : ∀ {v : V} {d : PyData}, Dq H v d → Dq H' v d
  | _, _, .non => .non
  | _, _, .bl b => .bl b
  | _, _, .int i => .int i
  | _, _, .str x => .str x
  | _, _, .lst h n a => .lst (s _ _ h) n (DqAll.mono s a)
  | _, _, .tup h a => .tup (s _ _ h) (DqAll.mono s a)
  | _, _, .dct h a => .dct (s _ _ h) a
theorem DqAll.mono {H H' : Hp} (s : Same H H') : ∀ {v : List V} {d : List PyData}, DqAll H v d → DqAll H' v d
  | _, _, .nil => .nil
  | _, _, .cons a b => .cons (Dq.mono s a) (DqAll.mono s b)
end
section
variable {X : Cx} {pins : List (Addr × Obj)} {σ : St} {H : Hp} {s : Shared}
theorem reads_keys (h : Heap) {P : Program} {w : World} : ∀ {es : List DictEntry} {vs : List (Key × Value)}, Pairs (mixKind P w) es vs → ReadsAll h (es.map (·.key)) (vs.map fun p => keyD p.1) [] ∧ es.map (·.val) = vs.map (·.2) := by
  intro es vs hp
  induction hp with
  | nil => exact ⟨.nil, rfl⟩
  | @cons e kv es kvs hk hv _ ih =>
    obtain ⟨i1, i2⟩ := ih
    have kd : ∀ k : Key, ∀ u : Value, keyIs k u = true → Reads h u (keyD k) [] := fun k u q => by
      rcases keyIs_shape q with ⟨i, t, rfl, rfl⟩ | ⟨x, t, rfl, rfl⟩
      · exact .int i t
      · exact .str x t
    exact ⟨ReadsAll.cons (as := []) (bs := []) (kd _ _ hk) i1, by rw [List.map_cons, List.map_cons, i2, hv]⟩
theorem reads_leaf {h : Heap} {v : V} {u : Value} (l : leafV v) (r : RelV v u) : Reads h u (leafD v) [] := by
  rcases l with ⟨i, rfl⟩ | ⟨x, rfl⟩
  · obtain ⟨t, rfl⟩ := r
    exact .int i t
  · obtain ⟨t, rfl⟩ := r
    exact .str x t
theorem reads_vals {h : Heap} : ∀ {kvs : List (Key × V)} {vs : List (Key × Value)}, KV kvs vs → (∀ p ∈ kvs, leafV p.2) → ReadsAll h (vs.map (·.2)) (kvs.map fun p => leafD p.2) [] ∧ (vs.map fun p => keyD p.1) = kvs.map fun p => keyD p.1 := by
  intro kvs vs r
  unfold KV at r
  induction r with
  | nil => intro _; exact ⟨.nil, rfl⟩
  | @cons p q ps qs hpq t ih =>
    intro l
    obtain ⟨i1, i2⟩ := ih fun z hz => l z (List.mem_cons_of_mem _ hz)
    refine ⟨ReadsAll.cons (as := []) (bs := []) (reads_leaf (l p List.mem_cons_self) hpq.2) i1, ?_⟩
    rw [List.map_cons, List.map_cons, i2, hpq.1]
mutual
theorem Dq.reads (I : Inv X pins σ H s) : ∀ {v : V} {d : PyData} {u : Value}, Dq H v d → RelV v u → ∃ as, Reads s.heap u d as ∧ sysModules ∉ as
  | _, _, _, .non, r => by cases r; exact ⟨_, .none, nofun⟩
  | _, _, _, .bl b, r => by cases r; exact ⟨_, .bool b, nofun⟩
  | _, _, _, .int i, r => by obtain ⟨t, rfl⟩ := r; exact ⟨_, .int i t, nofun⟩
  | _, _, _, .str x, r => by obtain ⟨t, rfl⟩ := r; exact ⟨_, .str x t, nofun⟩
  | _, _, _, .lst h n a, r => by
    cases r
    obtain ⟨its, rv, ⟨o, m, ho, hc, _, hd⟩, _⟩ := I.list (SqL.of h)
    obtain ⟨as, hr, hn⟩ := DqAll.reads I a rv
    exact ⟨_, Reads.list ho hc hd hr, fun z => by rcases List.mem_cons.mp z with e | e; exact n e; exact hn e⟩
  | _, _, _, .tup h a, r => by
    cases r
    obtain ⟨its, rv, ⟨o, ho, hc, m, hd⟩, _⟩ := I.tuple (SqT.of h)
    obtain ⟨as, hr, hn⟩ := DqAll.reads I a rv
    exact ⟨_, Reads.tuple ho hc hd hr, hn⟩
  | _, _, _, .dct (a := a) (kvs := kvs) h l, r => by
    cases r
    obtain ⟨_, hs, vs, rv, o, es, ep, h1, h2, h3, _, h5, _⟩ := (show ObjOk X.prog X.w H s.heap a (.dK kvs) from I.hok a _ h)
    obtain ⟨k1, k2⟩ := reads_keys s.heap h5
    obtain ⟨v1, v2⟩ := reads_vals (h := s.heap) rv l
    refine ⟨_, Reads.dict (as := []) (bs := []) h1 h2.1 h3 ?_ ?_, ?_⟩
    · rw [List.map_map]
      rw [v2] at k1
      exact k1
    · rw [k2, List.map_map]
      exact v1
    · intro z
      simp at z
      rw [← z] at hs
      simp at hs
theorem DqAll.reads (I : Inv X pins σ H s) : ∀ {v : List V} {d : List PyData} {u : List Value}, DqAll H v d → Vals v u → ∃ as, ReadsAll s.heap u d as ∧ sysModules ∉ as
  | _, _, _, .nil, r => by cases r; exact ⟨_, .nil, nofun⟩
  | _, _, _, .cons a b, r => by
    cases r with
    | cons r1 r2 =>
      obtain ⟨as, q1, n1⟩ := Dq.reads I a r1
      obtain ⟨bs, q2, n2⟩ := DqAll.reads I b r2
      exact ⟨_, .cons q1 q2, fun z => by rcases List.mem_append.mp z with e | e; exact n1 e; exact n2 e⟩
end
end
section
variable {X : Cx}
/-- a list display, new, not sys.modules -/
def tLstN (t : TA) : TE := fun σ H Q => t σ H fun xs H1 => xs.length ≤ sizeLine ∧ ∀ l, H1 l = none → sysModules ≠ l → Q (.ref l) (upd H1 l (.lst xs))
theorem pe_lstN {es : List Expr} {t : TA} {pos : Pos} (h : PA X es t) : PE X (.List es pos) (tLstN t) := by
  refine ⟨fun pins s σ H Q I hq => ?_⟩
  refine wpAny_List_spliced (thn (h.run pos pins s σ H _ I hq) fun us s1 hh => ?_)
  obtain ⟨xs, H1, I1, r, z, q⟩ := hh
  refine ⟨by rw [← r.length]; exact z, .ref s1.heap.objs.size, upd H1 s1.heap.objs.size (.lst xs), I1.laid (t' := s1.toks) (fun b u e => Heap.get?_push_of_some _ e) (Nat.le_refl _) ⟨z, us, 0, r, Heap.get?_push_size _ rfl⟩, rfl, ?_⟩
  exact q _ (I1.hok.fresh (Nat.le_refl _)) (Nat.ne_of_lt I1.big)
/-- repr(x), x a list or a tuple or a dict -/
def rShow (xs : List V) (H : Hp) (Q : VK) : Prop := ∃ (a : Addr) (d : PyData), xs = [.ref a] ∧ Dq H (.ref a) d ∧ d.showable = true ∧ d.depth ≤ 20 ∧ d.shown.length ≤ sizeLine ∧ Q (.str d.shown) H
theorem call_repD (hr : Room 1 X.A) (hg : X.A.guards = some []) : CallR X (.builtin "repr") rShow := by
  intro pins s σ H xs us Q I r h
  obtain ⟨a, d, rfl, hd, hs, hdp, hz, q⟩ := h
  obtain ⟨u, rfl, ru⟩ := vals1 r
  obtain ⟨as, hr1, hn⟩ := Dq.reads I hd ru
  cases ru
  refine repr_of_reads' hr1 hs (fun _ => hn) hg ?_ (fun _ _ e => e) (fun h' u tk k => ?_) hz
  · have := hr.un
    omega
  · exact ⟨.str d.shown, H, I.kept (t' := tk) k, ⟨_, rfl⟩, q⟩
end
end L2


namespace L2
open PySem PySem.Spec PyProof.Rows PySem.KX
/-! raise C(x), C an own class whose __init__ keeps what it is given -/
section
variable {X : Cx} {pins : List (Addr × Obj)} {σ : St} {H : Hp} {c : Addr} {f : Str}
theorem flown {hp h' : Heap} {g0 : Array GenState} {dr : Drawn} {t0 t' : Nat} {os : OsState} {d0 t1 : Addr} {m : Str → Option Value} {fs : List (Str × V)} {Q : XK} (I : Inv X pins σ H ⟨hp, g0, dr, t0, os⟩) {w1 w2 : Obj} (T : Raises X (.ref c))
    (M : Filled ((hp.push w1).push w2) h' (hp.objs.size + 1) c d0 t1 m) (rel : ∀ f, RelO (fs.lookup f) (m f)) (h : ∀ d, H d = none → Q (.ref c) (some d) (upd H d (.xd fs))) :
    MkP X pins σ Q (.ref (hp.objs.size + 1)) ⟨h', g0, dr, t', os⟩ := by
  have was : ∀ b o, hp.get? b = some o → h'.get? b = some o := fun b o e => M.old b o (Nat.ne_of_lt (Nat.lt_succ_of_lt (Heap.lt_size e))) (Heap.get?_push_of_some _ (Heap.get?_push_of_some _ e))
  have big : hp.objs.size ≤ d0 := by
    have z := M.big
    simp only [Heap.size_push] at z
    omega
  have nE : H (hp.objs.size + 1) = none := I.hok.fresh (Nat.le_succ _)
  obtain ⟨G, g1, g2⟩ := restrict h' fun b => decide (b ≠ hp.objs.size + 1)
  have gE : G.get? (hp.objs.size + 1) = none := g2 _ (by simp)
  have gN : ∀ b, b ≠ hp.objs.size + 1 → G.get? b = h'.get? b := fun b hb => g1 b (decide_eq_true hb)
  have J : Inv X pins σ (upd H d0 (.xd fs)) ⟨G, g0, dr, t', os⟩ := I.laid (t' := t') (fun b o q => (gN b (Nat.ne_of_lt (Nat.lt_succ_of_lt (Heap.lt_size q)))).trans (was b o q)) big ⟨m, M.ns.at fun o q => (gN d0 M.ne).trans q, rel⟩
  refine ⟨_, _, _, ⟨G, g0, dr, t', os⟩, _, .ref c, some d0, rfl, J, fun b o q => ?_, gE, M.obj, ⟨rfl, rfl⟩, rfl, rfl, ?_, rfl, J.bare, T, h d0 (I.hok.fresh big)⟩
  · by_cases hb : b = hp.objs.size + 1
    · have q' : G.get? b = some o := q
      rw [hb, gE] at q'
      cases q'
    · exact (gN b hb).symm.trans q
  · rw [upd_ne M.ne.symm]
    exact nE
/-- what raise C(..) asks of C -/
structure ClR (K : PySem.W.Frag) (c : Addr) : Prop where
  sub : PySem.W.subIn K (.ref c) (.type "BaseException") = some true
  typ : PySem.W.typeIn K (.ref c) = some (.type "type")
variable {x : Str} {e : Expr} {ta : TA} {p pos : Pos}
theorem pmk_x1 (T : Cl1 X.K c f) (R : ClR X.K c) (hr : Room 1 X.A) (hm : X.mg x = some (.ref c)) (hg : Gl X x) (ha : PA X [e] ta) (hdb : (x == ("__debug__" : Str)) = false := by decide)
    (he : starEach (e :: []) X.env = (false, eval e X.env) :: starEach [] X.env := by rfl) (hpl : (backTo pos (starEach [] X.env)).any (·.1) = false := by rfl) :
    PMk X (.Call (.Name x p) [e] [] pos) (fun σ H Q => ta σ H fun vs H1 => ∃ y, vs = [y] ∧ ∀ d, H1 d = none → Q (.ref c) (some d) (upd H1 d (.xd [(f, y)]))) := by
  intro pins s σ H Q I h
  obtain ⟨fi, base, nid, iid, bt, qual, fd, a1, a2, q1, q2, q3, q4, O, F, b1, b2⟩ := T.ex
  refine wpAny_Call_Name_kw (ld_glob I hg hm ?_ hdb)
  refine PySem.W.callWith_K (h₀ := X.base) I.ok.mod.kin T.kp (thn (ha.run pos pins s σ H _ I h) fun us s1 hh => ?_) he hpl
  obtain ⟨vs, H1, I1, r1, y, rfl, q⟩ := hh
  obtain ⟨u, rfl, ru⟩ := vals1 r1
  refine ⟨I1.kIn, ?_⟩
  obtain ⟨nm, nsA, qn, bs, bm, hdct, sn, sub, ab, col, dd, k0, k1, k2, k3, k5, hC, same⟩ := PySem.W.excInit_of I1.kIn O.ini
  obtain ⟨hp, g0, dr, tk, os⟩ := s1
  have up : ∀ b o, hp.get? b = some o → ((hp.push (PySem.W.kdv_tup [u])).push (PySem.HandSPX.excO c hp.objs.size)).get? b = some o := fun b o e => Heap.get?_push_of_some _ (Heap.get?_push_of_some _ e)
  refine wpAny_call (class_called O.FB same hC (one_few u) (PySem.W.looks_findIn I1.kIn O.fI) (fun self => PySem.W.bind_fn I1.kIn self O.fT) ?_)
  refine init_one (s := ⟨(hp.push (PySem.W.kdv_tup [u])).push (PySem.HandSPX.excO c hp.objs.size), g0, dr, tk, os⟩) O T.fr F T.fs T.fdb (b1 _ _ _) (I1.kIn.keeps up) (I1.nolimit.keeps up) (by heap_get) (by show X.A.depth + 1 < recursionLimit; have := hr.dp; omega) fun h' tk' d0 M => ?_
  exact ⟨rfl, flown I1 (raises_own R.sub R.typ) M (fun q => relO_put (fs := []) (mA := fun _ => none) ru (fun _ => True.intro) q) q⟩
end
end L2


namespace L2
open PySem PySem.Spec PyProof.Rows PySem.KX
/-! repr of any data: lists, tuples, dicts -/
mutual
inductive Sd (K : PySem.W.Frag) (H : Hp) : V → PyData → Prop
  | non : Sd K H .non .none
  | bl (b : Bool) : Sd K H (.bl b) (.bool b)
  | int (i : Int) : Sd K H (.int i) (.int i)
  | str (x : Str) : Sd K H (.str x) (.str x)
  | lst {a : Addr} {xs : List V} {ds : List PyData} : SqL K H a xs → SdAll K H xs ds → Sd K H (.ref a) (.list ds)
  | tup {a : Addr} {xs : List V} {ds : List PyData} : SqT K H a xs → SdAll K H xs ds → Sd K H (.ref a) (.tuple ds)
  | dct {a : Addr} {kvs : List (Key × V)} {ds : List PyData} : H a = some (.dK kvs) → SdAll K H (kvs.map (·.2)) ds → Sd K H (.ref a) (.dict ((kvs.map fun p => keyD p.1).zip ds))
inductive SdAll (K : PySem.W.Frag) (H : Hp) : List V → List PyData → Prop
  | nil : SdAll K H [] []
  | cons {v : V} {vs : List V} {d : PyData} {ds : List PyData} : Sd K H v d → SdAll K H vs ds → SdAll K H (v :: vs) (d :: ds)
end
/-- sys.modules is a dict -/
def SysD (K : PySem.W.Frag) : Prop := ∃ o, K.lookup sysModules = some o ∧ o.cls = .type "dict"
theorem sds_len {K : PySem.W.Frag} {H : Hp} : ∀ {vs : List V} {ds : List PyData}, SdAll K H vs ds → vs.length = ds.length
  | _, _, .nil => rfl
  | _, _, .cons _ b => by rw [List.length_cons, List.length_cons, sds_len b]
theorem kv_split {kvs : List (Key × V)} {vs : List (Key × Value)} (r : KV kvs vs) : Vals (kvs.map (·.2)) (vs.map (·.2)) ∧ (vs.map fun p => keyD p.1) = kvs.map fun p => keyD p.1 := by
  unfold KV at r
  induction r with
  | nil => exact ⟨.nil, rfl⟩
  | @cons p q ps qs hpq t ih =>
    refine ⟨.cons hpq.2 ih.1, ?_⟩
    rw [List.map_cons, List.map_cons, ih.2, hpq.1]
section
variable {X : Cx} {pins : List (Addr × Obj)} {σ : St} {H : Hp} {s : Shared}
mutual
theorem Sd.reads (I : Inv X pins σ H s) (S : SysD X.K) : ∀ {v : V} {d : PyData} {u : Value}, Sd X.K H v d → RelV v u → ∃ as, Reads s.heap u d as ∧ sysModules ∉ as
  | _, _, _, .non, r => by cases r; exact ⟨_, .none, nofun⟩
  | _, _, _, .bl b, r => by cases r; exact ⟨_, .bool b, nofun⟩
  | _, _, _, .int i, r => by obtain ⟨t, rfl⟩ := r; exact ⟨_, .int i t, nofun⟩
  | _, _, _, .str x, r => by obtain ⟨t, rfl⟩ := r; exact ⟨_, .str x t, nofun⟩
  | _, _, _, .lst h a, r => by
    cases r
    obtain ⟨its, rv, ⟨o, m, ho, hc, _, hd⟩, _⟩ := I.list h
    obtain ⟨as, hr, hn⟩ := SdAll.reads I S a rv
    refine ⟨_, Reads.list ho hc hd hr, fun z => ?_⟩
    rcases List.mem_cons.mp z with e | e
    · obtain ⟨o2, e1, e2⟩ := S
      have e3 := I.kIn _ _ e1
      rw [e, ho] at e3
      cases e3
      rw [hc] at e2
      exact absurd e2 (by decide)
    · exact hn e
  | _, _, _, .tup h a, r => by
    cases r
    obtain ⟨its, rv, ⟨o, ho, hc, m, hd⟩, _⟩ := I.tuple h
    obtain ⟨as, hr, hn⟩ := SdAll.reads I S a rv
    exact ⟨_, Reads.tuple ho hc hd hr, hn⟩
  | _, _, _, .dct (a := a) (kvs := kvs) (ds := ds) h l, r => by
    cases r
    obtain ⟨_, hs, vs, rv, o, es, ep, h1, h2, h3, _, h5, _⟩ := (show ObjOk X.prog X.w H s.heap a (.dK kvs) from I.hok a _ h)
    obtain ⟨k1, k2⟩ := reads_keys s.heap h5
    obtain ⟨v1, v2⟩ := kv_split rv
    obtain ⟨as, hr, hn⟩ := SdAll.reads I S l v1
    have hl := sds_len l
    rw [List.length_map] at hl
    refine ⟨_, Reads.dict (as := []) (bs := as) h1 h2.1 h3 ?_ ?_, ?_⟩
    · rw [List.map_fst_zip (by rw [List.length_map]; omega)]
      rw [v2] at k1
      exact k1
    · rw [List.map_snd_zip (by rw [List.length_map]; omega), k2]
      exact hr
    · intro z
      rcases List.mem_append.mp z with z | z
      · simp at z
        rw [← z] at hs
        simp at hs
      · exact hn z
theorem SdAll.reads (I : Inv X pins σ H s) (S : SysD X.K) : ∀ {v : List V} {d : List PyData} {u : List Value}, SdAll X.K H v d → Vals v u → ∃ as, ReadsAll s.heap u d as ∧ sysModules ∉ as
  | _, _, _, .nil, r => by cases r; exact ⟨_, .nil, nofun⟩
  | _, _, _, .cons a b, r => by
    cases r with
    | cons r1 r2 =>
      obtain ⟨as, q1, n1⟩ := Sd.reads I S a r1
      obtain ⟨bs, q2, n2⟩ := SdAll.reads I S b r2
      exact ⟨_, .cons q1 q2, fun z => by rcases List.mem_append.mp z with e | e; exact n1 e; exact n2 e⟩
end
end
/-- v shows as d -/
def Shw (K : PySem.W.Frag) (H : Hp) (v : V) (d : PyData) : Prop := Sd K H v d ∧ d.showable = true ∧ d.depth ≤ 150 ∧ d.shown.length ≤ sizeLine
theorem seqT_same {K : PySem.W.Frag} {H H' : Hp} {a : Addr} {xs : List V} (e : Same H H') (h : SqT K H a xs) : SqT K H' a xs := by
  rcases h with (h | ⟨o, h⟩) | h
  · exact .inl (.inl (e _ _ h))
  · exact .inl (.inr ⟨o, e _ _ h⟩)
  · exact .inr h
mutual
theorem sdM {K : PySem.W.Frag} {H H' : Hp} (s : Same H H') : ∀ {v : V} {d : PyData}, Sd K H v d → Sd K H' v d
  | _, _, .non => .non
  | _, _, .bl b => .bl b
  | _, _, .int i => .int i
  | _, _, .str x => .str x
  | _, _, .lst h a => .lst (s.seq h) (sdAllM s a)
  | _, _, .tup h a => .tup (seqT_same s h) (sdAllM s a)
  | _, _, .dct h a => .dct (s _ _ h) (sdAllM s a)
theorem sdAllM {K : PySem.W.Frag} {H H' : Hp} (s : Same H H') : ∀ {v : List V} {d : List PyData}, SdAll K H v d → SdAll K H' v d
  | _, _, .nil => .nil
  | _, _, .cons a b => .cons (sdM s a) (sdAllM s b)
end
section
variable {X : Cx}
def rRepA (K : PySem.W.Frag) (xs : List V) (H : Hp) (Q : VK) : Prop := ∃ (v : V) (d : PyData), xs = [v] ∧ Shw K H v d ∧ Q (.str d.shown) H
theorem call_rep (S : SysD X.K) (hu : X.A.units + 200 < cLine) (hg : X.A.guards = some []) : CallR X (.builtin "repr") (rRepA X.K) := by
  intro pins s σ H xs us Q I r h
  obtain ⟨v, d, rfl, ⟨hd, hs, hdp, hz⟩, q⟩ := h
  obtain ⟨u, rfl, ru⟩ := vals1 r
  obtain ⟨as, hr, n⟩ := Sd.reads I S hd ru
  have hn : d.hasDict = true → sysModules ∉ as := fun _ => n
  cases hr with
  | none => exact PySem.P.repr_of_none ⟨.str _, H, I.tok _, ⟨_, rfl⟩, q⟩
  | bool b => exact PySem.P.repr_of_bool ⟨.str _, H, I.tok _, ⟨_, rfl⟩, q⟩
  | int i t => exact PySem.P.repr_of_int (of_decide_eq_true hs) ⟨.str _, H, I.tok _, ⟨_, rfl⟩, q⟩
  | str x t => exact PySem.P.repr_of_str ⟨.str _, H, I.tok _, ⟨_, rfl⟩, q⟩ hz
  | list h1 h2 h3 h4 => exact repr_of_reads' (.list h1 h2 h3 h4) hs hn hg (by omega) (fun _ _ e => e) (fun h' u tk k => ⟨.str _, H, I.kept (t' := tk) k, ⟨_, rfl⟩, q⟩) hz
  | tuple h1 h2 h3 h4 => exact repr_of_reads' (.tuple h1 h2 h3 h4) hs hn hg (by omega) (fun _ _ e => e) (fun h' u tk k => ⟨.str _, H, I.kept (t' := tk) k, ⟨_, rfl⟩, q⟩) hz
  | dict h1 h2 h3 h4 h5 => exact repr_of_reads' (.dict h1 h2 h3 h4 h5) hs hn hg (by omega) (fun _ _ e => e) (fun h' u tk k => ⟨.str _, H, I.kept (t' := tk) k, ⟨_, rfl⟩, q⟩) hz
/-- isinstance(e, c), e what the suite holds, with its fields -/
def rIsS (K : PySem.W.Frag) (a : Addr) (cls : Value) (d : Option Addr) : List V → Hp → VK → Prop := fun xs H Q => ∃ (C dd : Addr) (fs : List (Str × V)) (c : V) (cv : Value) (b : Bool), xs = [.ref a, c] ∧ cls = .ref C ∧ d = some dd ∧ H dd = some (.xd fs) ∧ ClG K C ∧ ClsV c cv ∧ PySem.W.kitOne K (.ref C) cv = some b ∧ Q (.bl b) H
theorem call_isS {a : Addr} {oe : Obj} {cls : Value} {d : Option Addr} {pn : List (Addr × Obj)} (hz : Zc cls d oe) (hf : ∃ vs, oe.data = .fields vs) : CallR (X.suite a ((a, oe) :: pn)) (.builtin "isinstance") (rIsS X.K a cls d) := by
  intro pins s σ H xs us Q I r h
  obtain ⟨C, dd, fs, c, cv, b, rfl, rfl, rfl, ed, T, ku, e, q⟩ := h
  obtain ⟨u1, u2, rfl, r1, r2⟩ := vals2 r
  have e2 := ku.eq r2
  subst e2
  obtain rfl : u1 = Value.ref a := r1
  obtain ⟨ha, _⟩ := I.pin (a, oe) (List.mem_append_left _ List.mem_cons_self)
  obtain ⟨vs, hd⟩ := hf
  have hx : ObjOk X.prog X.w H s.heap dd (.xd fs) := I.hok dd _ ed
  obtain ⟨mA, hns, hr⟩ := hx
  obtain ⟨od, ho, hl⟩ := lookIn_ns hns
  have J : PySem.W.InstAt s.heap a oe C (some od) := ⟨ha, hz.1, by unfold PySem.W.notCls; rw [hd] <;> rfl, by rw [hz.2]; exact ho⟩
  exact PySem.W.kia_one (PySem.W.kitx_exc (by obtain ⟨cd, hc, _⟩ := PySem.W.any_some T.dct; rw [hc]; rfl) T.ga T.gg T.exc T.cA T.cN T.cT T.cM) I.kIn J e (fun z => nomatch z) fun tk => ⟨.bl b, H, I.tok tk, rfl, q⟩
end
end L2


namespace Toy
open PySem PySem.Spec L2 PyProof.Rows PySem.W
/-! ### the program's rows of codes -/
def rowsL : List (Str × List Str) := [("field", ["key"]), ("item", ["index"]), ("every", []), ("fork", ["number"]), ("jump", ["number"]), ("test", ["test", "number"]), ("shield", ["number"]), ("guard", ["number"]), ("open", []), ("give", []), ("none", []), ("fail", [])]
def endsL : List Str := ["give", "none", "fail"]
def rowF (w : Str) : Option (List Str) := rowsL.lookup w
theorem rows_len : ∀ p ∈ rowsL, p.2.length ≤ 4 := by decide +kernel
abbrev sFc : Stmt := top 46
abbrev sIr : Stmt := top 45
abbrev NFc : List Str := ["value", "told", "index", "many"]
abbrev NIr : List Str := ["value", "index", "many", "fields", "told", "field"]
theorem scFc : FnScope NFc ["value", "told", "index", "many"] (defScope sFc) := ⟨rfl, rfl, rfl, by decide +kernel, rfl, by decide +kernel, by decide +kernel⟩
theorem scIr : FnScope NIr ["value", "index", "many"] (defScope sIr) := ⟨rfl, rfl, rfl, by decide +kernel, rfl, by decide +kernel, by decide +kernel⟩
/-- whether a value is a test -/
def tstD (t : Dt) : Bool := fine [(dep t + 1, "test", t, 1)] 1
def fldC (k : Str) (i n : Nat) (f : Dt) : Bool := if k = "key" then wordD f else if k = "index" then wholeD f else if k = "test" then tstD f else match f with
  | .int j => decide ((i : Int) < j) && decide (j < (n : Int))
  | _ => false
def isRow (t : Dt) (i n : Nat) : Bool := match t with
  | .tup (.str x :: fs) => (match rowF x with
    | some ks => decide (fs.length = ks.length) && (List.range fs.length).all fun j => fldC (ks.getD j Str.empty) i n (fs.getD j .non)
    | none => false)
  | _ => false
/-- small enough to be asked -/
def okF (t : Dt) : Prop := okd 300 t = true ∧ spo (dep t + 1) t ≤ 10000000
def okR (t : Dt) : Prop := okd 300 t = true ∧ ∀ fs, t = .tup fs → ∀ f ∈ fs, okF f
def spFc (K : PySem.W.Frag) : Sp := fun vs H Q _ => ∃ (v : V) (k : Str) (i n : Nat) (t : Dt), vs = [v, .str k, .int (i : Int), .int (n : Int)] ∧ Dv K H v t ∧ okF t ∧ ∀ H', Same H H' → Q (.bl (fldC k i n t)) H'
def spIr (K : PySem.W.Frag) : Sp := fun vs H Q _ => ∃ (v : V) (i n : Nat) (t : Dt), vs = [v, .int (i : Int), .int (n : Int)] ∧ Dv K H v t ∧ okR t ∧ ∀ H', Same H H' → Q (.bl (isRow t i n)) H'
def RowsK (K : PySem.W.Frag) (w : World) (d : Addr) : Prop := ∀ p ∈ rowsL, ∃ a, KDct K w d p.1 (.ref a) ∧ ∀ H, SqT K H a (p.2.map V.str)
section
variable {P : Program} {w : World} {K : PySem.W.Frag} {mg : Str → Option Value} {base : Heap}
theorem ok_fc {f fN fI fJ fT : Addr} {fd fdN fdI fdJ fdT : FuncData} (F : Fun K "_is_field" "_is_field" sFc f fd)
    (GN : FnOk P w K mg base CX0 1 fN fdN ["value"] (spM K wordD)) (mN : mg "is_name" = some (.ref fN)) (kN : PySem.W.keepIn K (.ref fN) = true) (bN : Binds K fdN ["value"] [])
    (GI : FnOk P w K mg base CX0 2 fI fdI ["value"] (spM K wholeD)) (mIn : mg "is_index" = some (.ref fI)) (kI : PySem.W.keepIn K (.ref fI) = true) (bI : Binds K fdI ["value"] [])
    (GJ : FnOk P w K mg base CX0 1 fJ fdJ ["value"] (spM K intD)) (mJ : mg "is_integer" = some (.ref fJ)) (kJ : PySem.W.keepIn K (.ref fJ) = true) (bJ : Binds K fdJ ["value"] [])
    (GT : FnOk P w K mg base CX0 6 fT fdT ["value"] (spIK K "test")) (mT : mg "is_test" = some (.ref fT)) (kT : PySem.W.keepIn K (.ref fT) = true) (bT : Binds K fdT ["value"] []) :
    FnOk P w K mg base CX0 7 f fd ["value", "told", "index", "many"] (spFc K) := by
  refine F.ok (k := 6) scFc (fun vs H Q E h => ?_) (fun cdv A outer s H vs Q E hr h => ?_)
  · obtain ⟨v, k, i, n, t, rfl, _⟩ := h
    rfl
  · obtain ⟨v, k, i, n, t, rfl, hv, hok, q⟩ := h
    have hr1 := hr.mono (show 1 ≤ 6 by decide)
    have hr2 := hr.mono (show 2 ≤ 6 by decide)
    refine ⟨_, pss_cons (ps_if (pt_cmpR op_eq (pv 1) pe_str (nomark _)) (pss_one (ps_ret (pe_call GN hr1 (by rfl) mN kN bN .nil pass0 (pa_cons (pv 0) pa_nil)))) pss_nil)
      (pss_cons (ps_if (pt_cmpR op_eq (pv 1) pe_str (nomark _)) (pss_one (ps_ret (pe_call GI hr2 (by rfl) mIn kI bI .nil pass0 (pa_cons (pv 0) pa_nil)))) pss_nil)
      (pss_cons (ps_if (pt_cmpR op_eq (pv 1) pe_str (nomark _)) (pss_one (ps_ret (pe_call GT hr (by rfl) mT kT bT .nil pass0 (pa_cons (pv 0) pa_nil)))) pss_nil)
      (pss_one (ps_ret (pe_and (pe_call GJ hr1 (by rfl) mJ kJ bJ .nil pass0 (pa_cons (pv 0) pa_nil)) (pe_one (pe_chain op_lt op_lt (pv 2) (pv 0) (pv 3)))))))), ?_⟩
    unfold fldC at q
    refine ⟨_, rfl, rfl, _, rfl, ?_⟩
    rw [dec_s]
    refine ite2 (fun c => ?_) (fun c => ?_)
    · rw [if_pos (of_decide_eq_true c)] at q
      exact ⟨_, rfl, v, t, rfl, hv, hok.1, fun H1 s1 => q H1 s1⟩
    rw [if_neg (fun e => c (decide_eq_true e))] at q
    refine ⟨_, rfl, rfl, _, rfl, ?_⟩
    rw [dec_s]
    refine ite2 (fun c => ?_) (fun c => ?_)
    · rw [if_pos (of_decide_eq_true c)] at q
      exact ⟨_, rfl, v, t, rfl, hv, hok.1, fun H1 s1 => q H1 s1⟩
    rw [if_neg (fun e => c (decide_eq_true e))] at q
    refine ⟨_, rfl, rfl, _, rfl, ?_⟩
    rw [dec_s]
    refine ite2 (fun c => ?_) (fun c => ?_)
    · rw [if_pos (of_decide_eq_true c)] at q
      exact ⟨_, rfl, v, dep t + 1, t, rfl, hv, hok.1, Nat.lt_succ_self _, hok.2, fun H1 s1 => q H1 s1⟩
    rw [if_neg (fun e => c (decide_eq_true e))] at q
    refine ⟨_, rfl, v, t, rfl, hv, hok.1, fun H1 s1 => ⟨_, rfl, ?_⟩⟩
    cases hv with
    | int j =>
      refine iteT ⟨_, rfl, _, rfl, _, _, rfl, rfl, _, rfl, ?_⟩
      dsimp only at q
      refine ite2 (fun c5 => ?_) (fun c5 => ?_)
      · rw [c5, Bool.true_and] at q
        exact ⟨_, rfl, _, _, rfl, rfl, q H1 s1⟩
      · have c5 : decide ((i : Int) < j) = false := by simpa using c5
        rw [c5, Bool.false_and] at q
        exact q H1 s1
    | non => exact iteF (q H1 s1)
    | bl b => exact iteF (q H1 s1)
    | str x => exact iteF (q H1 s1)
    | tup _ _ => exact iteF (q H1 s1)
    | lst _ => exact iteF (q H1 s1)
    | dct _ => exact iteF (q H1 s1)
theorem ok_ir {f aF fF : Addr} {fd fdF : FuncData} (F : Fun K "_is_row" "_is_row" sIr f fd) (mRo : mg "ROWS" = some (.ref aF)) (RD : ∃ es n, KDict K w aF es n) (RK : RowsK K w aF) (RN : ∀ x, rowF x = none → PySem.W.nsIn K aF x = some none)
    (GF : FnOk P w K mg base CX0 7 fF fdF ["value", "told", "index", "many"] (spFc K)) (mF : mg "is_field_code" = some (.ref fF)) (kF : PySem.W.keepIn K (.ref fF) = true) (bF : Binds K fdF ["value", "told", "index", "many"] [])
    (mI : mg "isinstance" = none) (mTu : mg "tuple" = none) (mS : mg "str" = none) (mLen : mg "len" = none) (mA : mg "all" = none) (mZip : mg "zip" = none) : FnOk P w K mg base CX0 8 f fd ["value", "index", "many"] (spIr K) := by
  obtain ⟨es, nn, RD⟩ := RD
  refine F.ok (k := 7) scIr (fun vs H Q E h => ?_) (fun cdv A outer s H vs Q E hr h => ?_)
  · obtain ⟨v, i, n, t, rfl, _⟩ := h
    rfl
  · obtain ⟨v, i, n, t, rfl, hv, hok, q⟩ := h
    refine ⟨_, pss_cons (ps_if (PW.pt (pw_or (pt_not (pt_val (pe_callB call_isi (by rfl) mI PyProof.Rows.boot_isinstance (pa_cons (pv 0) (pa_cons (pe_bltn (v := .ty "tuple") (by rfl) mTu (by decide +kernel) rfl) pa_nil)))))
          (pw_or (pt_not (pt_truth (pv 0) (by intro _; rfl))) (pw_or (pt_not (pt_val (pe_callB call_isi (by rfl) mI PyProof.Rows.boot_isinstance (pa_cons (pe_ix ix_tup (pv 0) pe_int (fun _ _ => rfl)) (pa_cons (pe_bltn (v := .ty "str") (by rfl) mS (by decide +kernel) rfl) pa_nil)))))
          (pw_or1 (pt_cmpR (op_notIn_kd RD) (pe_ix ix_tup (pv 0) pe_int (fun _ _ => rfl)) (pe_glob (v := .ref aF) (by rfl) mRo rfl) (by rfl))))))) (pss_one (ps_ret pe_bl)) pss_nil)
      (pss_cons (ps_set (i := 3) scIr.nd rfl (Or.inl rfl) (pe_ix ix_kdict (pe_glob (v := .ref aF) (by rfl) mRo rfl) (pe_ix ix_tup (pv 0) pe_int (fun _ _ => rfl)) (fun _ _ => rfl)))
      (pss_cons (ps_if (pt_cmpR op_ne (pe_callB call_len_seq (by rfl) mLen PySem.boot_len (pa_cons (pv 0) pa_nil)) (pe_op op_add (pe_callB call_len_seq (by rfl) mLen PySem.boot_len (pa_cons (pv 3) pa_nil)) pe_int) (nomark _)) (pss_one (ps_ret pe_bl)) pss_nil)
      (pss_one (ps_ret (pe_callB (cr_all rfl) (by rfl) mA (by decide +kernel) (pa_cons (pe_lc (own := [("told", 4), ("field", 5)]) (g := gTup K 2 (gCons (gName 4) (gCons (gName 5) gNil))) (te := tCall (spFc K) [] E0 (tCons (tVar 5) (tCons (tVar 4) (tCons (tVar 1) (tCons (tVar 2) tNil))))) (by rfl) scIr.nd (RZ.pi_zipA (by rfl) mZip (pa_cons (pv 3) (pa_cons (pe_slice sl_tup (pv 0) (po_some pe_int) po_none) pa_nil)))
            (blkOk_by (own := [("told", 4), ("field", 5)]) (N := NIr) (sc := defScope sIr) (by decide +kernel)) (fun _ _ _ _ _ => by exact (pg_tup rfl (pgs_cons (by exact (pg_name (i := 4) scIr.nd rfl (Or.inl rfl))) (pgs_cons (by exact (pg_name (i := 5) scIr.nd rfl (Or.inl rfl))) pgs_nil)))) (fun _ _ _ _ _ => pts_nil)
            (fun _ _ _ _ _ => pe_call GF hr (by rfl) mF kF bF .nil pass0 (pa_cons (pv 5) (pa_cons (pv 4) (pa_cons (pv 1) (pa_cons (pv 2) pa_nil)))))) pa_nil)))))), ?_⟩
    refine ⟨_, rfl, isT hv ⟨_, rfl, ?_⟩⟩
    cases hv with
    | non => exact iteT (iteT (q H same_id))
    | bl b => exact iteT (iteT (q H same_id))
    | int i => exact iteT (iteT (q H same_id))
    | str x => exact iteT (iteT (q H same_id))
    | lst _ => exact iteT (iteT (q H same_id))
    | dct _ => exact iteT (iteT (q H same_id))
    | @tup av xs l hseq hall =>
      refine iteF ⟨_, rfl, _, .inr (.inl ⟨_, hseq, rfl⟩), ?_⟩
      cases hall with
      | nil => exact iteT (iteT (q H same_id))
      | @cons u d vs fs hd hvs =>
        refine iteF ⟨_, rfl, av, _, 0, u, rfl, rfl, hseq, at_0 _ _, isS hd ⟨_, rfl, ?_⟩⟩
        cases hd with
        | non => exact iteT (iteT (q H same_id))
        | bl b => exact iteT (iteT (q H same_id))
        | int i => exact iteT (iteT (q H same_id))
        | tup _ _ => exact iteT (iteT (q H same_id))
        | lst _ => exact iteT (iteT (q H same_id))
        | dct _ => exact iteT (iteT (q H same_id))
        | str wd =>
          have hvl := dvl_len hvs
          have hokf := hok.2 _ rfl
          have hok1 := hok.1
          simp only [okd, okdL, List.length_cons, Bool.and_eq_true, decide_eq_true_eq] at hok1
          have eF : isRow (.tup (.str wd :: fs)) i n = (match rowF wd with
            | some ks => decide (fs.length = ks.length) && (List.range fs.length).all fun j => fldC (ks.getD j Str.empty) i n (fs.getD j .non)
            | none => false) := rfl
          rw [eF] at q
          refine iteF ⟨_, rfl, av, _, 0, _, rfl, rfl, hseq, at_0 _ _, wd, ?_⟩
          cases hk : rowF wd with
          | none =>
            rw [hk] at q
            exact ⟨_, rfl, rfl, RN wd hk, _, rfl, iteT (q H same_id)⟩
          | some ks =>
            rw [hk] at q
            dsimp only at q
            have k4 : ks.length ≤ 4 := rows_len _ (lookup_mem hk)
            obtain ⟨aK, hK1, hK2⟩ := RK _ (lookup_mem hk)
            obtain ⟨es2, n2, u2, e1, e2, e3, e4⟩ := hK1
            refine ⟨_, rfl, rfl, e3, _, rfl, iteF (nx_run ?_)⟩
            dsimp only
            refine asg_run ?_
            refine ⟨_, rfl, av, _, 0, _, rfl, rfl, hseq, at_0 _ _, aF, wd, _, rfl, rfl, ⟨es2, n2, u2, e1, e2, e3, e4⟩, ?_⟩
            refine ⟨_, rfl, av, _, rfl, .inr hseq, _, rfl, aK, _, rfl, .inr (hK2 H), _, _, rfl, rfl, rfl, _, rfl, ?_⟩
            by_cases hl : fs.length = ks.length
            · rw [decide_eq_true hl, Bool.true_and] at q
              rw [decide_eq_true (show V.int ((V.str wd :: vs).length : Nat) = V.int (((ks.map V.str).length : Nat) + (1 : Int)) by
                congr 1
                rw [List.length_cons, List.length_map]
                omega)]
              refine iteF ?_
              refine nx_run ?_
              dsimp only
              refine ret_run ?_
              refine ⟨_, rfl, _, rfl, 1, rfl, av, _, rfl, hseq, cut_1w _ _, fun B nB => ?_⟩
              rw [cut_1]
              have sB := same_new (u := .tup vs) (same_id (H := H)) nB
              have hB : (upd H B (.tup vs)) B = some (.tup vs) := upd_same
              generalize upd H B (.tup vs) = H2 at sB hB ⊢
              refine ⟨aK, B, ks.map V.str, vs, rfl, .inr ⟨hK2 H2, SqT.of hB, fun D nD => ?_⟩⟩
              refine ⟨fun j m H' => m + j = ks.length ∧ Same H2 H' ∧ H' D = some (.lst ((List.range j).map fun j => V.bl (fldC (ks.getD j Str.empty) i n (fs.getD j .non)))), ⟨ks.length, rfl, same_new same_id nD, upd_same⟩, fun j m H' hW => ?_⟩
              obtain ⟨em, s2, hD⟩ := hW
              have hBB := SqT.of (K := K) (s2 _ _ hB)
              have hlk : (ks.map V.str).length = ks.length := List.length_map ..
              by_cases hi : j < ks.length
              · have m1 : (ks.map V.str)[j]? = some (.str ks[j]) := by rw [List.getElem?_map, List.getElem?_eq_getElem hi]; rfl
                obtain ⟨y0, m2⟩ : ∃ y0, vs[j]? = some y0 := ⟨vs[j]'(by omega), List.getElem?_eq_getElem (by omega)⟩
                obtain ⟨f0, hf0, hyf⟩ := dvl_get hvs m2
                have e1 : ks.getD j Str.empty = ks[j] := by rw [List.getD_eq_getElem?_getD, List.getElem?_eq_getElem hi]; rfl
                have e2 : fs.getD j .non = f0 := by rw [List.getD_eq_getElem?_getD, hf0]; rfl
                refine .inr ⟨⟨_, _, _, _, hK2 H', hBB, m1, m2⟩, fun H3 => Same H2 H3 ∧ H3 D = some (.lst ((List.range (j + 1)).map fun j => V.bl (fldC (ks.getD j Str.empty) i n (fs.getD j .non)))), fun H3 hN => ⟨m - 1, by omega, by omega, hN.1, hN.2⟩, fun v H3 hy => ?_⟩
                obtain ⟨T1, x1, x2, rfl, nT, rfl, f1, f2⟩ := hy
                obtain rfl : x1 = .str ks[j] := Option.some.inj ((f1 _ (hK2 H')).symm.trans m1)
                obtain rfl : x2 = y0 := Option.some.inj ((f2 _ hBB).symm.trans m2)
                have nDT : D ≠ T1 := ne_of_none hD nT
                have sT : Same H2 (upd H' T1 (.tup [.str ks[j], x2])) := same_new s2 nT
                refine ⟨T1, _, rfl, SqT.of upd_same, rfl, _, _, rfl, _, _, rfl, rfl, rfl, _, rfl, _, rfl, _, rfl, _, rfl, x2, ks[j], i, n, f0, rfl, dvM (sB.trans sT) hyf, hokf f0 (List.mem_cons_of_mem _ (List.mem_of_getElem? hf0)), fun H5 s5 => ?_⟩
                refine ⟨_, s5 _ _ ((upd_ne nDT).trans hD), small1000 (by rw [List.length_map, List.length_range]; omega), same_put (sT.trans s5) nD, ?_⟩
                rw [upd_same, List.range_succ, List.map_append, ← e1, ← e2]
                rfl
              · have hik : j = ks.length := by omega
                subst hik
                refine .inl ⟨⟨_, _, hK2 H', hBB, .inl (by show (ks.map V.str).length ≤ ks.length; omega)⟩, D, (List.range ks.length).map fun j => fldC (ks.getD j Str.empty) i n (fs.getD j .non), rfl, SqL.of (by rw [hD, List.map_map]; rfl), ?_⟩
                rw [all_map_id, ← hl]
                exact q H' (sB.trans s2)
            · rw [decide_eq_false hl, Bool.false_and] at q
              rw [decide_eq_false (show ¬ V.int ((V.str wd :: vs).length : Nat) = V.int (((ks.map V.str).length : Nat) + (1 : Int)) by
                intro z
                have z := V.int.inj z
                rw [List.length_cons, List.length_map] at z
                omega)]
              exact iteT (q H same_id)
end
end Toy


namespace Toy
open PySem PySem.Spec L2 PyProof.Rows PySem.W
/-! ### the first wrong row -/
def fwA (n : Nat) : Nat → List Dt → Option Nat
  | _, [] => none
  | i, t :: ts => if isRow t i n = true then fwA n (i + 1) ts else some i
def wordOf : Dt → Option Str
  | .tup (.str x :: _) => some x
  | _ => none
def lastE (ts : List Dt) : Bool := match ts.getLast? with
  | some t => (match wordOf t with
    | some x => decide (x ∈ endsL)
    | none => false)
  | none => false
def firstW (ts : List Dt) : Option Nat := match fwA ts.length 0 ts with
  | some i => some i
  | none => if lastE ts = true then none else some ts.length
def optI : Option Nat → V
  | none => .non
  | some i => .int (i : Int)
def RowsAt (K : PySem.W.Frag) (H : Hp) (a : Addr) (vs : List V) : Prop := H a = some (.lst vs) ∨ SqT K H a vs
theorem RowsAt.sq {K : PySem.W.Frag} {H : Hp} {a : Addr} {vs : List V} (h : RowsAt K H a vs) : SqL K H a vs ∨ SqT K H a vs := h.imp SqL.of id
theorem RowsAt.same {K : PySem.W.Frag} {H H' : Hp} {a : Addr} {vs : List V} (h : RowsAt K H a vs) (s : Same H H') : RowsAt K H' a vs := h.imp (s _ _) (same_seqT s)
def spFw (K : PySem.W.Frag) : Sp := fun vs H Q _ => ∃ (a : Addr) (us : List V) (ts : List Dt), vs = [.ref a] ∧ RowsAt K H a us ∧ DvL K H us ts ∧ (∀ t ∈ ts, okR t) ∧ ts.length ≤ 1000 ∧ ∀ H', Same H H' → Q (optI (firstW ts)) H'
abbrev sFw : Stmt := top 44
abbrev NFw : List Str := ["rows", "index", "row"]
theorem scFw : FnScope NFw ["rows"] (defScope sFw) := ⟨rfl, rfl, rfl, by decide +kernel, rfl, by decide +kernel, by decide +kernel⟩
/-- a walk of enumerate(a list or a tuple) -/
theorem for_enumLT {K : PySem.W.Frag} {a : Addr} {xs : List V} {g : TG} {tb : TS} {D : Ends} {σ : L2.St} {H : Hp} (Pv : Nat → L2.St → Hp → Prop) (h0 : Pv 0 σ H) (hq : RowsAt K H a xs) (hk : ∀ i σ H', i ≤ xs.length → Pv i σ H' → Same H H')
    (hstep : ∀ (i : Nat) (x : V) (σ : L2.St) (H' : Hp) (T : Addr), xs[i]? = some x → Pv i σ H' → H' T = none → g (.ref T) σ (upd H' T (.tup [.int (i : Nat), x])) fun σ2 H2 => tb { nx := Pv (i + 1), rt := D.rt, bk := D.nx, ct := Pv (i + 1) } σ2 H2)
    (hend : ∀ σ H', Pv xs.length σ H' → D.nx σ H') :
    ∃ b ys, [V.ref a] = [V.ref b] ∧ ((SqL K H b ys ∧ (fun (J : It) (H1 : Hp) => ∃ W : Nat → Nat → L2.St → Hp → Prop, (∃ m, W 0 m σ H1) ∧ ∀ (i m : Nat) (σ : L2.St) (H : Hp), W i m σ H → J.stop i H ∧ D.nx σ H ∨ J.go i H ∧ ∃ N : L2.St → Hp → Prop, (∀ σ' H', N σ' H' → ∃ m', m' < m ∧ W (i + 1) m' σ' H') ∧ ∀ (x : V) (H' : Hp), J.yld i H x H' → g x σ H' fun σ2 H2 => tb { nx := N, rt := D.rt, bk := D.nx, ct := N } σ2 H2) (Ite K b) H)
      ∨ (SqT K H b ys ∧ (fun (J : It) (H1 : Hp) => ∃ W : Nat → Nat → L2.St → Hp → Prop, (∃ m, W 0 m σ H1) ∧ ∀ (i m : Nat) (σ : L2.St) (H : Hp), W i m σ H → J.stop i H ∧ D.nx σ H ∨ J.go i H ∧ ∃ N : L2.St → Hp → Prop, (∀ σ' H', N σ' H' → ∃ m', m' < m ∧ W (i + 1) m' σ' H') ∧ ∀ (x : V) (H' : Hp), J.yld i H x H' → g x σ H' fun σ2 H2 => tb { nx := N, rt := D.rt, bk := D.nx, ct := N } σ2 H2) (IteT K b) H)) := by
  refine ⟨a, xs, rfl, ?_⟩
  rcases hq.sq with hq | hq
  · refine .inl ⟨hq, fun i m σ H' => m + i = xs.length ∧ Pv i σ H', ⟨xs.length, rfl, h0⟩, fun i m σ' H' hW => ?_⟩
    obtain ⟨em, hp⟩ := hW
    have hq' := (hk i σ' H' (by omega) hp).seq hq
    by_cases hi : i < xs.length
    · refine .inr ⟨⟨xs, xs[i], hq', List.getElem?_eq_getElem hi⟩, Pv (i + 1), fun σ2 H2 h2 => ⟨m - 1, by omega, by omega, h2⟩, fun v H2 hy => ?_⟩
      obtain ⟨T, x, rfl, nT, rfl, f1⟩ := hy
      exact hstep i x σ' H' T (f1 _ hq') hp nT
    · obtain rfl : i = xs.length := by omega
      exact .inl ⟨⟨xs, hq', Nat.le_refl _⟩, hend σ' H' hp⟩
  · refine .inr ⟨hq, fun i m σ H' => m + i = xs.length ∧ Pv i σ H', ⟨xs.length, rfl, h0⟩, fun i m σ' H' hW => ?_⟩
    obtain ⟨em, hp⟩ := hW
    have hq' := same_seqT (hk i σ' H' (by omega) hp) hq
    by_cases hi : i < xs.length
    · refine .inr ⟨⟨xs, xs[i], hq', List.getElem?_eq_getElem hi⟩, Pv (i + 1), fun σ2 H2 h2 => ⟨m - 1, by omega, by omega, h2⟩, fun v H2 hy => ?_⟩
      obtain ⟨T, x, rfl, nT, rfl, f1⟩ := hy
      exact hstep i x σ' H' T (f1 _ hq') hp nT
    · obtain rfl : i = xs.length := by omega
      exact .inl ⟨⟨xs, hq', rfl⟩, hend σ' H' hp⟩
theorem fwA_step {n : Nat} : ∀ (ts : List Dt) (i j : Nat) (t : Dt), ts[j]? = some t → fwA n i (ts.take j) = none → isRow t (i + j) n = false → fwA n i ts = some (i + j)
  | [], _, _, _, h, _, _ => by simp at h
  | t0 :: ts, i, 0, t, h, _, hr => by
    cases h
    unfold fwA
    rw [show i + 0 = i from rfl] at hr
    rw [hr]
    rfl
  | t0 :: ts, i, j + 1, t, h, hn, hr => by
    rw [List.take_succ_cons] at hn
    unfold fwA at hn ⊢
    split at hn
    · rename_i c
      rw [if_pos c]
      have e : i + (j + 1) = (i + 1) + j := by omega
      rw [e] at hr ⊢
      exact fwA_step ts (i + 1) j t (by simpa using h) hn hr
    · cases hn
theorem fwA_more {n : Nat} : ∀ (ts : List Dt) (i j : Nat) (t : Dt), ts[j]? = some t → fwA n i (ts.take j) = none → isRow t (i + j) n = true → fwA n i (ts.take (j + 1)) = none
  | [], _, _, _, h, _, _ => by simp at h
  | t0 :: ts, i, 0, t, h, _, hr => by
    cases h
    rw [List.take_succ_cons, List.take_zero]
    unfold fwA
    rw [show i + 0 = i from rfl] at hr
    rw [if_pos hr]
    rfl
  | t0 :: ts, i, j + 1, t, h, hn, hr => by
    rw [List.take_succ_cons] at hn ⊢
    unfold fwA at hn ⊢
    split at hn
    · rename_i c
      rw [if_pos c]
      have e : i + (j + 1) = (i + 1) + j := by omega
      rw [e] at hr
      exact fwA_more ts (i + 1) j t (by simpa using h) hn hr
    · cases hn
theorem row_word {t : Dt} {i n : Nat} (h : isRow t i n = true) : ∃ x fs, t = .tup (.str x :: fs) := by
  unfold isRow at h
  split at h
  · exact ⟨_, _, rfl⟩
  · cases h
theorem fwA_none {n : Nat} : ∀ (ts : List Dt) (i : Nat), fwA n i ts = none → ∀ j t, ts[j]? = some t → isRow t (i + j) n = true
  | [], _, _, j, t, h => by simp at h
  | t0 :: ts, i, hn, j, t, h => by
    unfold fwA at hn
    split at hn
    · rename_i c
      cases j with
      | zero => cases h; exact c
      | succ j =>
        have e : i + (j + 1) = (i + 1) + j := by omega
        rw [e]
        exact fwA_none ts (i + 1) hn j t (by simpa using h)
    · cases hn
section
variable {P : Program} {w : World} {K : PySem.W.Frag} {mg : Str → Option Value} {base : Heap}
theorem ok_fw {f fR aE : Addr} {fd fdR : FuncData} (F : Fun K "_first_wrong" "_first_wrong" sFw f fd) (mE : mg "ENDS" = some (.ref aE)) (EK : TupK K aE endsL)
    (GR : FnOk P w K mg base CX0 8 fR fdR ["value", "index", "many"] (spIr K)) (mR : mg "_is_row" = some (.ref fR)) (kR : PySem.W.keepIn K (.ref fR) = true) (bR : Binds K fdR ["value", "index", "many"] [])
    (mLen : mg "len" = none) (mEn : mg "enumerate" = none) : FnOk P w K mg base CX0 9 f fd ["rows"] (spFw K) := by
  refine F.ok (k := 8) scFw (fun vs H Q E h => ?_) (fun cdv A outer s H vs Q E hr h => ?_)
  · obtain ⟨a, us, ts, rfl, _⟩ := h
    rfl
  · obtain ⟨a, us, ts, rfl, hq, hd, hok, hlen, q⟩ := h
    refine ⟨_, pss_cons (ps_for PassesOwn.never rfl (pi_enumLT (by rfl) mEn (pa_cons (pv 0) pa_nil)) (pg_tup (by rfl) (pgs_cons (pg_name (i := 1) scFw.nd rfl (.inl rfl)) (pgs_cons (pg_name (i := 2) scFw.nd rfl (.inl rfl)) pgs_nil)))
        (pss_one (ps_if (pt_not (pt_val (pe_call GR hr (by rfl) mR kR bR .nil pass0 (pa_cons (pv 2) (pa_cons (pv 1) (pa_cons (pe_callB call_len_seq (by rfl) mLen PySem.boot_len (pa_cons (pv 0) pa_nil)) pa_nil)))))) (pss_one (ps_ret (pv 1))) pss_nil)))
      (pss_one (ps_ret (pe_ifExp (PW.pt (pw_and (pt_truth (pv 0) (by intro _; rfl)) (pw_and1 (pt_cmpR op_in_seq (pe_ix ix_tup (pe_ix ix_seq (pv 0) (pe_un un_neg pe_int) (fun _ _ => rfl)) pe_int (fun _ _ => rfl)) (pe_glob (v := .ref aE) (by rfl) mE rfl) (by rfl))))) pe_non (pe_callB call_len_seq (by rfl) mLen PySem.boot_len (pa_cons (pv 0) pa_nil))))), ?_⟩
    have hlt := dvl_len hd
    refine ⟨_, rfl, for_enumLT (K := K) (a := a) (xs := us) (fun i σ H' => ∃ o1 o2 : Option V, σ = [some (.ref a), o1, o2] ∧ Same H H' ∧ fwA ts.length 0 (ts.take i) = none) ⟨none, none, rfl, same_id, rfl⟩ hq (fun i σ H' _ h => h.choose_spec.choose_spec.2.1) ?_ ?_⟩
    · rintro i x σ H' T hx ⟨o1, o2, rfl, s1, hn⟩ nT
      obtain ⟨t, ht, hvx⟩ := dvl_get hd hx
      have s2 : Same H (upd H' T (.tup [.int (i : Nat), x])) := same_new s1 nT
      refine ⟨T, _, rfl, SqT.of upd_same, rfl, _, _, rfl, _, _, rfl, rfl, ?_⟩
      refine ⟨_, rfl, _, rfl, _, rfl, a, us, rfl, (hq.same s2).sq, x, i, us.length, t, rfl, dvM s2 hvx, hok t (List.mem_of_getElem? ht), fun H2 s3 => ⟨_, rfl, ?_⟩⟩
      cases hrow : isRow t i us.length with
      | false =>
        refine iteT ⟨_, rfl, ?_⟩
        have e := fwA_step (n := ts.length) ts 0 i t ht hn (by rw [Nat.zero_add, ← hlt]; exact hrow)
        have e2 : firstW ts = some i := by
          unfold firstW
          rw [e, Nat.zero_add]
        rw [e2] at q
        exact q H2 (s2.trans s3)
      | true =>
        refine iteF ⟨_, _, rfl, s2.trans s3, ?_⟩
        exact fwA_more ts 0 i t ht hn (by rw [Nat.zero_add, ← hlt]; exact hrow)
    · rintro σ H' ⟨o1, o2, rfl, s1, hn⟩
      rw [hlt, List.take_length] at hn
      have hq1 := (hq.same s1).sq
      have e2 : firstW ts = if lastE ts = true then none else some ts.length := by
        unfold firstW
        rw [hn]
      rw [e2] at q
      dsimp only
      refine ret_run ⟨_, rfl, _, (by rcases hq1 with h | h; exact .inl ⟨_, h, rfl⟩; exact .inr (.inl ⟨_, h, rfl⟩)), ?_⟩
      cases hd with
      | nil => exact iteF (iteF ⟨_, rfl, a, _, rfl, hq1, q H' s1⟩)
      | @cons v0 t0 vs0 ts0 hv0 hvs0 =>
        refine iteT ?_
        have hl0 := dvl_len hvs0
        obtain ⟨vl, hvl⟩ : ∃ vl, (v0 :: vs0)[vs0.length]? = some vl := ⟨_, List.getElem?_eq_getElem (by rw [List.length_cons]; omega)⟩
        obtain ⟨tl, htl, hvtl⟩ := dvl_get (.cons hv0 hvs0) hvl
        have hat : atI (v0 :: vs0) (-1) = some vl := by
          unfold atI
          have e : ixN (v0 :: vs0).length (-1) = some vs0.length := by
            unfold ixN
            rw [if_neg (by decide), if_pos (by rw [List.length_cons]; omega)]
            congr 1
            rw [List.length_cons]
            omega
          rw [e]
          exact hvl
        have hrw := fwA_none _ 0 hn vs0.length tl htl
        obtain ⟨x, fs, rfl⟩ := row_word hrw
        have hla : lastE (t0 :: ts0) = decide (x ∈ endsL) := by
          unfold lastE
          have e : (t0 :: ts0).getLast? = some (.tup (.str x :: fs)) := by
            rw [List.getLast?_eq_getElem?, List.length_cons, Nat.add_sub_cancel, ← hl0]
            exact htl
          rw [e]
          rfl
        cases hvtl with
        | @tup av xs l hseq hall =>
          cases hall with
          | @cons u d vs2 fs2 hd2 hvs2 =>
            cases hd2
            have hs1 := same_seqT s1 hseq
            have ein : inV (V.str x) (endsL.map V.str) = decide (x ∈ endsL) := inV_strs x endsL
            rw [hla] at q
            refine ⟨_, rfl, _, rfl, ?_⟩
            have hix : ∀ R : VK, R (.ref av) H' → rIx K (.ref a) (.int (-1)) H' R := fun R hR => by
              rcases hq1 with h | h
              · exact .inl ⟨a, _, _, _, rfl, rfl, h, hat, hR⟩
              · exact .inr (.inl ⟨a, _, _, _, rfl, rfl, h, hat, hR⟩)
            refine hix _ ⟨av, _, 0, _, rfl, rfl, hs1, at_0 _ _, aE, endsL.map V.str, rfl, .inr (EK H'), rfl, flat_strs _, _, rfl, ?_⟩
            show (if inV (V.str x) (endsL.map V.str) = true then _ else _)
            rw [ein]
            refine ite2 (fun c => ?_) (fun c => ?_)
            · rw [if_pos c] at q
              exact q H' s1
            · rw [if_neg c] at q
              exact ⟨_, rfl, a, _, rfl, hq1, by
                have z := q H' s1
                rw [List.length_cons] at z ⊢
                rw [hl0]
                exact z⟩
end
end Toy


namespace Toy
open PySem PySem.Spec L2 PyProof.Rows PySem.W
/-! ### told alike; is_code -/
def isNo : Dt → Bool
  | .non => true
  | _ => false
def alkN : Nat → Dt → Dt → Bool
  | n + 1, t, .tup us => (match t with
    | .tup ts => decide (ts.length = us.length) && (List.range us.length).all fun i => alkN n (ts.getD i .non) (us.getD i .non)
    | _ => false)
  | 0, _, .tup _ => false
  | _, t, .bl b => (match t with | .bl c => decide (c = b) | _ => false)
  | _, t, .int b => (match t with | .int c => decide (c = b) | _ => false)
  | _, t, .str b => (match t with | .str c => decide (c = b) | _ => false)
  | _, t, .non => isNo t
  | _, t, .opq => isNo t
abbrev sTa : Stmt := top 38
abbrev NTa : List Str := ["value", "right", "part", "told"]
theorem scTa : FnScope NTa ["value", "right"] (defScope sTa) := ⟨rfl, rfl, rfl, by decide +kernel, rfl, by decide +kernel, by decide +kernel⟩
def spTa (K : PySem.W.Frag) (j : Nat) : Sp := fun vs H Q _ => ∃ (v u : V) (t r : Dt), vs = [v, u] ∧ Dv K H v t ∧ Dv K H u r ∧ okd 300 r = true ∧ okd 300 t = true ∧ dep r < j ∧ ∀ H', Same H H' → Q (.bl (alkN j t r)) H'
abbrev sIc : Stmt := top 43
theorem scIc : FnScope ["value"] ["value"] (defScope sIc) := ⟨rfl, rfl, rfl, by decide +kernel, rfl, by decide +kernel, by decide +kernel⟩
def spIc (K : PySem.W.Frag) : Sp := fun vs H Q _ => (∃ (a : Addr) (us : List V) (ts : List Dt), vs = [.ref a] ∧ RowsAt K H a us ∧ DvL K H us ts ∧ (∀ t ∈ ts, okR t) ∧ ts.length ≤ 1000 ∧ ∀ H', Same H H' → Q (.bl (firstW ts).isNone) H') ∨
  ∃ (v : V) (t : Value), vs = [v] ∧ (∀ H', Same H H' → TyX K H' v t) ∧ PySem.W.kitOne K t (.type "list") = some false ∧ PySem.W.kitOne K t (.type "tuple") = some false ∧ ∀ H', Same H H' → Q (.bl false) H'
section
variable {P : Program} {w : World} {K : PySem.W.Frag} {mg : Str → Option Value} {base : Heap}
theorem kit_none {t : Value} : PySem.W.kitAny K t [] = some false := rfl
theorem kit_2 {t a b : Value} {x y : Bool} (h1 : PySem.W.kitOne K t a = some x) (h2 : PySem.W.kitOne K t b = some y) : PySem.W.kitAny K t [a, b] = some (x || y) := by
  refine kitAny_cons h1 (fun e => ?_) (fun e => by rw [e]; rfl)
  rw [e]
  refine kitAny_cons h2 (fun e2 => ?_) (fun e2 => by rw [e2]; rfl)
  rw [e2]
  exact kit_none
theorem fn_none {CX : CXT} {k : Nat} {f : Addr} {fd : FuncData} {ps : List Str} {sp : Sp} (h : ∀ vs H Q E, ¬ sp vs H Q E) : FnOk P w K mg base CX k f fd ps sp := ⟨fun vs H Q E z => (h vs H Q E z).elim, fun _ _ _ H _ _ vs Q E _ _ _ _ z => (h vs H Q E z).elim⟩
theorem isNon {H : Hp} {v : V} {t : Dt} (h : Dv K H v t) : decide (v = .non) = isNo t := by
  cases h <;> first | rfl | exact decide_eq_false fun z => by cases z
theorem ok_taS {f fI : Addr} {fd fdI : FuncData} {j : Nat} {sp : Sp} (F : Fun K "is_told_alike" "is_told_alike" sTa f fd)
    (GI : FnOk P w K mg base CX0 1 fI fdI ["value"] (spM K intD)) (mIn : mg "is_integer" = some (.ref fI)) (kI : PySem.W.keepIn K (.ref fI) = true) (bI : Binds K fdI ["value"] [])
    (GR : FnOk P w K mg base CX0 (1 + j) f fd ["value", "right"] sp) (hsp : ∀ i, j = i + 1 → sp = spTa K (i + 1)) (mF : mg "is_told_alike" = some (.ref f)) (kF : PySem.W.keepIn K (.ref f) = true) (bF : Binds K fd ["value", "right"] [])
    (mI : mg "isinstance" = none) (mTu : mg "tuple" = none) (mS : mg "str" = none) (mInt : mg "int" = none) (mB : mg "bool" = none) (mLen : mg "len" = none) (mA : mg "all" = none) (mZip : mg "zip" = none) : FnOk P w K mg base CX0 (2 + j) f fd ["value", "right"] (spTa K (j + 1)) := by
  rw [show 2 + j = (1 + j) + 1 by omega]
  refine F.ok (k := 1 + j) scTa (fun vs H Q E h => ?_) (fun cdv A outer s H vs Q E hr h => ?_)
  · obtain ⟨v, u, t, r, rfl, _⟩ := h
    rfl
  · obtain ⟨v, u, t, r, rfl, hv, hu, hok, hokt, hdp, q⟩ := h
    have hr1 := hr.mono (show 1 ≤ 1 + j by omega)
    refine ⟨_, pss_cons (ps_if (pt_val (pe_callB call_isi (by rfl) mI PyProof.Rows.boot_isinstance (pa_cons (pv 1) (pa_cons (pe_bltn (v := .ty "tuple") (by rfl) mTu (by decide +kernel) rfl) pa_nil))))
        (pss_cons (ps_if (PW.pt (pw_or (pt_not (pt_val (pe_callB call_isi (by rfl) mI PyProof.Rows.boot_isinstance (pa_cons (pv 0) (pa_cons (pe_bltn (v := .ty "tuple") (by rfl) mTu (by decide +kernel) rfl) pa_nil))))) (pw_or1 (pt_cmpR op_ne (pe_callB call_len_seq (by rfl) mLen PySem.boot_len (pa_cons (pv 0) pa_nil)) (pe_callB call_len_seq (by rfl) mLen PySem.boot_len (pa_cons (pv 1) pa_nil)) (nomark _))))) (pss_one (ps_ret pe_bl)) pss_nil)
        (pss_one (ps_ret (pe_callB (cr_all rfl) (by rfl) mA (by decide +kernel) (pa_cons (pe_lc (own := [("part", 2), ("told", 3)]) (g := gTup K 2 (gCons (gName 2) (gCons (gName 3) gNil))) (te := tCall sp [] E0 (tCons (tVar 2) (tCons (tVar 3) tNil))) (by rfl) scTa.nd (RZ.pi_zipA (by rfl) mZip (pa_cons (pv 0) (pa_cons (pv 1) pa_nil)))
            (blkOk_by (own := [("part", 2), ("told", 3)]) (N := NTa) (sc := defScope sTa) (by decide +kernel)) (fun _ _ _ _ _ => by exact (pg_tup rfl (pgs_cons (by exact (pg_name (i := 2) scTa.nd rfl (Or.inl rfl))) (pgs_cons (by exact (pg_name (i := 3) scTa.nd rfl (Or.inl rfl))) pgs_nil)))) (fun _ _ _ _ _ => pts_nil)
            (fun _ _ _ _ _ => pe_call GR hr (by rfl) mF kF bF .nil pass0 (pa_cons (pv 2) (pa_cons (pv 3) pa_nil)))) pa_nil))))) pss_nil)
      (pss_cons (ps_if (pt_val (pe_callB call_isi (by rfl) mI PyProof.Rows.boot_isinstance (pa_cons (pv 1) (pa_cons (pe_bltn (v := .ty "bool") (by rfl) mB (by decide +kernel) rfl) pa_nil))))
        (pss_one (ps_ret (pe_and (pe_callB call_isi (by rfl) mI PyProof.Rows.boot_isinstance (pa_cons (pv 0) (pa_cons (pe_bltn (v := .ty "bool") (by rfl) mB (by decide +kernel) rfl) pa_nil))) (pe_one (pe_cmpR op_eq (pv 0) (pv 1) (nomark _)))))) pss_nil)
      (pss_cons (ps_if (pt_val (pe_callB call_isi (by rfl) mI PyProof.Rows.boot_isinstance (pa_cons (pv 1) (pa_cons (pe_bltn (v := .ty "int") (by rfl) mInt (by decide +kernel) rfl) pa_nil))))
        (pss_one (ps_ret (pe_and (pe_call GI hr1 (by rfl) mIn kI bI .nil pass0 (pa_cons (pv 0) pa_nil)) (pe_one (pe_cmpR op_eq (pv 0) (pv 1) (nomark _)))))) pss_nil)
      (pss_cons (ps_if (pt_val (pe_callB call_isi (by rfl) mI PyProof.Rows.boot_isinstance (pa_cons (pv 1) (pa_cons (pe_bltn (v := .ty "str") (by rfl) mS (by decide +kernel) rfl) pa_nil))))
        (pss_one (ps_ret (pe_and (pe_callB call_isi (by rfl) mI PyProof.Rows.boot_isinstance (pa_cons (pv 0) (pa_cons (pe_bltn (v := .ty "str") (by rfl) mS (by decide +kernel) rfl) pa_nil))) (pe_one (pe_cmpR op_eq (pv 0) (pv 1) (nomark _)))))) pss_nil)
      (pss_one (ps_ret (pe_cmpR op_isN (pv 0) pe_non (nomark _))))))), ?_⟩
    refine ⟨_, rfl, isT hu ⟨_, rfl, ?_⟩⟩
    cases hu with
    | @tup av xs l hseq hall =>
      refine iteT ?_
      refine ⟨_, rfl, isT hv ⟨_, rfl, ?_⟩⟩
      cases hv with
      | non => exact iteT (iteT (q H same_id))
      | bl b => exact iteT (iteT (q H same_id))
      | int i => exact iteT (iteT (q H same_id))
      | str x => exact iteT (iteT (q H same_id))
      | lst _ => exact iteT (iteT (q H same_id))
      | dct _ => exact iteT (iteT (q H same_id))
      | @tup av2 xs2 l2 hseq2 hall2 =>
        have e1 := dvl_len hall
        have e2 := dvl_len hall2
        refine iteF ⟨_, rfl, av2, _, rfl, .inr hseq2, _, rfl, av, _, rfl, .inr hseq, rfl, _, rfl, ?_⟩
        have eA : alkN (j + 1) (.tup l2) (.tup l) = (decide (l2.length = l.length) && (List.range l.length).all fun i => alkN j (l2.getD i .non) (l.getD i .non)) := rfl
        rw [eA] at q
        simp only [okd, Bool.and_eq_true, decide_eq_true_eq] at hok hokt
        have hdl : depL l + 1 ≤ j := by
          have : dep (.tup l) = depL l + 1 := by simp [dep]
          omega
        obtain ⟨j', rfl⟩ : ∃ i, j = i + 1 := ⟨j - 1, by omega⟩
        have := hsp j' rfl
        subst this
        by_cases hl : l2.length = l.length
        · rw [decide_eq_true hl, Bool.true_and] at q
          rw [decide_eq_true (show V.int (xs2.length : Nat) = V.int (xs.length : Nat) by rw [e1, e2, hl])]
          refine iteF (nx_run ?_)
          dsimp only
          refine ret_run ?_
          refine ⟨_, rfl, _, rfl, av2, av, xs2, xs, rfl, .inr ⟨hseq2, hseq, fun D nD => ?_⟩⟩
          refine ⟨fun i m H' => m + i = l.length ∧ Same H H' ∧ H' D = some (.lst ((List.range i).map fun i => V.bl (alkN (j' + 1) (l2.getD i .non) (l.getD i .non)))), ⟨l.length, rfl, same_new same_id nD, upd_same⟩, fun i m H' hW => ?_⟩
          obtain ⟨em, s2, hD⟩ := hW
          have sq1 := same_seqT s2 hseq
          have sq2 := same_seqT s2 hseq2
          by_cases hi : i < l.length
          · obtain ⟨y1, m1⟩ : ∃ y0, xs[i]? = some y0 := ⟨xs[i]'(by omega), List.getElem?_eq_getElem (by omega)⟩
            obtain ⟨y2, m2⟩ : ∃ y0, xs2[i]? = some y0 := ⟨xs2[i]'(by omega), List.getElem?_eq_getElem (by omega)⟩
            obtain ⟨f1, hf1, hy1⟩ := dvl_get hall m1
            obtain ⟨f2, hf2, hy2⟩ := dvl_get hall2 m2
            have g1 : l.getD i .non = f1 := by rw [List.getD_eq_getElem?_getD, hf1]; rfl
            have g2 : l2.getD i .non = f2 := by rw [List.getD_eq_getElem?_getD, hf2]; rfl
            refine .inr ⟨⟨_, _, _, _, sq2, sq1, m2, m1⟩, fun H3 => Same H H3 ∧ H3 D = some (.lst ((List.range (i + 1)).map fun i => V.bl (alkN (j' + 1) (l2.getD i .non) (l.getD i .non)))), fun H3 hN => ⟨m - 1, by omega, by omega, hN.1, hN.2⟩, fun v H3 hy => ?_⟩
            obtain ⟨T1, x1, x2, rfl, nT, rfl, k1, k2⟩ := hy
            obtain rfl : x1 = y2 := Option.some.inj ((k1 _ sq2).symm.trans m2)
            obtain rfl : x2 = y1 := Option.some.inj ((k2 _ sq1).symm.trans m1)
            have nDT : D ≠ T1 := ne_of_none hD nT
            have sT : Same H (upd H' T1 (.tup [x1, x2])) := same_new s2 nT
            refine ⟨T1, _, rfl, SqT.of upd_same, rfl, _, _, rfl, _, _, rfl, rfl, rfl, _, rfl, _, rfl, x1, x2, f2, f1, rfl, dvM sT hy2, dvM sT hy1, okd_get hok.2 hf1, okd_get hokt.2 hf2, ?_, fun H5 s5 => ?_⟩
            · have := dep_mem (List.mem_of_getElem? hf1)
              omega
            refine ⟨_, s5 _ _ ((upd_ne nDT).trans hD), small1000 (by rw [List.length_map, List.length_range]; omega), same_put (sT.trans s5) nD, ?_⟩
            rw [upd_same, List.range_succ, List.map_append, ← g1, ← g2]
            rfl
          · have hik : i = l.length := by omega
            subst hik
            refine .inl ⟨⟨_, _, sq2, sq1, .inl (by omega)⟩, D, (List.range l.length).map fun i => alkN (j' + 1) (l2.getD i .non) (l.getD i .non), rfl, SqL.of (by rw [hD, List.map_map]; rfl), ?_⟩
            rw [all_map_id]
            exact q H' s2
        · rw [decide_eq_false hl, Bool.false_and] at q
          rw [decide_eq_false (show ¬ V.int (xs2.length : Nat) = V.int (xs.length : Nat) by
            intro z
            have z := V.int.inj z
            omega)]
          exact iteT (q H same_id)
    | non =>
      refine iteF (nx_run ⟨_, rfl, isB .non ⟨_, rfl, iteF (nx_run ⟨_, rfl, isI .non ⟨_, rfl, iteF (nx_run ⟨_, rfl, isS .non ⟨_, rfl, iteF (nx_run ?_)⟩⟩)⟩⟩)⟩⟩)
      dsimp only
      refine ret_run ⟨_, rfl, rfl, ?_⟩
      rw [isNon hv]
      have e : alkN (j + 1) t .non = isNo t := rfl
      rw [e] at q
      exact q H same_id
    | lst h0 =>
      refine iteF (nx_run ⟨_, rfl, isB (.lst h0) ⟨_, rfl, iteF (nx_run ⟨_, rfl, isI (.lst h0) ⟨_, rfl, iteF (nx_run ⟨_, rfl, isS (.lst h0) ⟨_, rfl, iteF (nx_run ?_)⟩⟩)⟩⟩)⟩⟩)
      dsimp only
      refine ret_run ⟨_, rfl, rfl, ?_⟩
      rw [isNon hv]
      have e : alkN (j + 1) t .opq = isNo t := rfl
      rw [e] at q
      exact q H same_id
    | dct h0 =>
      refine iteF (nx_run ⟨_, rfl, isB (.dct h0) ⟨_, rfl, iteF (nx_run ⟨_, rfl, isI (.dct h0) ⟨_, rfl, iteF (nx_run ⟨_, rfl, isS (.dct h0) ⟨_, rfl, iteF (nx_run ?_)⟩⟩)⟩⟩)⟩⟩)
      dsimp only
      refine ret_run ⟨_, rfl, rfl, ?_⟩
      rw [isNon hv]
      have e : alkN (j + 1) t .opq = isNo t := rfl
      rw [e] at q
      exact q H same_id
    | bl b =>
      refine iteF (nx_run ⟨_, rfl, isB (.bl b) ⟨_, rfl, iteT ?_⟩⟩)
      refine ret_run ⟨_, rfl, isB hv ⟨_, rfl, ?_⟩⟩
      cases hv with
      | bl c =>
        refine iteT ⟨_, rfl, _, rfl, rfl, ?_⟩
        have e : decide (V.bl c = V.bl b) = alkN (j + 1) (.bl c) (.bl b) := decide_eq_decide.mpr ⟨fun z => V.bl.inj z, fun z => by rw [z]⟩
        rw [e]
        exact q H same_id
      | non => exact iteF (q H same_id)
      | int i => exact iteF (q H same_id)
      | str x => exact iteF (q H same_id)
      | tup _ _ => exact iteF (q H same_id)
      | lst _ => exact iteF (q H same_id)
      | dct _ => exact iteF (q H same_id)
    | int b =>
      refine iteF (nx_run ⟨_, rfl, isB (.int b) ⟨_, rfl, iteF (nx_run ⟨_, rfl, isI (.int b) ⟨_, rfl, iteT ?_⟩⟩)⟩⟩)
      refine ret_run ⟨_, rfl, v, t, rfl, hv, hokt, fun H1 s1 => ⟨_, rfl, ?_⟩⟩
      cases hv with
      | int c =>
        refine iteT ⟨_, rfl, _, rfl, rfl, ?_⟩
        have e : decide (V.int c = V.int b) = alkN (j + 1) (.int c) (.int b) := decide_eq_decide.mpr ⟨fun z => V.int.inj z, fun z => by rw [z]⟩
        rw [e]
        exact q H1 s1
      | non => exact iteF (q H1 s1)
      | bl i => exact iteF (q H1 s1)
      | str x => exact iteF (q H1 s1)
      | tup _ _ => exact iteF (q H1 s1)
      | lst _ => exact iteF (q H1 s1)
      | dct _ => exact iteF (q H1 s1)
    | str b =>
      refine iteF (nx_run ⟨_, rfl, isB (.str b) ⟨_, rfl, iteF (nx_run ⟨_, rfl, isI (.str b) ⟨_, rfl, iteF (nx_run ⟨_, rfl, isS (.str b) ⟨_, rfl, iteT ?_⟩⟩)⟩⟩)⟩⟩)
      refine ret_run ⟨_, rfl, isS hv ⟨_, rfl, ?_⟩⟩
      cases hv with
      | str c =>
        refine iteT ⟨_, rfl, _, rfl, rfl, ?_⟩
        have e : decide (V.str c = V.str b) = alkN (j + 1) (.str c) (.str b) := decide_eq_decide.mpr ⟨fun z => V.str.inj z, fun z => by rw [z]⟩
        rw [e]
        exact q H same_id
      | non => exact iteF (q H same_id)
      | int i => exact iteF (q H same_id)
      | bl x => exact iteF (q H same_id)
      | tup _ _ => exact iteF (q H same_id)
      | lst _ => exact iteF (q H same_id)
      | dct _ => exact iteF (q H same_id)
theorem ok_ta {f fI : Addr} {fd fdI : FuncData} (F : Fun K "is_told_alike" "is_told_alike" sTa f fd)
    (GI : FnOk P w K mg base CX0 1 fI fdI ["value"] (spM K intD)) (mIn : mg "is_integer" = some (.ref fI)) (kI : PySem.W.keepIn K (.ref fI) = true) (bI : Binds K fdI ["value"] [])
    (mF : mg "is_told_alike" = some (.ref f)) (kF : PySem.W.keepIn K (.ref f) = true) (bF : Binds K fd ["value", "right"] [])
    (mI : mg "isinstance" = none) (mTu : mg "tuple" = none) (mS : mg "str" = none) (mInt : mg "int" = none) (mB : mg "bool" = none) (mLen : mg "len" = none) (mA : mg "all" = none) (mZip : mg "zip" = none) : ∀ j, FnOk P w K mg base CX0 (2 + j) f fd ["value", "right"] (spTa K (j + 1))
  | 0 => ok_taS (sp := fun _ _ _ _ => False) F GI mIn kI bI (fn_none fun _ _ _ _ h => h) (fun i h => by cases h) mF kF bF mI mTu mS mInt mB mLen mA mZip
  | j + 1 => ok_taS F GI mIn kI bI (by rw [show 1 + (j + 1) = 2 + j by omega]; exact ok_ta F GI mIn kI bI mF kF bF mI mTu mS mInt mB mLen mA mZip j) (fun i h => by cases h; rfl) mF kF bF mI mTu mS mInt mB mLen mA mZip
theorem ok_ic {f fW : Addr} {fd fdW : FuncData} (F : Fun K "is_code" "is_code" sIc f fd)
    (GW : FnOk P w K mg base CX0 9 fW fdW ["rows"] (spFw K)) (mW : mg "_first_wrong" = some (.ref fW)) (kW : PySem.W.keepIn K (.ref fW) = true) (bW : Binds K fdW ["rows"] [])
    (mI : mg "isinstance" = none) (mTu : mg "tuple" = none) (mL : mg "list" = none) : FnOk P w K mg base CX0 10 f fd ["value"] (spIc K) := by
  refine F.ok (k := 9) scIc (fun vs H Q E h => ?_) (fun cdv A outer s H vs Q E hr h => ?_)
  · rcases h with ⟨_, _, _, rfl, _⟩ | ⟨_, _, rfl, _⟩ <;> rfl
  · have hv : ∃ v, vs = [v] := by rcases h with ⟨_, _, _, rfl, _⟩ | ⟨_, _, rfl, _⟩ <;> exact ⟨_, rfl⟩
    obtain ⟨v, rfl⟩ := hv
    refine ⟨_, pss_one (ps_ret (pe_and (pe_callB call_isiT (by rfl) mI PyProof.Rows.boot_isinstance (pa_cons (pv 0) (pa_cons (pe_tup (pa_cons (pe_bltn (v := .ty "list") (by rfl) mL (by decide +kernel) rfl) (pa_cons (pe_bltn (v := .ty "tuple") (by rfl) mTu (by decide +kernel) rfl) pa_nil))) pa_nil)))
      (pe_one (pe_cmpR op_isN (pe_call GW hr (by rfl) mW kW bW .nil pass0 (pa_cons (pv 0) pa_nil)) pe_non (nomark _))))), ?_⟩
    refine ⟨_, rfl, few (by show 2 ≤ 1000; decide), fun T nT => ?_⟩
    have s1 := same_new (u := .tup [.ty "list", .ty "tuple"]) (same_id (H := H)) nT
    rcases h with ⟨a, us, ts, e, hq, hd, hok, hlen, q⟩ | ⟨v', t, e, ht, k1, k2, q⟩
    · cases e
      have fin : _root_.Eq true true → _ := fun _ : true = true => (⟨_, rfl, iteT ⟨_, rfl, a, us, ts, rfl, hq.same s1, dvLM s1 hd, hok, hlen, fun H2 s2 => ⟨rfl, by
        have z := q H2 (s1.trans s2)
        have e3 : decide (optI (firstW ts) = V.non) = (firstW ts).isNone := by
          cases firstW ts with
          | none => rfl
          | some i => exact decide_eq_false fun z => by cases z
        rw [e3]
        exact z⟩⟩⟩ : ∃ c, V.bl true = V.bl c ∧ (if c = true then tOp (fun x y H Q => y = V.non ∧ Q (V.bl (decide (x = V.non))) H) (tCall (spFw K) [] E0 (tCons (tVar 0) tNil)) (tC V.non) (L2.start ["value"] [V.ref a]) (upd H T (.tup [.ty "list", .ty "tuple"])) Q else Q (V.bl false) (upd H T (.tup [.ty "list", .ty "tuple"]))))
      rcases hq with hq | hq
      · exact ⟨_, T, _, _, [.type "list", .type "tuple"], true, rfl, upd_same, .cons (.ty _) (.cons (.ty _) .nil), .base (.lst (s1 _ _ hq)), kit_2 (x := true) (y := false) (kit_ty (by decide +kernel)) (kit_ty (by decide +kernel)), fin rfl⟩
      · exact ⟨_, T, _, _, [.type "list", .type "tuple"], true, rfl, upd_same, .cons (.ty _) (.cons (.ty _) .nil), tyT (same_seqT s1 hq), kit_2 (x := false) (y := true) (kit_ty (by decide +kernel)) (kit_ty (by decide +kernel)), fin rfl⟩
    · cases e
      exact ⟨_, T, _, _, [.type "list", .type "tuple"], false, rfl, upd_same, .cons (.ty _) (.cons (.ty _) .nil), ht _ s1, kit_2 (x := false) (y := false) k1 k2, _, rfl, iteF (q _ s1)⟩
end
end Toy


namespace Toy
open PySem PySem.Spec L2 PyProof.Rows PySem.W
/-! ### the class Code -/
abbrev sCi : Stmt := inClass (top 42) 0
abbrev sCr : Stmt := inClass (top 42) 1
abbrev sCl : Stmt := inClass (top 42) 2
abbrev sCt : Stmt := inClass (top 42) 3
abbrev sCe : Stmt := inClass (top 42) 4
theorem scCi : FnScope ["self", "rows", "wrong"] ["self", "rows"] (defScope sCi) := ⟨rfl, rfl, rfl, by decide +kernel, rfl, by decide +kernel, by decide +kernel⟩
theorem scCr : FnScope ["self"] ["self"] (defScope sCr) := ⟨rfl, rfl, rfl, by decide +kernel, rfl, by decide +kernel, by decide +kernel⟩
theorem scCl : FnScope ["self"] ["self"] (defScope sCl) := ⟨rfl, rfl, rfl, by decide +kernel, rfl, by decide +kernel, by decide +kernel⟩
theorem scCt : FnScope ["self"] ["self"] (defScope sCt) := ⟨rfl, rfl, rfl, by decide +kernel, rfl, by decide +kernel, by decide +kernel⟩
theorem scCe : FnScope ["self", "other"] ["self", "other"] (defScope sCe) := ⟨rfl, rfl, rfl, by decide +kernel, rfl, by decide +kernel, by decide +kernel⟩
structure CodeC (K : PySem.W.Frag) (C fI : Addr) : Prop where
  cl : Cls K C
  mk' : Mk K C fI
  nr : NoAttr K C "_rows"
  t1 : PySem.W.findIn K (.ref C) "__class__" = some (some (.builtin "object.__class__"))
  t2 : PySem.W.specialIn K (.builtin "object.__class__") "__get__" = some (some (.builtin "getset_descriptor.__get__"))
  t3 : PySem.W.takesIn K (.builtin "object.__class__") = some true
  t4 : PySem.W.mroIn K C (.type "object") = some true
  k1 : PySem.W.kitOne K (.ref C) (.ref C) = some true
  k2 : PySem.W.kitOne K (.type "tuple") (.ref C) = some false
  k3 : PySem.W.subIn K (.type "tuple") (.ref C) = some false
/-- at x a code of the rows us -/
def CodeAt (K : PySem.W.Frag) (C : Addr) (H : Hp) (x : Addr) (us : List V) : Prop := ∃ dx T, H x = some (.ins C dx [("_rows", .ref T)]) ∧ SqT K H T us
theorem CodeAt.same {K : PySem.W.Frag} {C : Addr} {H H' : Hp} {x : Addr} {us : List V} (h : CodeAt K C H x us) (s : Same H H') : CodeAt K C H' x us := by
  obtain ⟨dx, T, h1, h2⟩ := h
  exact ⟨dx, T, s _ _ h1, same_seqT s h2⟩
def Bad (CT : Addr) (i : Int) (H : Hp) (E : XK) : Prop := ∀ H' dd, Same H H' → H' dd = some (.xd [("index", .int i)]) → E (.ref CT) (some dd) H'
theorem Bad.up {CT : Addr} {i : Int} {H H' : Hp} {E : XK} (h : Bad CT i H E) (s : Same H H') : Bad CT i H' E := fun H2 d s2 e => h H2 d (s.trans s2) e
def spCi (C CT : Addr) (K : PySem.W.Frag) : Sp := fun vs H Q E => ∃ (x dx a : Addr) (us : List V) (ts : List Dt), vs = [.ref x, .ref a] ∧ H x = some (.ins C dx []) ∧ RowsAt K H a us ∧ DvL K H us ts ∧ (∀ t ∈ ts, okR t) ∧ ts.length ≤ 1000 ∧
  match firstW ts with
  | some i => Bad CT (i : Int) H E
  | none => ∀ H', (∀ b o, b ≠ x → H b = some o → H' b = some o) → CodeAt K C H' x us → Q .non H'
def spCr (K : PySem.W.Frag) (C : Addr) : Sp := fun vs H Q _ => ∃ (x : Addr) (us : List V), vs = [.ref x] ∧ CodeAt K C H x us ∧ ∀ T, SqT K H T us → Q (.ref T) H
def spCl (K : PySem.W.Frag) (C : Addr) : Sp := fun vs H Q _ => ∃ (x : Addr) (us : List V), vs = [.ref x] ∧ CodeAt K C H x us ∧ Q (.int (us.length : Int)) H
def spCe (K : PySem.W.Frag) (C : Addr) : Sp := fun vs H Q _ => ∃ (x : Addr) (us : List V) (ts : List Dt) (y : V), vs = [.ref x, y] ∧ CodeAt K C H x us ∧ DvL K H us ts ∧ okd 300 (.tup ts) = true ∧
  ((∃ (x2 : Addr) (us2 : List V) (ts2 : List Dt), y = .ref x2 ∧ CodeAt K C H x2 us2 ∧ DvL K H us2 ts2 ∧ okd 300 (.tup ts2) = true ∧ dep (.tup ts2) < 21 ∧ ∀ H', Same H H' → Q (.bl (alkN 21 (.tup ts) (.tup ts2))) H') ∨
   (∃ (b : Addr) (xs : List V), y = .ref b ∧ SqT K H b xs ∧ Q (.bl false) H))
/-- the tuple of a code -/
def GCode (K : PySem.W.Frag) (C : Addr) (x : Addr) (H : Hp) (T : Addr) : Prop := ∃ dx us, H x = some (.ins C dx [("_rows", .ref T)]) ∧ SqT K H T us
theorem sqT_put {K : PySem.W.Frag} {H : Hp} {x t C dx : Addr} {fs : List (Str × V)} {u : HO} {us : List V} (hx : H x = some (.ins C dx fs)) (h : SqT K H t us) : SqT K (upd H x u) t us := by
  rcases h with (h | ⟨o, h⟩) | h
  · refine .inl (.inl ((upd_ne fun z => ?_).trans h))
    rw [z, hx] at h
    cases h
  · refine .inl (.inr ⟨o, (upd_ne fun z => ?_).trans h⟩)
    rw [z, hx] at h
    cases h
  · exact .inr h
section
variable {P : Program} {w : World} {K : PySem.W.Frag} {mg : Str → Option Value} {base : Heap} {C CT fI : Addr}
theorem ok_ci {f fW : Addr} {fd fdW : FuncData} (F : Fun K "__init__" "Code.__init__" sCi f fd) (T : CodeC K C fI) (T1 : Cl1 K CT "index") (R1 : ClR K CT) (mT : mg "InvalidCode" = some (.ref CT))
    (GW : FnOk P w K mg base CX0 9 fW fdW ["rows"] (spFw K)) (mW : mg "_first_wrong" = some (.ref fW)) (kW : PySem.W.keepIn K (.ref fW) = true) (bW : Binds K fdW ["rows"] []) (mTu : mg "tuple" = none) :
    FnOk P w K mg base (L2.CX P w) 10 f fd ["self", "rows"] (spCi C CT K) := by
  refine F.okX (k := 9) scCi (fun vs H Q E h => ?_) (fun cdv A outer s H vs Q E hr h => ?_)
  · obtain ⟨x, dx, a, us, ts, rfl, _⟩ := h
    rfl
  · obtain ⟨x, dx, a, us, ts, rfl, hx, hq, hd, hok, hlen, q⟩ := h
    have hr1 := hr.mono (show 1 ≤ 9 by decide)
    have tk : Takes (cxOf (L2.CX P w) P w K mg base ["self", "rows", "wrong"] "Code.__init__" (defScope sCi) f cdv A outer s H E) (fun cls d _ H' => E cls d H') := takes_of rfl rfl rfl rfl
    refine ⟨_, pss_cons (ps_set (i := 2) scCi.nd rfl (Or.inl rfl) (pe_call GW hr (by rfl) mW kW bW .nil pass0 (pa_cons (pv 1) pa_nil)))
      (pss_cons (ps_if (pt_cmpR op_notN (pv 2) pe_non (nomark _)) (pss_one (ps_raise rfl tk (pmk_x1 T1 R1 hr1 mT (by rfl) (pa_cons (pv 2) pa_nil)))) pss_nil)
      (pss_one (ps_fld (pv 0) (pe_callTy call_tuple_of (by rfl) mTu (by decide +kernel) (pa_cons (pv 1) pa_nil)) rfl))), ?_⟩
    refine asg_run ⟨_, rfl, a, us, ts, rfl, hq, hd, hok, hlen, fun H1 s1 => ?_⟩
    cases hw : firstW ts with
    | some i =>
      rw [hw] at q
      refine ⟨_, rfl, rfl, _, rfl, iteT ?_⟩
      exact ⟨_, rfl, _, rfl, fun dd ndd => q _ dd (s1.trans (same_new same_id ndd)) upd_same⟩
    | none =>
      rw [hw] at q
      refine ⟨_, rfl, rfl, _, rfl, iteF (nx_run ?_)⟩
      dsimp only
      have fin : ∀ (H2 : Hp) (t : Addr), Same H1 H2 → SqT K H2 t us → ∃ a' C' dx' fs', V.ref x = .ref a' ∧ H2 a' = some (.ins C' dx' fs') ∧ Cls K C' ∧ NoAttr K C' "_rows" ∧ fs'.length < 1000 ∧ Q .non (upd H2 a' (.ins C' dx' (putF "_rows" (.ref t) fs'))) := fun H2 t s2 ht =>
        ⟨x, C, dx, [], rfl, s2 _ _ (s1 _ _ hx), T.cl, T.nr, by decide, q _ (fun b o hb e => (upd_ne hb).trans (s2 _ _ (s1 _ _ e))) ⟨dx, t, upd_same, sqT_put (s2 _ _ (s1 _ _ hx)) ht⟩⟩
      rcases hq.same s1 with hq1 | hq1
      · exact ⟨_, rfl, a, us, rfl, .inl ⟨SqL.of hq1, fun l nl => ⟨_, rfl, fin _ l (same_new same_id nl) (SqT.of upd_same)⟩⟩⟩
      · exact ⟨_, rfl, a, us, rfl, .inr ⟨hq1, _, rfl, fin _ a same_id hq1⟩⟩
theorem ok_cr {f : Addr} {fd : FuncData} (F : Fun K "rows" "Code.rows" sCr f fd) (T : CodeC K C fI) : FnOk P w K mg base CX0 1 f fd ["self"] (spCr K C) := by
  refine F.ok (k := 0) scCr (fun vs H Q E h => ?_) (fun cdv A outer s H vs Q E hr h => ?_)
  · obtain ⟨x, us, rfl, _⟩ := h
    rfl
  · obtain ⟨x, us, rfl, ⟨dx, t, hx, ht⟩, q⟩ := h
    refine ⟨_, pss_one (ps_ret (pe_fld (pv 0) rfl)), ?_⟩
    exact ⟨_, rfl, x, C, dx, _, .ref t, rfl, hx, T.cl, T.nr, rfl, q t ht⟩
theorem ok_cl {f : Addr} {fd : FuncData} (F : Fun K "__len__" "Code.__len__" sCl f fd) (T : CodeC K C fI) (mLen : mg "len" = none) : FnOk P w K mg base CX0 1 f fd ["self"] (spCl K C) := by
  refine F.ok (k := 0) scCl (fun vs H Q E h => ?_) (fun cdv A outer s H vs Q E hr h => ?_)
  · obtain ⟨x, us, rfl, _⟩ := h
    rfl
  · obtain ⟨x, us, rfl, ⟨dx, t, hx, ht⟩, q⟩ := h
    refine ⟨_, pss_one (ps_ret (pe_callB call_len_seq (by rfl) mLen PySem.boot_len (pa_cons (pe_fld (pv 0) rfl) pa_nil))), ?_⟩
    exact ⟨_, rfl, x, C, dx, _, .ref t, rfl, hx, T.cl, T.nr, rfl, t, us, rfl, .inr ht, q⟩
theorem ok_ct {f : Addr} {fd : FuncData} (F : Fun K "__iter__" "Code.__iter__" sCt f fd) (T : CodeC K C fI) (mIt : mg "iter" = none) : FnN P w K mg base 1 f fd ["self"] (spIterN (GCode K C)) := by
  refine F.okN (k := 0) scCt (fun cdv A outer s H vs Q E hr h => ?_)
  obtain ⟨x, t, rfl, ⟨dx, us, hx, ht⟩, q⟩ := h
  refine ⟨_, pss_one (ps_ret (pe_callB call_iterT (by rfl) mIt (by decide +kernel) (pa_cons (pe_fld (pv 0) rfl) pa_nil))), ?_⟩
  refine ⟨_, rfl, x, C, dx, _, .ref t, rfl, hx, T.cl, T.nr, rfl, t, us, rfl, ht, fun it h1 h2 => q it h1 ?_⟩
  rcases h2 with h2 | h2
  · cases h2
  · exact h2
theorem ok_ce {f fT : Addr} {fd fdT : FuncData} (F : Fun K "__eq__" "Code.__eq__" sCe f fd) (T : CodeC K C fI) (mC : mg "Code" = some (.ref C))
    (GT : FnOk P w K mg base CX0 22 fT fdT ["value", "right"] (spTa K 21)) (mT : mg "is_told_alike" = some (.ref fT)) (kT : PySem.W.keepIn K (.ref fT) = true) (bT : Binds K fdT ["value", "right"] [])
    (mI : mg "isinstance" = none) : FnOk P w K mg base CX0 23 f fd ["self", "other"] (spCe K C) := by
  refine F.ok (k := 22) scCe (fun vs H Q E h => ?_) (fun cdv A outer s H vs Q E hr h => ?_)
  · obtain ⟨x, us, ts, y, rfl, _⟩ := h
    rfl
  · obtain ⟨x, us, ts, y, rfl, ⟨dx, t, hx, ht⟩, hd, hok, h⟩ := h
    refine ⟨_, pss_one (ps_ret (pe_and (pe_callB call_isi (by rfl) mI PyProof.Rows.boot_isinstance (pa_cons (pv 1) (pa_cons (pe_glob (v := .ref C) (by rfl) mC rfl) pa_nil))) (pe_one (pe_call GT hr (by rfl) mT kT bT .nil pass0 (pa_cons (pe_fld (pv 0) rfl) (pa_cons (pe_fld (pv 1) rfl) pa_nil)))))), ?_⟩
    rcases h with ⟨x2, us2, ts2, rfl, ⟨dx2, t2, hx2, ht2⟩, hd2, hok2, hdp, q⟩ | ⟨b, xs, rfl, hb, q⟩
    · refine ⟨_, rfl, _, _, _, _, true, rfl, .own C, .base (.ins hx2 T.cl T.t1 T.t2 T.t3 T.t4), T.k1, _, rfl, iteT ?_⟩
      exact ⟨_, rfl, x, C, dx, _, .ref t, rfl, hx, T.cl, T.nr, rfl, _, rfl, x2, C, dx2, _, .ref t2, rfl, hx2, T.cl, T.nr, rfl, .ref t, .ref t2, .tup ts, .tup ts2, rfl, .tup ht hd, .tup ht2 hd2, hok2, hok, hdp, q⟩
    · exact ⟨_, rfl, _, _, _, _, false, rfl, .own C, tyT hb, T.k2, _, rfl, iteF q⟩
end
end Toy


namespace Toy
open PySem PySem.Spec L2 PyProof.Rows PySem.W
/-! ### values as data: for the program and for the law -/
mutual
def ofP : PyData → Dt
  | .none => .non
  | .bool b => .bl b
  | .int i => .int i
  | .str x => .str x
  | .list _ => .opq
  | .tuple ds => .tup (ofPL ds)
  | .dict _ => .opq
def ofPL : List PyData → List Dt
  | [] => []
  | d :: ds => ofP d :: ofPL ds
end
theorem ofPL_map : ∀ ds, ofPL ds = ds.map ofP
  | [] => by simp [ofPL]
  | d :: ds => by simp [ofPL, ofPL_map ds]
mutual
inductive Pv (K : PySem.W.Frag) (H : Hp) : V → PyData → Prop
  | non : Pv K H .non .none
  | bl (b : Bool) : Pv K H (.bl b) (.bool b)
  | int (i : Int) : Pv K H (.int i) (.int i)
  | str (x : Str) : Pv K H (.str x) (.str x)
  | lst {a : Addr} {us : List V} {ds : List PyData} : H a = some (.lst us) → PvL K H us ds → Pv K H (.ref a) (.list ds)
  | tup {a : Addr} {us : List V} {ds : List PyData} : SqT K H a us → PvL K H us ds → Pv K H (.ref a) (.tuple ds)
inductive PvL (K : PySem.W.Frag) (H : Hp) : List V → List PyData → Prop
  | nil : PvL K H [] []
  | cons {v : V} {d : PyData} {vs : List V} {ds : List PyData} : Pv K H v d → PvL K H vs ds → PvL K H (v :: vs) (d :: ds)
end
mutual
theorem pvM {K : PySem.W.Frag} {H H' : Hp} (s : Same H H') : ∀ {v : V} {d : PyData}, Pv K H v d → Pv K H' v d
  | _, _, .non => .non
  | _, _, .bl b => .bl b
  | _, _, .int i => .int i
  | _, _, .str x => .str x
  | _, _, .tup h a => .tup (same_seqT s h) (pvLM s a)
  | _, _, .lst h a => .lst (s _ _ h) (pvLM s a)
theorem pvLM {K : PySem.W.Frag} {H H' : Hp} (s : Same H H') : ∀ {vs : List V} {ds : List PyData}, PvL K H vs ds → PvL K H' vs ds
  | _, _, .nil => .nil
  | _, _, .cons a b => .cons (pvM s a) (pvLM s b)
end
mutual
theorem pv_dv {K : PySem.W.Frag} {H : Hp} : ∀ {v : V} {d : PyData}, Pv K H v d → Dv K H v (ofP d)
  | _, _, .non => by simp only [ofP]; exact .non
  | _, _, .bl b => by simp only [ofP]; exact .bl b
  | _, _, .int i => by simp only [ofP]; exact .int i
  | _, _, .str x => by simp only [ofP]; exact .str x
  | _, _, .tup h a => by simp only [ofP]; exact .tup h (pv_dvL a)
  | _, _, .lst h a => by simp only [ofP]; exact .lst h
theorem pv_dvL {K : PySem.W.Frag} {H : Hp} : ∀ {vs : List V} {ds : List PyData}, PvL K H vs ds → DvL K H vs (ofPL ds)
  | _, _, .nil => by simp only [ofPL]; exact .nil
  | _, _, .cons a b => by simp only [ofPL]; exact .cons (pv_dv a) (pv_dvL b)
end
mutual
theorem pv_dp {K : PySem.W.Frag} {H : Hp} : ∀ {v : V} {d : PyData}, Pv K H v d → Dp K H v d
  | _, _, .non => .non
  | _, _, .bl b => .bl b
  | _, _, .int i => .int i
  | _, _, .str x => .str x
  | _, _, .tup h a => .tup h (pv_dpL a)
  | _, _, .lst h a => .lst (SqL.of h) (pv_dpL a)
theorem pv_dpL {K : PySem.W.Frag} {H : Hp} : ∀ {vs : List V} {ds : List PyData}, PvL K H vs ds → DpAll K H vs ds
  | _, _, .nil => .nil
  | _, _, .cons a b => .cons (pv_dp a) (pv_dpL b)
end
theorem pvl_len {K : PySem.W.Frag} {H : Hp} : ∀ {vs : List V} {ds : List PyData}, PvL K H vs ds → vs.length = ds.length
  | _, _, .nil => rfl
  | _, _, .cons _ t => congrArg Nat.succ (pvl_len t)
theorem pvl_app {K : PySem.W.Frag} {H : Hp} : ∀ {vs us : List V} {ds es : List PyData}, PvL K H vs ds → PvL K H us es → PvL K H (vs ++ us) (ds ++ es)
  | _, _, _, _, .nil, h => h
  | _, _, _, _, .cons a b, h => .cons a (pvl_app b h)
theorem pvl_get {K : PySem.W.Frag} {H : Hp} : ∀ {vs : List V} {ds : List PyData} {i : Nat} {v : V}, PvL K H vs ds → vs[i]? = some v → ∃ d, ds[i]? = some d ∧ Pv K H v d
  | _, _, 0, _, .cons a _, h => by cases h; exact ⟨_, rfl, a⟩
  | _, _, i + 1, _, .cons _ b, h => by
    obtain ⟨d, e, z⟩ := pvl_get (i := i) b (by simpa using h)
    exact ⟨d, by simpa using e, z⟩
  | _, _, _, _, .nil, h => by simp at h
theorem pvl_take {K : PySem.W.Frag} {H : Hp} : ∀ {vs : List V} {ds : List PyData} (n : Nat), PvL K H vs ds → PvL K H (vs.take n) (ds.take n)
  | _, _, 0, _ => by simpa using PvL.nil
  | _, _, n + 1, .nil => by simpa using PvL.nil
  | _, _, n + 1, .cons a b => by simpa using PvL.cons a (pvl_take n b)
theorem pvl_drop {K : PySem.W.Frag} {H : Hp} : ∀ {vs : List V} {ds : List PyData} (n : Nat), PvL K H vs ds → PvL K H (vs.drop n) (ds.drop n)
  | _, _, 0, h => by simpa using h
  | _, _, n + 1, .nil => by simpa using PvL.nil
  | _, _, n + 1, .cons a b => by simpa using pvl_drop n b
/-! ### the law's own test of a row -/
def five : List PyData := [.str "fork", .str "jump", .str "shield", .str "guard", .str "test"]
def simple : List PyData := [.tuple [.str "every"], .tuple [.str "open"], .tuple [.str "give"], .tuple [.str "none"], .tuple [.str "fail"]]
def ends3 : List PyData := [.tuple [.str "give"], .tuple [.str "none"], .tuple [.str "fail"]]
def tests2 : List PyData := [.tuple [.str "is", .str "A"], .tuple [.str "same"]]
def inE (p : PyData) (ds : List PyData) : Bool := ds.any fun z => z.eqv p
/-- a number behind i and before n -/
def rn (i n : Nat) : PyData → Bool
  | .int j => decide ((i : Int) < j) && decide (j < (n : Int))
  | _ => false
def idxP : PyData → Bool
  | .int j => decide (0 ≤ j) && decide (j ≤ 99)
  | _ => false
def notA : PyData → Bool
  | .str x => !decide (x = "A")
  | _ => false
/-- field and item rows -/
def stp : PyData → Bool
  | .tuple [q, r] => inE q [.str "field", .str "item"] && (if q.eqv (.str "item") = true then idxP r else notA r)
  | _ => false
def lw (p : PyData) (i n : Nat) : Bool := match p with
  | .tuple (q :: qs) => if inE q five = true then (if qs.length + 1 ≠ (if q.eqv (.str "test") = true then 3 else 2) then true else if rn i n (qs.getD (qs.length - 1) .none) = false then true else q.eqv (.str "test") && inE (qs.getD 0 .none) tests2) else !inE p simple && !stp p
  | _ => !inE p simple && !stp p
def lawA (n : Nat) : Nat → List PyData → Option Nat
  | _, [] => none
  | i, p :: ps => if lw p i n = true then some i else lawA n (i + 1) ps
def lawI (ps : List PyData) : Option Nat := match lawA ps.length 0 ps with
  | some i => some i
  | none => match ps.getLast? with
    | some p => if inE p ends3 = true then none else some ps.length
    | none => some ps.length
/-- a row of which both tests answer alike, and its sizes -/
structure Rw (p : PyData) : Prop where
  eq : ∀ i n, isRow (ofP p) i n = !lw p i n
  ends : ∀ i n, isRow (ofP p) i n = true → ((match wordOf (ofP p) with | some x => decide (x ∈ endsL) | none => false) = inE p ends3)
  ok : okR (ofP p)
  lay : p.canLay0 = true
  dp : p.depth ≤ 12
  dd : dep (ofP p) ≤ 12
theorem law_same {ps : List PyData} (h : ∀ p ∈ ps, Rw p) : lawI ps = firstW (ps.map ofP) := by
  have step : ∀ (n i : Nat) (ps : List PyData), (∀ p ∈ ps, Rw p) → lawA n i ps = fwA n i (ps.map ofP) := by
    intro n i ps
    induction ps generalizing i with
    | nil => intro _; rfl
    | cons p ps ih =>
      intro h
      rw [List.map_cons]
      unfold lawA fwA
      rw [(h p List.mem_cons_self).eq, ih (i + 1) fun q hq => h q (List.mem_cons_of_mem _ hq)]
      cases lw p i n <;> rfl
  unfold lawI firstW
  rw [List.length_map, step _ _ ps h]
  cases hf : fwA ps.length 0 (ps.map ofP) with
  | some i => rfl
  | none =>
    dsimp only
    unfold lastE
    rw [List.getLast?_map]
    cases hl : ps.getLast? with
    | none => rfl
    | some p =>
      have hm := List.mem_of_getLast? hl
      have hl2 : ps[ps.length - 1]? = some p := by rw [← List.getLast?_eq_getElem?]; exact hl
      have hr := fwA_none _ 0 hf (ps.length - 1) (ofP p) (by rw [List.getElem?_map, hl2]; rfl)
      have := (h p hm).ends _ _ hr
      show (if inE p ends3 = true then none else some ps.length) = (if (match wordOf (ofP p) with | some x => decide (x ∈ endsL) | none => false) = true then none else some ps.length)
      rw [this]
end Toy


namespace Toy
open PySem PySem.Spec L2 PyProof.Rows PySem.W
/-! ### the law's tests of rows -/
abbrev sRn : Stmt := top 59
abbrev sIx : Stmt := top 60
abbrev sSp : Stmt := top 61
theorem scRn : FnScope ["_law_value", "_law_at", "_law_many"] ["_law_value", "_law_at", "_law_many"] (defScope sRn) := ⟨rfl, rfl, rfl, by decide +kernel, rfl, by decide +kernel, by decide +kernel⟩
theorem scSp : FnScope ["_law_row_here"] ["_law_row_here"] (defScope sSp) := ⟨rfl, rfl, rfl, by decide +kernel, rfl, by decide +kernel, by decide +kernel⟩
abbrev NIx : List Str := ["_law_rows", "_law_many", "_law_k", "_law_row_here"]
theorem scIx2 : FnScope NIx ["_law_rows"] (defScope sIx) := ⟨rfl, rfl, rfl, by decide +kernel, rfl, by decide +kernel, by decide +kernel⟩
def spRn (K : PySem.W.Frag) : Sp := fun vs H Q _ => ∃ (v : V) (i n : Nat) (p : PyData), vs = [v, .int (i : Int), .int (n : Int)] ∧ Pv K H v p ∧ Q (.bl (rn i n p)) H
def okP (p : PyData) : Prop := p.canLay0 = true ∧ p.depth ≤ 12
def spSp (K : PySem.W.Frag) : Sp := fun vs H Q _ => ∃ (v : V) (p : PyData), vs = [v] ∧ Pv K H v p ∧ okP p ∧ ∀ H', Same H H' → Q (.bl (stp p)) H'
def spIx (K : PySem.W.Frag) : Sp := fun vs H Q _ => ∃ (a : Addr) (us : List V) (ps : List PyData), vs = [.ref a] ∧ H a = some (.lst us) ∧ PvL K H us ps ∧ (∀ p ∈ ps, okP p) ∧ ps.length ≤ 1000 ∧ ∀ H', Same H H' → Q (optI (lawI ps)) H'
theorem okP.sh {p : PyData} (h : okP p) : SeqAt.shaped p = true := by
  unfold SeqAt.shaped
  rw [h.1, Bool.true_and]
  exact decide_eq_true (Nat.le_trans h.2 (by decide))
theorem lay_mem : ∀ {ds : List PyData} {d : PyData}, PyData.canLayAll0 ds = true → d ∈ ds → d.canLay0 = true
  | e :: ds, d, h, hm => by
    simp only [PyData.canLayAll0, Bool.and_eq_true] at h
    rcases List.mem_cons.mp hm with rfl | hm
    · exact h.1
    · exact lay_mem h.2 hm
theorem depth_mem : ∀ {ds : List PyData} {d : PyData}, d ∈ ds → d.depth ≤ PyData.depthAll ds
  | e :: ds, d, hm => by
    simp only [PyData.depthAll]
    rcases List.mem_cons.mp hm with rfl | hm
    · omega
    · have := depth_mem hm
      omega
theorem okP.mem {ds : List PyData} {d : PyData} (h : okP (.tuple ds)) (hm : d ∈ ds) : okP d := by
  obtain ⟨h1, h2⟩ := h
  simp only [PyData.canLay0] at h1
  simp only [PyData.depth] at h2
  have := depth_mem hm
  exact ⟨lay_mem h1 hm, by omega⟩
/-- texts of a written list -/
theorem dp_strs (K : PySem.W.Frag) (H : Hp) (xs : List Str) : DpAll K H (xs.map V.str) (xs.map PyData.str) := dpStrs xs
theorem isF {p : PyData} : (match ofP p with | .tup _ => true | _ => false) = (match p with | .tuple _ => true | _ => false) := by
  cases p <;> simp [ofP]
section
variable {P : Program} {w : World} {K : PySem.W.Frag} {mg : Str → Option Value} {base : Heap}
theorem ok_rn {f : Addr} {fd : FuncData} (F : Fun K "_law_is_right_number" "_law_is_right_number" sRn f fd) (mI : mg "isinstance" = none) (mInt : mg "int" = none) (mB : mg "bool" = none) : FnOk P w K mg base CX0 1 f fd ["_law_value", "_law_at", "_law_many"] (spRn K) := by
  refine F.ok (k := 0) scRn (fun vs H Q E h => ?_) (fun cdv A outer s H vs Q E hr h => ?_)
  · obtain ⟨v, i, n, p, rfl, _⟩ := h
    rfl
  · obtain ⟨v, i, n, p, rfl, hv, q⟩ := h
    refine ⟨_, pss_one (ps_ret (pe_and (pe_callB call_isi (by rfl) mI PyProof.Rows.boot_isinstance (pa_cons (pv 0) (pa_cons (pe_bltn (v := .ty "int") (by rfl) mInt (by decide +kernel) rfl) pa_nil)))
      (pe_and (pe_not (pe_callB call_isi (by rfl) mI PyProof.Rows.boot_isinstance (pa_cons (pv 0) (pa_cons (pe_bltn (v := .ty "bool") (by rfl) mB (by decide +kernel) rfl) pa_nil)))) (pe_one (pe_chain op_lt op_lt (pv 1) (pv 0) (pv 2)))))), ?_⟩
    refine ⟨_, rfl, isI (pv_dv hv) ⟨_, rfl, ?_⟩⟩
    cases hv with
    | non => exact iteF q
    | str x => exact iteF q
    | tup _ _ => exact iteF q
    | lst _ _ => exact iteF q
    | bl b => exact iteT ⟨_, rfl, isB (.bl b) ⟨_, rfl, _, rfl, iteF q⟩⟩
    | int j =>
      refine iteT ⟨_, rfl, isB (.int j) ⟨_, rfl, _, rfl, iteT ⟨_, rfl, _, rfl, _, _, rfl, rfl, _, rfl, ?_⟩⟩⟩
      have e : rn i n (.int j) = (decide ((i : Int) < j) && decide (j < (n : Int))) := rfl
      rw [e] at q
      refine ite2 (fun c5 => ?_) (fun c5 => ?_)
      · rw [c5, Bool.true_and] at q
        exact ⟨_, rfl, _, _, rfl, rfl, q⟩
      · have c5 : decide ((i : Int) < j) = false := by simpa using c5
        rw [c5, Bool.false_and] at q
        exact q
theorem ok_sp {f : Addr} {fd : FuncData} (F : Fun K "_law_is_step" "_law_is_step" sSp f fd) (mI : mg "isinstance" = none) (mInt : mg "int" = none) (mB : mg "bool" = none) (mTu : mg "tuple" = none) (mS : mg "str" = none) (mLen : mg "len" = none) : FnOk P w K mg base CX0 1 f fd ["_law_row_here"] (spSp K) := by
  refine F.ok (k := 0) scSp (fun vs H Q E h => ?_) (fun cdv A outer s H vs Q E hr h => ?_)
  · obtain ⟨v, p, rfl, _⟩ := h
    rfl
  · obtain ⟨v, p, rfl, hv, hok, q⟩ := h
    have hu : (A.deeper (envOfC "_law_is_step" (defScope sSp) s.heap.objs.size f cdv)).units + 65 < cLine := by
      have := hr.un
      omega
    have hu4 : (A.deeper (envOfC "_law_is_step" (defScope sSp) s.heap.objs.size f cdv)).units + 64 < cLine := by omega
    refine ⟨_, pss_cons (ps_if (PW.pt (pw_or (pt_not (pt_val (pe_callB call_isi (by rfl) mI PyProof.Rows.boot_isinstance (pa_cons (pv 0) (pa_cons (pe_bltn (v := .ty "tuple") (by rfl) mTu (by decide +kernel) rfl) pa_nil)))))
        (pw_or (pt_cmpR op_ne (pe_callB call_len_seq (by rfl) mLen PySem.boot_len (pa_cons (pv 0) pa_nil)) pe_int (nomark _)) (pw_or1 (pt_cmpR (op_notInD hu) (pe_ix ix_tup (pv 0) pe_int (fun _ _ => rfl)) (pe_lst (pa_cons pe_str (pa_cons pe_str pa_nil))) (by rfl)))))) (pss_one (ps_ret pe_bl)) pss_nil)
      (pss_cons (ps_if (pt_cmpR (op_eqD hu4) (pe_ix ix_tup (pv 0) pe_int (fun _ _ => rfl)) pe_str (nomark _))
        (pss_one (ps_ret (pe_and (pe_callB call_isi (by rfl) mI PyProof.Rows.boot_isinstance (pa_cons (pe_ix ix_tup (pv 0) pe_int (fun _ _ => rfl)) (pa_cons (pe_bltn (v := .ty "int") (by rfl) mInt (by decide +kernel) rfl) pa_nil)))
          (pe_and (pe_not (pe_callB call_isi (by rfl) mI PyProof.Rows.boot_isinstance (pa_cons (pe_ix ix_tup (pv 0) pe_int (fun _ _ => rfl)) (pa_cons (pe_bltn (v := .ty "bool") (by rfl) mB (by decide +kernel) rfl) pa_nil)))) (pe_one (pe_chain op_le op_le pe_int (pe_ix ix_tup (pv 0) pe_int (fun _ _ => rfl)) pe_int)))))) pss_nil)
      (pss_one (ps_ret (pe_and (pe_callB call_isi (by rfl) mI PyProof.Rows.boot_isinstance (pa_cons (pe_ix ix_tup (pv 0) pe_int (fun _ _ => rfl)) (pa_cons (pe_bltn (v := .ty "str") (by rfl) mS (by decide +kernel) rfl) pa_nil))) (pe_one (pe_cmpR op_ne (pe_ix ix_tup (pv 0) pe_int (fun _ _ => rfl)) pe_str (nomark _))))))), ?_⟩
    refine ⟨_, rfl, isT (pv_dv hv) ⟨_, rfl, ?_⟩⟩
    cases hv with
    | non => exact iteT (iteT (q H same_id))
    | bl b => exact iteT (iteT (q H same_id))
    | int i => exact iteT (iteT (q H same_id))
    | str x => exact iteT (iteT (q H same_id))
    | lst _ _ => exact iteT (iteT (q H same_id))
    | @tup av xs l hseq hall =>
      have hl := pvl_len hall
      refine iteF ⟨_, rfl, av, xs, rfl, .inr hseq, rfl, _, rfl, ?_⟩
      by_cases h2 : l.length = 2
      · rw [decide_eq_true (show V.int (xs.length : Nat) = V.int 2 by rw [hl, h2]; rfl)]
        obtain ⟨p0, p1, rfl⟩ : ∃ a b, l = [a, b] := by
          match l, h2 with
          | [a, b], _ => exact ⟨a, b, rfl⟩
        cases hall with
        | @cons v0 _ vs0 _ hv0 hvs0 =>
          cases hvs0 with
          | @cons v1 _ vs1 _ hv1 hvs1 =>
            cases hvs1
            have k0 := hok.mem (d := p0) (by simp)
            have k1 := hok.mem (d := p1) (by simp)
            refine iteF ⟨_, rfl, av, _, 0, v0, rfl, rfl, hseq, at_0 _ _, few (by show 2 ≤ 1000; decide), fun L nL => ?_⟩
            have s1 := same_new (u := .lst [.str "field", .str "item"]) (same_id (H := H)) nL
            have hL : (upd H L (.lst [V.str "field", .str "item"])) L = some (.lst [V.str "field", .str "item"]) := upd_same
            generalize upd H L (.lst [V.str "field", .str "item"]) = H1 at s1 hL ⊢
            have sq1 := same_seqT s1 hseq
            refine ⟨p0, [.str "field", .str "item"], pv_dp (pvM s1 hv0), .lst (SqL.of hL) (.cons (.str _) (.cons (.str _) .nil)), k0.sh, by decide +kernel, _, rfl, ?_⟩
            have eS : stp (.tuple [p0, p1]) = (inE p0 [.str "field", .str "item"] && (if p0.eqv (.str "item") = true then idxP p1 else notA p1)) := rfl
            rw [eS] at q
            cases hin : inE p0 [.str "field", .str "item"] with
            | false =>
              rw [hin, Bool.false_and] at q
              unfold inE at hin
              rw [hin]
              exact iteT (q _ s1)
            | true =>
              rw [hin, Bool.true_and] at q
              unfold inE at hin
              rw [hin]
              refine iteF (nx_run ?_)
              dsimp only
              refine ⟨_, rfl, av, _, 0, v0, rfl, rfl, sq1, at_0 _ _, p0, .str "item", pv_dp (pvM s1 hv0), .str _, k0.sh, by decide +kernel, _, rfl, ?_⟩
              have at1 : atI [v0, v1] (1 : Int) = some v1 := atI_nat (j := 1) rfl
              refine ite2 (fun c => ?_) (fun c => ?_)
              · rw [if_pos c] at q
                refine ret_run ⟨_, rfl, av, _, 1, v1, rfl, rfl, sq1, at1, isI (pv_dv (pvM s1 hv1)) ⟨_, rfl, ?_⟩⟩
                cases hv1 with
                | non => exact iteF (q _ s1)
                | str x => exact iteF (q _ s1)
                | tup _ _ => exact iteF (q _ s1)
                | lst _ _ => exact iteF (q _ s1)
                | bl b => exact iteT ⟨_, rfl, av, _, 1, _, rfl, rfl, sq1, at1, isB (.bl b) ⟨_, rfl, _, rfl, iteF (q _ s1)⟩⟩
                | int j =>
                  refine iteT ⟨_, rfl, av, _, 1, _, rfl, rfl, sq1, at1, isB (.int j) ⟨_, rfl, _, rfl, iteT ⟨_, rfl, av, _, 1, _, rfl, rfl, sq1, at1, _, _, rfl, rfl, _, rfl, ?_⟩⟩⟩
                  have e : idxP (.int j) = (decide (0 ≤ j) && decide (j ≤ 99)) := rfl
                  rw [e] at q
                  refine ite2 (fun c5 => ?_) (fun c5 => ?_)
                  · rw [c5, Bool.true_and] at q
                    exact ⟨_, _, rfl, rfl, q _ s1⟩
                  · have c5 : decide ((0 : Int) ≤ j) = false := by simpa using c5
                    rw [c5, Bool.false_and] at q
                    exact q _ s1
              · rw [if_neg c] at q
                refine nx_run ?_
                dsimp only
                refine (ret_run ⟨_, rfl, av, _, 1, v1, rfl, rfl, sq1, at1, isS (pv_dv (pvM s1 hv1)) ⟨_, rfl, ?_⟩⟩)
                cases hv1 with
                | non => exact iteF (q _ s1)
                | int x => exact iteF (q _ s1)
                | bl x => exact iteF (q _ s1)
                | tup _ _ => exact iteF (q _ s1)
                | lst _ _ => exact iteF (q _ s1)
                | str x =>
                  refine iteT ⟨_, rfl, av, _, 1, _, rfl, rfl, sq1, at1, rfl, ?_⟩
                  rw [dec_s]
                  exact q _ s1
      · rw [decide_eq_false (show ¬ V.int (xs.length : Nat) = V.int 2 by
          intro z
          have z := V.int.inj z
          omega)]
        have e : stp (.tuple l) = false := by
          match l, h2 with
          | [], _ => rfl
          | [_], _ => rfl
          | [_, _], h => exact absurd rfl h
          | _ :: _ :: _ :: _, _ => rfl
        rw [e] at q
        exact iteT (iteT (q H same_id))
end
end Toy


namespace Toy
open PySem PySem.Spec L2 PyProof.Rows PySem.W
/-! ### the law's index of the first wrong row -/
theorem lawA_step {n : Nat} : ∀ (ps : List PyData) (i j : Nat) (p : PyData), ps[j]? = some p → lawA n i (ps.take j) = none → lw p (i + j) n = true → lawA n i ps = some (i + j)
  | [], _, _, _, h, _, _ => by simp at h
  | p0 :: ps, i, 0, p, h, _, hr => by
    cases h
    unfold lawA
    rw [show i + 0 = i from rfl] at hr
    rw [hr]
    rfl
  | p0 :: ps, i, j + 1, p, h, hn, hr => by
    rw [List.take_succ_cons] at hn
    unfold lawA at hn ⊢
    split at hn
    · cases hn
    · rename_i c
      rw [if_neg c]
      have e : i + (j + 1) = (i + 1) + j := by omega
      rw [e] at hr ⊢
      exact lawA_step ps (i + 1) j p (by simpa using h) hn hr
theorem lawA_more {n : Nat} : ∀ (ps : List PyData) (i j : Nat) (p : PyData), ps[j]? = some p → lawA n i (ps.take j) = none → lw p (i + j) n = false → lawA n i (ps.take (j + 1)) = none
  | [], _, _, _, h, _, _ => by simp at h
  | p0 :: ps, i, 0, p, h, _, hr => by
    cases h
    rw [List.take_succ_cons, List.take_zero]
    unfold lawA
    rw [show i + 0 = i from rfl] at hr
    rw [hr]
    rfl
  | p0 :: ps, i, j + 1, p, h, hn, hr => by
    rw [List.take_succ_cons] at hn ⊢
    unfold lawA at hn ⊢
    split at hn
    · cases hn
    · rename_i c
      rw [if_neg c]
      have e : i + (j + 1) = (i + 1) + j := by omega
      rw [e] at hr
      exact lawA_more ps (i + 1) j p (by simpa using h) hn hr
theorem ifl_valS {c : TT} {a b : TS} {v : Bool} {D : Ends} {σ : L2.St} {H : Hp} (h : ∀ Q : Bool → Hp → Prop, (∀ H', Same H H' → Q v H') → c σ H Q) (qt : v = true → ∀ H', Same H H' → a D σ H') (qf : v = false → ∀ H', Same H H' → b D σ H') : tIfS c a b D σ H := by
  refine h _ fun H' s => ?_
  cases v with
  | true => exact iteT (qt rfl H' s)
  | false => exact iteF (qf rfl H' s)
theorem tand_valS {t u : TT} {b c : Bool} {σ : L2.St} {H : Hp} {Q : Bool → Hp → Prop} (h1 : ∀ Q : Bool → Hp → Prop, (∀ H', Same H H' → Q b H') → t σ H Q) (h2 : b = true → ∀ H1, Same H H1 → ∀ Q : Bool → Hp → Prop, (∀ H', Same H1 H' → Q c H') → u σ H1 Q) (q : ∀ H', Same H H' → Q (b && c) H') : tAnd t u σ H Q := by
  refine h1 _ fun H1 s1 => ?_
  cases b with
  | true => exact iteT (h2 rfl H1 s1 _ fun H2 s2 => q H2 (s1.trans s2))
  | false => exact iteF (q H1 s1)
theorem tor_valS {t u : TT} {b c : Bool} {σ : L2.St} {H : Hp} {Q : Bool → Hp → Prop} (h1 : ∀ Q : Bool → Hp → Prop, (∀ H', Same H H' → Q b H') → t σ H Q) (h2 : b = false → ∀ H1, Same H H1 → ∀ Q : Bool → Hp → Prop, (∀ H', Same H1 H' → Q c H') → u σ H1 Q) (q : ∀ H', Same H H' → Q (b || c) H') : tOr t u σ H Q := by
  refine h1 _ fun H1 s1 => ?_
  cases b with
  | true => exact iteT (q H1 s1)
  | false => exact iteF (h2 rfl H1 s1 _ fun H2 s2 => q H2 (s1.trans s2))
def tupB : PyData → Bool
  | .tuple _ => true
  | _ => false
def nilB : PyData → Bool
  | .tuple [] => true
  | _ => false
def fiveB : PyData → Bool
  | .tuple (q :: _) => inE q five
  | _ => false
theorem isT_p (p : PyData) : isTup (ofP p) = tupB p := by cases p <;> rfl
theorem eq_nil (p : PyData) : p.eqv (.tuple []) = nilB p := by
  cases p with
  | tuple ds => cases ds <;> simp [PyData.eqv, PyData.eqvAll, nilB]
  | _ => simp [PyData.eqv, nilB]
theorem lw_cons (q : PyData) (qs : List PyData) (i n : Nat) : lw (.tuple (q :: qs)) i n = (if inE q five = true then (if qs.length + 1 ≠ (if q.eqv (.str "test") = true then 3 else 2) then true else if rn i n (qs.getD (qs.length - 1) .none) = false then true else q.eqv (.str "test") && inE (qs.getD 0 .none) tests2) else !inE (.tuple (q :: qs)) simple && !stp (.tuple (q :: qs))) := rfl
theorem lw_odd {p : PyData} (h : (!tupB p || (nilB p || !fiveB p)) = true) (i n : Nat) : lw p i n = (!inE p simple && !stp p) := by
  cases p with
  | tuple ds =>
    cases ds with
    | nil => rfl
    | cons q qs =>
      have h : (!fiveB (.tuple (q :: qs))) = true := h
      have h : inE q five = false := by
        have : fiveB (.tuple (q :: qs)) = inE q five := rfl
        rw [this] at h
        simpa using h
      rw [lw_cons, if_neg (by rw [h]; exact Bool.false_ne_true)]
  | _ => rfl
theorem lw_five {p : PyData} (h : (!tupB p || (nilB p || !fiveB p)) = false) : ∃ q qs, p = .tuple (q :: qs) ∧ inE q five = true := by
  cases p with
  | tuple ds =>
    cases ds with
    | nil => cases h
    | cons q qs =>
      have h : (!fiveB (.tuple (q :: qs))) = false := h
      exact ⟨q, qs, rfl, by
        have e : fiveB (.tuple (q :: qs)) = inE q five := rfl
        rw [e] at h
        simpa using h⟩
  | _ => cases h
theorem neLen (n m : Nat) : (!decide (V.int (n : Int) = V.int (m : Int))) = decide (n ≠ m) := by
  by_cases h : n = m
  · subst h
    simp
  · have hne : ¬ V.int (n : Int) = V.int (m : Int) := fun z => h (by injection z with z; omega)
    rw [decide_eq_false hne, decide_eq_true h]
    rfl
theorem at_end {v : V} {vs : List V} : atI (v :: vs) (-1) = (v :: vs)[vs.length]? := by
  unfold atI
  have e : ixN (v :: vs).length (-1) = some vs.length := by
    unfold ixN
    rw [if_neg (by decide), if_pos (by rw [List.length_cons]; omega)]
    congr 1
    rw [List.length_cons]
    omega
  rw [e]
  rfl
theorem dp_same {K : PySem.W.Frag} {H H' : Hp} (s : Same H H') {v : V} {p : PyData} (h : Pv K H v p) : Dp K H' v p := pv_dp (pvM s h)
section
variable {P : Program} {w : World} {K : PySem.W.Frag} {mg : Str → Option Value} {base : Heap}
theorem ok_ix {f fN fS : Addr} {fd fdN fdS : FuncData} (F : Fun K "_law_index" "_law_index" sIx f fd)
    (GN : FnOk P w K mg base CX0 1 fN fdN ["_law_value", "_law_at", "_law_many"] (spRn K)) (mN : mg "_law_is_right_number" = some (.ref fN)) (kN : PySem.W.keepIn K (.ref fN) = true) (bN : Binds K fdN ["_law_value", "_law_at", "_law_many"] [])
    (GS : FnOk P w K mg base CX0 1 fS fdS ["_law_row_here"] (spSp K)) (mS : mg "_law_is_step" = some (.ref fS)) (kS : PySem.W.keepIn K (.ref fS) = true) (bS : Binds K fdS ["_law_row_here"] [])
    (mI : mg "isinstance" = none) (mTu : mg "tuple" = none) (mLen : mg "len" = none) (mRange : mg "range" = none) : FnOk P w K mg base CX0 2 f fd ["_law_rows"] (spIx K) := by
  refine F.ok (k := 1) scIx2 (fun vs H Q E h => ?_) (fun cdv A outer s H vs Q E hr h => ?_)
  · obtain ⟨a, us, ps, rfl, _⟩ := h
    rfl
  · obtain ⟨a, us, ps, rfl, ha, hd, hok, hlen, q⟩ := h
    have hu : (A.deeper (envOfC "_law_index" (defScope sIx) s.heap.objs.size f cdv)).units + 65 < cLine := by
      have := hr.un
      omega
    have hu4 : (A.deeper (envOfC "_law_index" (defScope sIx) s.heap.objs.size f cdv)).units + 64 < cLine := by omega
    have e16 : sizeLine = 16777216 := by decide
    refine ⟨_, pss_cons (ps_set (i := 1) scIx2.nd rfl (Or.inl rfl) (pe_callB call_len_seq (by rfl) mLen PySem.boot_len (pa_cons (pv 0) pa_nil)))
      (pss_cons (ps_for PassesOwn.never rfl (pi_range1 (by rfl) mRange (pa_cons (pv 1) pa_nil)) (pg_name (i := 2) scIx2.nd rfl (Or.inl rfl))
        (pss_cons (ps_set (i := 3) scIx2.nd rfl (Or.inl rfl) (pe_ix ix_list (pv 0) (pv 2) (fun _ _ => rfl)))
        (pss_one (ps_if (PW.pt (pw_or (pt_not (pt_val (pe_callB call_isi (by rfl) mI PyProof.Rows.boot_isinstance (pa_cons (pv 3) (pa_cons (pe_bltn (v := .ty "tuple") (by rfl) mTu (by decide +kernel) rfl) pa_nil)))))
            (pw_or (pt_cmpR (op_eqD hu4) (pv 3) (pe_tup pa_nil) (nomark _)) (pw_or1 (pt_cmpR (op_notInD hu) (pe_ix ix_tup (pv 3) pe_int (fun _ _ => rfl)) (pe_lst (pa_cons pe_str (pa_cons pe_str (pa_cons pe_str (pa_cons pe_str (pa_cons pe_str pa_nil)))))) (by rfl))))))
          (pss_one (ps_if (PW.pt (pw_and (pt_cmpR (op_notInD hu) (pv 3) (pe_lst (pa_cons (pe_tup (pa_cons pe_str pa_nil)) (pa_cons (pe_tup (pa_cons pe_str pa_nil)) (pa_cons (pe_tup (pa_cons pe_str pa_nil)) (pa_cons (pe_tup (pa_cons pe_str pa_nil)) (pa_cons (pe_tup (pa_cons pe_str pa_nil)) pa_nil)))))) (by rfl))
              (pw_and1 (pt_not (pt_val (pe_call GS hr (by rfl) mS kS bS .nil pass0 (pa_cons (pv 3) pa_nil))))))) (pss_one (ps_ret (pv 2))) pss_nil))
          (pss_one (ps_if (PW.pt (pw_or (pt_cmpR op_ne (pe_callB call_len_seq (by rfl) mLen PySem.boot_len (pa_cons (pv 3) pa_nil)) (pe_ifExp (pt_cmpR (op_eqD hu4) (pe_ix ix_tup (pv 3) pe_int (fun _ _ => rfl)) pe_str (nomark _)) pe_int pe_int) (nomark _))
              (pw_or1 (pt_not (pt_val (pe_call GN hr (by rfl) mN kN bN .nil pass0 (pa_cons (pe_ix ix_tup (pv 3) (pe_un un_neg pe_int) (fun _ _ => rfl)) (pa_cons (pv 2) (pa_cons (pv 1) pa_nil)))))))))
            (pss_one (ps_ret (pv 2)))
            (pss_one (ps_if (PW.pt (pw_and (pt_cmpR (op_eqD hu4) (pe_ix ix_tup (pv 3) pe_int (fun _ _ => rfl)) pe_str (nomark _)) (pw_and1 (pt_cmpR (op_inD hu) (pe_ix ix_tup (pv 3) pe_int (fun _ _ => rfl)) (pe_lst (pa_cons (pe_tup (pa_cons pe_str (pa_cons pe_str pa_nil))) (pa_cons (pe_tup (pa_cons pe_str pa_nil)) pa_nil))) (by rfl)))))
              (pss_one (ps_ret (pv 2))) pss_nil))))))))
      (pss_one (ps_ret (pe_ifExp (PW.pt (pw_or (pt_cmpR op_eq (pv 1) pe_int (nomark _)) (pw_or1 (pt_cmpR (op_notInD hu) (pe_ix ix_list (pv 0) (pe_un un_neg pe_int) (fun _ _ => rfl)) (pe_lst (pa_cons (pe_tup (pa_cons pe_str pa_nil)) (pa_cons (pe_tup (pa_cons pe_str pa_nil)) (pa_cons (pe_tup (pa_cons pe_str pa_nil)) pa_nil)))) (by rfl))))) (pv 1) pe_non)))), ?_⟩
    have hul := pvl_len hd
    refine asg_run ⟨_, rfl, a, us, rfl, .inl (SqL.of ha), ?_⟩
    refine ⟨_, rfl, (us.length : Int), rfl, by omega, by omega, ?_⟩
    refine for_range (lo := 0) (n := (us.length : Int).toNat) (fun i σ H' => ∃ o2 o3 : Option V, σ = [some (.ref a), some (.int (us.length : Int)), o2, o3] ∧ Same H H' ∧ lawA ps.length 0 (ps.take i) = none) ⟨_, _, rfl, same_id, rfl⟩ ?_ ?_
    · rintro i σ H1 hi ⟨o2, o3, rfl, s1, hn⟩
      rw [Int.toNat_natCast] at hi
      obtain ⟨v, hv⟩ : ∃ v, us[i]? = some v := ⟨us[i], List.getElem?_eq_getElem hi⟩
      obtain ⟨p, hp, hvp⟩ := pvl_get hd hv
      have hokp := hok p (List.mem_of_getElem? hp)
      have hat : atI us (((0 : Int) + (i : Nat))) = some v := by
        rw [Int.zero_add]
        exact atI_nat hv
      have wrong : lw p i ps.length = true → ∀ H', Same H H' → Q (.int ((0 : Int) + (i : Nat))) H' := fun hw H' s' => by
        have e := lawA_step (n := ps.length) ps 0 i p hp hn (by rw [Nat.zero_add]; exact hw)
        have e2 : lawI ps = some i := by
          unfold lawI
          rw [e, Nat.zero_add]
        rw [e2] at q
        have z := q H' s'
        rw [Int.zero_add]
        exact z
      have right : lw p i ps.length = false → ∀ (o2 o3 : Option V) (H' : Hp), Same H H' → ∃ p2 p3 : Option V, [some (V.ref a), some (.int (us.length : Int)), o2, o3] = [some (.ref a), some (.int (us.length : Int)), p2, p3] ∧ Same H H' ∧ lawA ps.length 0 (ps.take (i + 1)) = none := fun hw o2 o3 H' s' => ⟨o2, o3, rfl, s', lawA_more ps 0 i p hp hn (by rw [Nat.zero_add]; exact hw)⟩
      refine asg_run ⟨_, rfl, _, rfl, a, us, _, v, rfl, rfl, SqL.of (s1 _ _ ha), hat, ?_⟩
      refine ifl_valS (v := !tupB p || (nilB p || !fiveB p)) (fun Q' kk => ?_) (fun hb H2 s2 => ?_) (fun hb H2 s2 => ?_)
      · refine tor_valS (b := !tupB p) (c := nilB p || !fiveB p) (fun Q' kk => ?_) (fun hb1 H2 s2 Q' kk => ?_) kk
        · refine ⟨_, rfl, isT (pv_dv (pvM s1 hvp)) ⟨_, rfl, ?_⟩⟩
          rw [isT_p]
          exact kk _ same_id
        · refine tor_valS (b := nilB p) (c := !fiveB p) (fun Q' kk => ?_) (fun hb2 H3 s3 Q' kk => ?_) kk
          · refine ⟨_, rfl, few (by show 0 ≤ 1000; decide), fun T nT => ?_⟩
            have sT := same_new (u := .tup []) (same_id (H := H2)) nT
            refine ⟨p, .tuple [], dp_same (s1.trans (s2.trans sT)) hvp, .tup (SqT.of upd_same) .nil, hokp.sh, by decide +kernel, _, rfl, ?_⟩
            rw [eq_nil]
            exact kk _ sT
          · cases hvp with
            | @tup av xs l hseq hall =>
              cases hall with
              | nil => cases hb2
              | @cons v0 p0 vs0 ps0 hv0 hvs0 =>
                have s13 := s1.trans (s2.trans s3)
                refine ⟨_, rfl, av, _, 0, v0, rfl, rfl, same_seqT s13 hseq, at_0 _ _, few (by show 5 ≤ 1000; decide), fun L nL => ?_⟩
                have sL := same_new (u := .lst [.str "fork", .str "jump", .str "shield", .str "guard", .str "test"]) (same_id (H := H3)) nL
                refine ⟨p0, five, dp_same (s13.trans sL) hv0, .lst (SqL.of upd_same) (.cons (.str _) (.cons (.str _) (.cons (.str _) (.cons (.str _) (.cons (.str _) .nil))))), (hokp.mem (d := p0) (by simp)).sh, by decide +kernel, _, rfl, kk _ sL⟩
            | _ => cases hb1
      · have e := lw_odd hb i ps.length
        have s12 := s1.trans s2
        refine ifl_valS (v := !inE p simple && !stp p) (fun Q' kk => ?_) (fun hw H3 s3 => ?_) (fun hw H3 s3 => ?_)
        · refine tand_valS (b := !inE p simple) (c := !stp p) (fun Q' kk => ?_) (fun _ H3 s3 Q' kk => ?_) kk
          · refine ⟨_, rfl, few (by show 1 ≤ 1000; decide), fun q1 n1 => ⟨few (by show 1 ≤ 1000; decide), fun q2 n2 => ⟨few (by show 1 ≤ 1000; decide), fun q3 n3 => ⟨few (by show 1 ≤ 1000; decide), fun q4 n4 => ⟨few (by show 1 ≤ 1000; decide), fun q5 n5 => ⟨few (by show 5 ≤ 1000; decide), fun L nL => ?_⟩⟩⟩⟩⟩⟩
            have t5 := same_new (u := .lst [.ref q1, .ref q2, .ref q3, .ref q4, .ref q5]) (same_id (H := _)) nL
            have t4 := same_new (u := .tup [.str "fail"]) (same_id (H := _)) n5
            have t3 := same_new (u := .tup [.str "none"]) (same_id (H := _)) n4
            have t2 := same_new (u := .tup [.str "give"]) (same_id (H := _)) n3
            have t1 := same_new (u := .tup [.str "open"]) (same_id (H := _)) n2
            have t0 := same_new (u := .tup [.str "every"]) (same_id (H := H2)) n1
            have w1 := (t1.trans (t2.trans (t3.trans (t4.trans t5)))) _ _ upd_same
            have w2 := (t2.trans (t3.trans (t4.trans t5))) _ _ upd_same
            have w3 := (t3.trans (t4.trans t5)) _ _ upd_same
            have w4 := (t4.trans t5) _ _ upd_same
            have w5 := t5 _ _ upd_same
            have sA := t0.trans (t1.trans (t2.trans (t3.trans (t4.trans t5))))
            refine ⟨p, simple, dp_same (s12.trans sA) hvp, .lst (SqL.of upd_same) (.cons (.tup (SqT.of w1) (.cons (.str _) .nil)) (.cons (.tup (SqT.of w2) (.cons (.str _) .nil)) (.cons (.tup (SqT.of w3) (.cons (.str _) .nil)) (.cons (.tup (SqT.of w4) (.cons (.str _) .nil)) (.cons (.tup (SqT.of w5) (.cons (.str _) .nil)) .nil))))), hokp.sh, by decide +kernel, _, rfl, kk _ sA⟩
          · exact ⟨_, rfl, v, p, rfl, pvM (s12.trans s3) hvp, hokp, fun H4 s4 => ⟨_, rfl, kk _ s4⟩⟩
        · exact ⟨_, rfl, wrong (by rw [e]; exact hw) _ (s12.trans s3)⟩
        · exact right (by rw [e]; exact hw) (some (.int ((0 : Int) + (i : Nat)))) (some v) _ (s12.trans s3)
      · obtain ⟨q0, qs, rfl, hq5⟩ := lw_five hb
        have s12 := s1.trans s2
        have e : lw (.tuple (q0 :: qs)) i ps.length = (if qs.length + 1 ≠ (if q0.eqv (.str "test") = true then 3 else 2) then true else if rn i ps.length (qs.getD (qs.length - 1) .none) = false then true else q0.eqv (.str "test") && inE (qs.getD 0 .none) tests2) := by
          rw [lw_cons, if_pos hq5]
        cases hvp with
        | @tup av xs l hseq hall =>
          cases hall with
          | @cons v0 _ vs0 _ hv0 hvs0 =>
            have hl0 := pvl_len hvs0
            have k0 := hokp.mem (d := q0) (by simp)
            have hsh0 : SeqAt.shaped (PyData.str "test") = true := by decide +kernel
            refine ifl_valS (v := decide (qs.length + 1 ≠ (if q0.eqv (.str "test") = true then 3 else 2)) || !rn i ps.length (qs.getD (qs.length - 1) .none)) (fun Q' kk => ?_) (fun hw H3 s3 => ?_) (fun hw H3 s3 => ?_)
            · refine tor_valS (b := decide (qs.length + 1 ≠ (if q0.eqv (.str "test") = true then 3 else 2))) (c := !rn i ps.length (qs.getD (qs.length - 1) .none)) (fun Q' kk => ?_) (fun hb1 H3 s3 Q' kk => ?_) kk
              · have s12' := s12
                refine ⟨_, rfl, av, _, rfl, .inr (same_seqT s12 hseq), _, rfl, av, _, 0, v0, rfl, rfl, same_seqT s12 hseq, at_0 _ _, q0, .str "test", pv_dp (pvM s12 hv0), .str _, k0.sh, hsh0, _, rfl, ?_⟩
                refine ite2 (fun c => ?_) (fun c => ?_)
                · rw [if_pos c] at kk
                  have z := neLen (v0 :: vs0).length 3
                  rw [List.length_cons, hl0] at z
                  refine ⟨rfl, _, rfl, ?_⟩
                  have kz := kk _ same_id
                  rw [← z, ← hl0] at kz
                  exact kz
                · rw [if_neg c] at kk
                  have z := neLen (v0 :: vs0).length 2
                  rw [List.length_cons, hl0] at z
                  refine ⟨rfl, _, rfl, ?_⟩
                  have kz := kk _ same_id
                  rw [← z, ← hl0] at kz
                  exact kz
              · have hb1 := of_decide_eq_false hb1
                have hb1 := Decidable.not_not.mp hb1
                have hq1 : 1 ≤ qs.length := by
                  by_cases c : q0.eqv (.str "test") = true
                  · rw [if_pos c] at hb1; omega
                  · rw [if_neg c] at hb1; omega
                have hv1 : (v0 :: vs0)[vs0.length]? = vs0[vs0.length - 1]? := by
                  obtain ⟨j, hj⟩ : ∃ j, vs0.length = j + 1 := ⟨vs0.length - 1, by omega⟩
                  rw [hj]
                  rfl
                obtain ⟨vl, hvl⟩ : ∃ vl, vs0[vs0.length - 1]? = some vl := ⟨_, List.getElem?_eq_getElem (by omega)⟩
                obtain ⟨pl, hpl, hvpl⟩ := pvl_get hvs0 hvl
                have hg : qs.getD (qs.length - 1) .none = pl := by
                  rw [List.getD_eq_getElem?_getD, ← hl0, hpl]
                  rfl
                rw [hg] at kk
                refine ⟨_, rfl, _, rfl, av, _, _, vl, rfl, rfl, same_seqT (s12.trans s3) hseq, (by rw [at_end, hv1, hvl]), _, rfl, _, rfl, vl, i, ps.length, pl, (by rw [Int.zero_add, hul]; rfl), pvM (s12.trans s3) hvpl, _, rfl, kk _ same_id⟩
            · refine ⟨_, rfl, wrong ?_ _ (s12.trans s3)⟩
              rw [e]
              by_cases c : qs.length + 1 ≠ (if q0.eqv (.str "test") = true then 3 else 2)
              · rw [if_pos c]
              · rw [if_neg c]
                rw [decide_eq_false c, Bool.false_or] at hw
                rw [if_pos (by simpa using hw)]
            · have c1 : ¬ qs.length + 1 ≠ (if q0.eqv (.str "test") = true then 3 else 2) := fun c => by
                rw [decide_eq_true c] at hw
                cases hw
              rw [decide_eq_false c1, Bool.false_or] at hw
              have c2 : rn i ps.length (qs.getD (qs.length - 1) .none) = true := by simpa using hw
              rw [if_neg c1, if_neg (by rw [c2]; exact fun z => Bool.noConfusion z)] at e
              have c1 := Decidable.not_not.mp c1
              refine ifl_valS (v := q0.eqv (.str "test") && inE (qs.getD 0 .none) tests2) (fun Q' kk => ?_) (fun hw H4 s4 => ?_) (fun hw H4 s4 => ?_)
              · refine tand_valS (b := q0.eqv (.str "test")) (c := inE (qs.getD 0 .none) tests2) (fun Q' kk => ?_) (fun hb1 H4 s4 Q' kk => ?_) kk
                · exact ⟨_, rfl, av, _, 0, v0, rfl, rfl, same_seqT (s12.trans s3) hseq, at_0 _ _, q0, .str "test", pv_dp (pvM (s12.trans s3) hv0), .str _, k0.sh, hsh0, _, rfl, kk _ same_id⟩
                · rw [if_pos hb1] at c1
                  cases hvs0 with
                  | nil => simp at c1
                  | @cons v1 p1 vs1 ps1 hv1 hvs1 =>
                    have s14 := s12.trans (s3.trans s4)
                    refine ⟨_, rfl, av, _, 1, v1, rfl, rfl, same_seqT s14 hseq, (atI_nat (j := 1) rfl), few (by show 2 ≤ 1000; decide), fun q1 n1 => ⟨few (by show 1 ≤ 1000; decide), fun q2 n2 => ⟨few (by show 2 ≤ 1000; decide), fun L nL => ?_⟩⟩⟩
                    have t2 := same_new (u := .lst [.ref q1, .ref q2]) (same_id (H := _)) nL
                    have t1 := same_new (u := .tup [.str "same"]) (same_id (H := _)) n2
                    have t0 := same_new (u := .tup [.str "is", .str "A"]) (same_id (H := H4)) n1
                    have w1 := (t1.trans t2) _ _ upd_same
                    have w2 := t2 _ _ upd_same
                    have sA := t0.trans (t1.trans t2)
                    refine ⟨p1, tests2, dp_same (s14.trans sA) hv1, .lst (SqL.of upd_same) (.cons (.tup (SqT.of w1) (.cons (.str _) (.cons (.str _) .nil))) (.cons (.tup (SqT.of w2) (.cons (.str _) .nil)) .nil)), (hokp.mem (d := p1) (by simp)).sh, by decide +kernel, _, rfl, kk _ sA⟩
              · exact ⟨_, rfl, wrong (by rw [e]; exact hw) _ (s12.trans (s3.trans s4))⟩
              · exact right (by rw [e]; exact hw) (some (.int ((0 : Int) + (i : Nat)))) (some (.ref av)) _ (s12.trans (s3.trans s4))
    · rintro σ H1 ⟨o2, o3, rfl, s1, hn⟩
      rw [Int.toNat_natCast, hul, List.take_length] at hn
      cases hd with
      | nil =>
        have q : ∀ H', Same H H' → Q (.int 0) H' := q
        dsimp only
        refine ret_run ?_
        refine tor_valS (b := true) (c := true) (fun Q' kk => ?_) (fun hb => nomatch hb) (fun H2 s2 => ?_)
        · exact ⟨_, rfl, rfl, _, rfl, kk _ same_id⟩
        · exact iteT ⟨_, rfl, q _ (s1.trans s2)⟩
      | @cons v0 p0 vs0 ps0 hv0 hvs0 =>
        have hl0 := pvl_len hvs0
        obtain ⟨vl, hvl⟩ : ∃ vl, (v0 :: vs0)[vs0.length]? = some vl := ⟨_, List.getElem?_eq_getElem (by rw [List.length_cons]; omega)⟩
        obtain ⟨pl, hpl, hvpl⟩ := pvl_get (.cons hv0 hvs0) hvl
        have hla : (p0 :: ps0).getLast? = some pl := by
          rw [List.getLast?_eq_getElem?, List.length_cons, Nat.add_sub_cancel, ← hl0]
          exact hpl
        have e : lawI (p0 :: ps0) = (if inE pl ends3 = true then none else some (p0 :: ps0).length) := by
          unfold lawI
          rw [hn]
          dsimp only
          rw [hla]
        rw [e] at q
        have hokl := hok pl (List.mem_of_getElem? hpl)
        dsimp only
        refine ret_run ?_
        refine tor_valS (b := false) (c := !inE pl ends3) (fun Q' kk => ?_) (fun hb H2 s2 Q' kk => ?_) (fun H2 s2 => ?_)
        · refine ⟨_, rfl, rfl, _, rfl, ?_⟩
          have e0 : decide (V.int ((v0 :: vs0).length : Int) = V.int 0) = false := decide_eq_false fun z => by
            injection z with z
            rw [List.length_cons] at z
            omega
          rw [e0]
          exact kk _ same_id
        · have s12 := s1.trans s2
          refine ⟨_, rfl, _, rfl, a, _, _, vl, rfl, rfl, SqL.of (s12 _ _ ha), (by rw [at_end, hvl]), few (by show 1 ≤ 1000; decide), fun q1 n1 => ⟨few (by show 1 ≤ 1000; decide), fun q2 n2 => ⟨few (by show 1 ≤ 1000; decide), fun q3 n3 => ⟨few (by show 3 ≤ 1000; decide), fun L nL => ?_⟩⟩⟩⟩
          have t3 := same_new (u := .lst [.ref q1, .ref q2, .ref q3]) (same_id (H := _)) nL
          have t2 := same_new (u := .tup [.str "fail"]) (same_id (H := _)) n3
          have t1 := same_new (u := .tup [.str "none"]) (same_id (H := _)) n2
          have t0 := same_new (u := .tup [.str "give"]) (same_id (H := H2)) n1
          have w1 := (t1.trans (t2.trans t3)) _ _ upd_same
          have w2 := (t2.trans t3) _ _ upd_same
          have w3 := t3 _ _ upd_same
          have sA := t0.trans (t1.trans (t2.trans t3))
          exact ⟨pl, ends3, dp_same (s12.trans sA) hvpl, .lst (SqL.of upd_same) (.cons (.tup (SqT.of w1) (.cons (.str _) .nil)) (.cons (.tup (SqT.of w2) (.cons (.str _) .nil)) (.cons (.tup (SqT.of w3) (.cons (.str _) .nil)) .nil))), hokl.sh, by decide +kernel, _, rfl, kk _ sA⟩
        · rw [Bool.false_or]
          cases ci : inE pl ends3 with
          | true =>
            rw [ci, if_pos rfl] at q
            exact iteF (q _ (s1.trans s2))
          | false =>
            rw [ci, if_neg Bool.false_ne_true] at q
            refine iteT ⟨_, rfl, ?_⟩
            rw [hul]
            exact q _ (s1.trans s2)
end
end Toy


namespace Toy
open PySem PySem.Spec L2 PyProof.Rows PySem.W
/-! ### drawn things: what an expression draws, and what it gives -/
def Stb (d : Addr) (J : Hp → Prop) : Prop := ∀ H H', But d H H' → J H → J H'
def Dr (d : Addr) (l : Tl) (J : Hp → Prop) (te : TE) (σ : L2.St) (m : Nat) (R : Hp → V → Prop) : Prop := ∀ (H : Hp) (n : Nat) (Q : VK), J H → Tape H d l n → n + m ≤ 900000 → (∀ H' v, But d H H' → Tape H' d l (n + m) → R H' v → Q v H') → te σ H Q
def DrA (d : Addr) (l : Tl) (J : Hp → Prop) (ta : TA) (σ : L2.St) (m : Nat) (R : Hp → List V → Prop) : Prop := ∀ (H : Hp) (n : Nat) (Q : List V → Hp → Prop), J H → Tape H d l n → n + m ≤ 900000 → (∀ H' vs, But d H H' → Tape H' d l (n + m) → R H' vs → Q vs H') → ta σ H Q
def IsW (H : Hp) (v : V) : Prop := ∃ x, v = .str x ∧ okK x = true
section
variable {K : PySem.W.Frag} {d : Addr} {l : Tl} {J : Hp → Prop} {σ : L2.St} {te : TE} {ta : TA} {m m' c k n n2 n' e e' : Nat} {R R' : Hp → V → Prop} {RA : Hp → List V → Prop}
theorem Dr.mono (h : Dr d l J te σ m R) (k : ∀ H v, R H v → R' H v) (hm : m ≤ m') : Dr d l J te σ m' R' := fun H n Q j t b q => h H n Q j t (by omega) fun H' v b t r => q H' v b (t.more (by omega)) (k _ _ r)
theorem DrA.mono {RB : Hp → List V → Prop} (h : DrA d l J ta σ m RA) (k : ∀ H v, RA H v → RB H v) (hm : m ≤ m') : DrA d l J ta σ m' RB := fun H n Q j t b q => h H n Q j t (by omega) fun H' v b t r => q H' v b (t.more (by omega)) (k _ _ r)
theorem dr_const {c : V} (h : ∀ H, R H c) : Dr d l J (tC c) σ 0 R := fun H n Q _ t _ q => q H c (fun _ _ _ z => z) t (h H)
theorem dr_var {i : Nat} {v : V} (hi : σ[i]? = some (some v)) (h : ∀ H, J H → R H v) : Dr d l J (tVar i) σ 0 R := fun H n Q j t _ q => ⟨v, hi, q H v (fun _ _ _ z => z) t (h H j)⟩
theorem dra_nil (h : ∀ H, RA H []) : DrA d l J tNil σ 0 RA := fun H n Q _ t _ q => q H [] (fun _ _ _ z => z) t (h H)
theorem dra_cons {RB : Hp → List V → Prop} (sj : Stb d J) (h : Dr d l J te σ m R) (r : DrA d l J ta σ m' RA) (st : ∀ H H' v, But d H H' → R H v → R H' v) (hc : ∀ H v vs, R H v → RA H vs → RB H (v :: vs)) : DrA d l J (tCons te ta) σ (m + m') RB :=
  fun H n Q j t b q => h H n _ j t (by omega) fun H1 v b1 t1 r1 => r H1 (n + m) _ (sj _ _ b1 j) t1 (by omega) fun H2 vs b2 t2 r2 => q H2 (v :: vs) (b1.trans b2) (t2.more (by omega)) (hc _ _ _ (st _ _ _ b2 r1) r2)
theorem fv_st : ∀ H H' v, But d H H' → Fv K d H c n e v → Fv K d H' c n e v := fun _ _ _ b z => z.but b
theorem st_w : ∀ (H H' : Hp) v, But d H H' → IsW H v → IsW H' v := fun _ _ _ _ z => z
/-! fields of a tuple -/
theorem daf_nil : DrA d l J tNil σ 0 (fun H vs => Fa K d H c 0 0 e vs) := dra_nil fun _ => fa_nil
theorem daf (sj : Stb d J) (h : Dr d l J te σ m (fun H v => Fv K d H c n e v)) (r : DrA d l J ta σ m' (fun H vs => Fa K d H c k n2 e vs)) : DrA d l J (tCons te ta) σ (m + m') (fun H vs => Fa K d H c (k + 1) (n + n2) e vs) :=
  dra_cons sj h r (fun _ _ _ b z => z.but b) fun _ _ _ a b => fa_cons a b
theorem dr_up (h : Dr d l J te σ m (fun H v => Fv K d H c n e v)) (k : n ≤ n') (k2 : e ≤ e') : Dr d l J te σ m (fun H v => Fv K d H c n' e' v) := h.mono (fun _ _ z => z.mono k k2) (Nat.le_refl _)
theorem dr_str {x : Str} (h : okK x = true) : Dr d l J (tC (.str x)) σ 0 (fun H v => Fv K d H c 0 e v) := dr_const fun _ => ⟨.str x, .str x, by simp [nd], by simp [dep], by simpa [okd] using h⟩
theorem fv_int (H : Hp) (i : Int) : Fv K d H c 0 e (.int i) := ⟨.int i, .int i, by simp [nd], by simp [dep], by simp [okd]⟩
theorem fv_bl (H : Hp) (b : Bool) : Fv K d H c 0 e (.bl b) := ⟨.bl b, .bl b, by simp [nd], by simp [dep], by simp [okd]⟩
theorem fv_non (H : Hp) : Fv K d H c 0 e .non := ⟨.non, .non, by simp [nd], by simp [dep], by simp [okd]⟩
theorem fv_str (H : Hp) {x : Str} (h : okK x = true) : Fv K d H c 0 e (.str x) := ⟨.str x, .str x, by simp [nd], by simp [dep], by simpa [okd] using h⟩
theorem dr_int {i : Int} : Dr d l J (tC (.int i)) σ 0 (fun H v => Fv K d H c 0 e v) := dr_const fun H => fv_int H i
theorem dr_bl {b : Bool} : Dr d l J (tC (.bl b)) σ 0 (fun H v => Fv K d H c 0 e v) := dr_const fun H => fv_bl H b
theorem dr_non : Dr d l J (tC .non) σ 0 (fun H v => Fv K d H c 0 e v) := dr_const fun H => fv_non H
theorem dr_w (h : Dr d l J te σ m IsW) : Dr d l J te σ m (fun H v => Fv K d H c 0 e v) := h.mono (fun H v ⟨x, e, hx⟩ => e ▸ fv_str H hx) (Nat.le_refl _)
/-- a tuple -/
theorem dr_nd (sj : Stb d J) (r : DrA d l J ta σ m (fun H vs => Fa K d H c k n e vs)) (hk : k ≤ c ∧ k ≤ 100) : Dr d l J (tTup ta) σ m (fun H v => Fv K d H c (n + 1) (e + 1) v) :=
  fun H N Q j t b q => r H N _ j t b fun H1 vs b1 t1 r1 => by
    have hl := r1.1
    refine ⟨few (by omega), fun T nT => ?_⟩
    have hd := t1.at.1
    exact q _ (.ref T) (b1.new nT) (t1.same (same_new same_id nT)) (mkF hd nT r1 hk.1)
/-! lists -/
def AllR (c : Nat) (R : Hp → V → Prop) (H : Hp) (vs : List V) : Prop := vs.length = c ∧ ∀ v ∈ vs, R H v
theorem dal_nil : DrA d l J tNil σ 0 (AllR 0 R) := dra_nil fun _ => ⟨rfl, fun v h => by simp at h⟩
theorem dal_cons {c : Nat} (sj : Stb d J) (sr : ∀ H H' v, But d H H' → R H v → R H' v) (h : Dr d l J te σ m R) (r : DrA d l J ta σ m' (AllR c R)) : DrA d l J (tCons te ta) σ (m + m') (AllR (c + 1) R) :=
  dra_cons sj h r sr fun _ _ _ a b => ⟨by rw [List.length_cons, b.1], fun v hv => by
    rcases List.mem_cons.mp hv with rfl | hv
    · exact a
    · exact b.2 v hv⟩
/-- an item of a list of values of one size -/
theorem dal {q : Nat} (sj : Stb d J) (h : Dr d l J te σ m (fun H v => Fv K d H c n e v)) (k : n ≤ n' ∧ e ≤ e') (r : DrA d l J ta σ m' (AllR q (fun H v => Fv K d H c n' e' v))) : DrA d l J (tCons te ta) σ (m + m') (AllR (q + 1) (fun H v => Fv K d H c n' e' v)) :=
  dal_cons sj fv_st (dr_up h k.1 k.2) r
end
section
variable {P : Program} {w : World} {K : PySem.W.Frag} {mg : Str → Option Value} {base : Heap} {d : Addr} {l : Tl} {J : Hp → Prop} {σ : L2.St} {te : TE} {ta : TA} {m c : Nat} {R : Hp → V → Prop}
/-- a pick of a display -/
theorem dr_pick (sj : Stb d J) (h0 : σ[0]? = some (some (.ref d))) (sr : ∀ H H' v, But d H H' → R H v → R H' v) (r : DrA d l J ta σ m (AllR c R)) (hc : 0 < c ∧ c ≤ 100) : Dr d l J (tCall spPick [] E0 (tCons (tVar 0) (tCons (tLst ta) tNil))) σ (m + 1) R :=
  fun H n Q j t b q => ⟨_, h0, r H n _ j t (by omega) fun H1 vs b1 t1 ⟨hl, r1⟩ => ⟨few (by omega), fun T nT => by
    have s : Same H1 (upd H1 T (.lst vs)) := same_new same_id nT
    refine ⟨d, l, T, n + m, vs, rfl, t1.same s, by omega, upd_same, fun e => by rw [e] at hl; simp at hl; omega, by omega, fun H2 v b2 t2 hv => ?_⟩
    exact q H2 v ((b1.trans (Same.but s d)).trans b2) t2 (sr _ _ _ b2 (sr _ _ _ (Same.but s d) (r1 v hv)))⟩⟩
/-- a pick of a list that stands at a slot, and of a display put behind it -/
theorem dr_pick2 {i : Nat} {p : Addr} {xs : List V} (sj : Stb d J) (h0 : σ[0]? = some (some (.ref d))) (hi : σ[i]? = some (some (.ref p))) (hp : ∀ H, J H → H p = some (.lst xs) ∧ ∀ v ∈ xs, R H v) (sr : ∀ H H' v, But d H H' → R H v → R H' v) (r : DrA d l J ta σ m (AllR c R)) (hc : 0 < c ∧ c + xs.length ≤ 100) : Dr d l J (tCall spPick [] E0 (tCons (tVar 0) (tCons (tOp rCat (tVar i) (tLst ta)) tNil))) σ (m + 1) R :=
  fun H n Q j t b q => ⟨_, h0, ⟨_, hi, r H n _ j t (by omega) fun H1 vs b1 t1 ⟨hl, r1⟩ => ⟨few (by omega), fun T nT => by
    have s : Same H1 (upd H1 T (.lst vs)) := same_new same_id nT
    have j1 := sj _ _ b1 j
    obtain ⟨hp1, hr1⟩ := hp _ j1
    refine ⟨p, T, xs, vs, rfl, rfl, s _ _ hp1, upd_same, few (by omega), fun L nL => ?_⟩
    have s2 : Same H1 (upd (upd H1 T (.lst vs)) L (.lst (xs ++ vs))) := same_new s nL
    refine ⟨d, l, L, n + m, xs ++ vs, rfl, t1.same s2, by omega, upd_same, fun e => ?_, by rw [List.length_append]; omega, fun H2 v b2 t2 hv => ?_⟩
    · have := congrArg List.length e
      simp only [List.length_append, List.length_nil] at this
      omega
    · refine q H2 v ((b1.trans (Same.but s2 d)).trans b2) t2 (sr _ _ _ b2 (sr _ _ _ (Same.but s2 d) ?_))
      rcases List.mem_append.mp hv with z | z
      · exact hr1 v z
      · exact r1 v z⟩⟩⟩
/-- a new list -/
theorem lst_run (sr : ∀ H H' v, But d H H' → R H v → R H' v) (r : DrA d l J ta σ m (AllR c R)) (hc : c ≤ 100) {H : Hp} {n : Nat} {Q : VK} (j : J H) (t : Tape H d l n) (b : n + m ≤ 900000)
    (q : ∀ H' L vs, But d H H' → Tape H' d l (n + m) → L ≠ d → H' L = some (.lst vs) → AllR c R H' vs → Q (.ref L) H') : tLst ta σ H Q :=
  r H n _ j t b fun H1 vs b1 t1 r1 => ⟨few (by have := r1.1; omega), fun L nL => by
    have sL : Same H1 (upd H1 L (.lst vs)) := same_new same_id nL
    have nLd : L ≠ d := by
      obtain ⟨o, ho⟩ := t1.at.1
      exact (ne_of_none ho nL).symm
    exact q _ L vs (b1.trans (Same.but sL d)) (t1.same sL) nLd upd_same ⟨r1.1, fun v hv => sr _ _ _ (Same.but sL d) (r1.2 v hv)⟩⟩
/-- a list at a slot, and a display put behind it -/
theorem cat_run {i : Nat} {p : Addr} {xs : List V} (sj : Stb d J) (hi : σ[i]? = some (some (.ref p))) (hp : ∀ H, J H → H p = some (.lst xs) ∧ ∀ v ∈ xs, R H v) (sr : ∀ H H' v, But d H H' → R H v → R H' v) (r : DrA d l J ta σ m (AllR c R)) (hc : c + xs.length ≤ 100) {H : Hp} {n : Nat} {Q : VK} (j : J H) (t : Tape H d l n) (b : n + m ≤ 900000)
    (q : ∀ H' L ys, But d H H' → Tape H' d l (n + m) → L ≠ d → H' L = some (.lst ys) → AllR (xs.length + c) R H' ys → Q (.ref L) H') : tOp rCat (tVar i) (tLst ta) σ H Q :=
  ⟨_, hi, r H n _ j t b fun H1 vs b1 t1 ⟨hl, r1⟩ => ⟨few (by omega), fun T nT => by
    have s : Same H1 (upd H1 T (.lst vs)) := same_new same_id nT
    obtain ⟨hp1, hr1⟩ := hp _ (sj _ _ b1 j)
    refine ⟨p, T, xs, vs, rfl, rfl, s _ _ hp1, upd_same, few (by omega), fun L nL => ?_⟩
    have s2 : Same H1 (upd (upd H1 T (.lst vs)) L (.lst (xs ++ vs))) := same_new s nL
    have nLd : L ≠ d := by
      obtain ⟨o, ho⟩ := t1.at.1
      exact (ne_of_none (s _ _ ho) nL).symm
    refine q _ L (xs ++ vs) (b1.trans (Same.but s2 d)) (t1.same s2) nLd upd_same ⟨by rw [List.length_append, hl], fun v hv => sr _ _ _ (Same.but s2 d) ?_⟩
    rcases List.mem_append.mp hv with z | z
    · exact hr1 v z
    · exact r1 v z⟩⟩
/-- a draw of a number -/
theorem dr_draw {c : Int} (h0 : σ[0]? = some (some (.ref d))) (hc : 0 < c ∧ c < 1000) : Dr d l J (tCall spDraw [] E0 (tCons (tVar 0) (tCons (tC (.int c)) tNil))) σ 1 (fun _ v => ∃ i, v = .int i ∧ 0 ≤ i ∧ i < c) :=
  fun H n Q j t b q => ⟨_, h0, d, l, n, c, rfl, t, by omega, hc.1, by omega, fun H1 r b1 t1 r0 r1 => q H1 _ b1 t1 ⟨r, rfl, r0, r1⟩⟩
theorem dr_drawF {c : Int} {q e : Nat} (h0 : σ[0]? = some (some (.ref d))) (hc : 0 < c ∧ c < 1000) : Dr d l J (tCall spDraw [] E0 (tCons (tVar 0) (tCons (tC (.int c)) tNil))) σ 1 (fun H v => Fv K d H q 0 e v) :=
  (dr_draw h0 hc).mono (fun H v ⟨i, e, _⟩ => e ▸ fv_int H i) (Nat.le_refl _)
/-- a key of the list at a slot -/
theorem dr_key {i q e : Nat} {p : Addr} {ks : List Str} (h0 : σ[0]? = some (some (.ref d))) (hi : σ[i]? = some (some (.ref p))) (hp : ∀ H, J H → H p = some (.lst (ks.map V.str))) (hk : ks ≠ [] ∧ ks.length ≤ 100 ∧ ∀ k ∈ ks, okK k = true) : Dr d l J (tCall spPick [] E0 (tCons (tVar 0) (tCons (tVar i) tNil))) σ 1 (fun H v => Fv K d H q 0 e v) :=
  fun H n Q j t b q => ⟨_, h0, _, hi, d, l, p, n, _, rfl, t, by omega, hp _ j, fun e => hk.1 (List.map_eq_nil_iff.mp e), by rw [List.length_map]; omega, fun H1 v b1 t1 hv => by
    obtain ⟨x, hx, rfl⟩ := List.mem_map.mp hv
    exact q H1 _ b1 t1 (fv_str _ (hk.2.2 x hx))⟩
end
end Toy


namespace Toy
open PySem PySem.Spec L2 PyProof.Rows PySem.W
/-! ### drawn tests and walks as data -/
/-- a good term: what it must be, how deep, how many spots -/
structure Gd (k : Str) (m s : Nat) (p : PyData) : Prop where
  ok : ∀ n, dep (ofP p) < n → okk n k (ofP p) = true
  sp : ∀ n, spo n (ofP p) ≤ s
  lv : ∀ n, lev n (ofP p) ≤ m
  dp : dep (ofP p) ≤ m
  od : okd 300 (ofP p) = true
  lay : p.canLay0 = true
  pd : p.depth ≤ m + 1
structure Lf (p : PyData) : Prop where
  dp : dep (ofP p) = 0
  od : okd 300 (ofP p) = true
  lay : p.canLay0 = true
  pd : p.depth ≤ 1
inductive Fl (k : Str) (m : Nat) : List Str → List PyData → Nat → Prop
  | nil : Fl k m [] [] 0
  | leaf {kd : Str} {f : PyData} {ks : List Str} {fs : List PyData} {s : Nat} : fldD kd (ofP f) = true → kpK kd (ofP f) = [] → Lf f → Fl k m ks fs s → Fl k m (kd :: ks) (f :: fs) s
  | part {kd : Str} {f : PyData} {ks : List Str} {fs : List PyData} {s' s : Nat} : PK kd = true → Gd (nar k kd) m s' f → Fl k m ks fs s → Fl k m (kd :: ks) (f :: fs) (s' + s)
theorem Fl.len {k : Str} {m : Nat} : ∀ {ks : List Str} {fs : List PyData} {s : Nat}, Fl k m ks fs s → fs.length = ks.length
  | _, _, _, .nil => rfl
  | _, _, _, .leaf _ _ _ t => congrArg Nat.succ t.len
  | _, _, _, .part _ _ t => congrArg Nat.succ t.len
theorem Fl.fld {k : Str} {m : Nat} : ∀ {ks : List Str} {fs : List PyData} {s : Nat}, Fl k m ks fs s → ∀ i, i < fs.length → fldD (ks.getD i Str.empty) ((ofPL fs).getD i .non) = true
  | _, _, _, .leaf h _ _ t, 0, _ => by simpa [ofPL] using h
  | _, _, _, .part h _ t, 0, _ => by
    simp only [ofPL, List.getD_cons_zero]
    unfold fldD
    rw [if_pos h]
  | _, _, _, .leaf _ _ _ t, i + 1, hi => by
    simp only [ofPL, List.getD_cons_succ]
    exact t.fld i (by simpa using hi)
  | _, _, _, .part _ _ t, i + 1, hi => by
    simp only [ofPL, List.getD_cons_succ]
    exact t.fld i (by simpa using hi)
theorem Fl.okk {k : Str} {m : Nat} : ∀ {ks : List Str} {fs : List PyData} {s : Nat}, Fl k m ks fs s → ∀ n, depL (ofPL fs) < n → ∀ p ∈ kpF ks (ofPL fs), Toy.okk n (nar k p.1) p.2 = true
  | _, _, _, .nil, n, hn, p, hp => by simp [kpF, ofPL] at hp
  | _, _, _, .leaf _ h _ t, n, hn, p, hp => by
    simp only [kpF, ofPL] at hp
    rw [h, List.nil_append] at hp
    simp only [ofPL, depL] at hn
    exact t.okk n (by omega) p hp
  | _, _, _, .part h g t, n, hn, p, hp => by
    simp only [kpF, ofPL, kpK] at hp
    rw [if_pos h, List.mem_append] at hp
    rcases hp with hp | hp
    · rw [List.mem_singleton] at hp
      subst hp
      simp only [ofPL, depL] at hn
      exact g.ok n (by omega)
    · simp only [ofPL, depL] at hn
      exact t.okk n (by omega) p hp
theorem Fl.lev {k : Str} {m : Nat} : ∀ {ks : List Str} {fs : List PyData} {s : Nat}, Fl k m ks fs s → ∀ n, ∀ p ∈ kpF ks (ofPL fs), Toy.lev n p.2 ≤ m
  | _, _, _, .nil, n, p, hp => by simp [kpF, ofPL] at hp
  | _, _, _, .leaf _ h _ t, n, p, hp => by
    simp only [kpF, ofPL] at hp
    rw [h, List.nil_append] at hp
    exact t.lev n p hp
  | _, _, _, .part h g t, n, p, hp => by
    simp only [kpF, ofPL, kpK] at hp
    rw [if_pos h, List.mem_append] at hp
    rcases hp with hp | hp
    · rw [List.mem_singleton] at hp
      subst hp
      exact g.lv n
    · exact t.lev n p hp
theorem Fl.spo {k : Str} {m : Nat} : ∀ {ks : List Str} {fs : List PyData} {s : Nat}, Fl k m ks fs s → ∀ n, ((kpF ks (ofPL fs)).map fun p => Toy.spo n p.2).sum ≤ s
  | _, _, _, .nil, n => by simp [kpF, ofPL]
  | _, _, _, .leaf _ h _ t, n => by
    simp only [kpF, ofPL]
    rw [h, List.nil_append]
    exact t.spo n
  | _, _, _, .part h g t, n => by
    simp only [kpF, ofPL, kpK]
    rw [if_pos h]
    have a := g.sp n
    have b := t.spo n
    simp only [List.cons_append, List.nil_append, List.map_cons, List.sum_cons]
    omega
theorem Fl.sizes {k : Str} {m : Nat} : ∀ {ks : List Str} {fs : List PyData} {s : Nat}, Fl k m ks fs s → depL (ofPL fs) ≤ m ∧ okdL 300 (ofPL fs) = true ∧ PyData.canLayAll0 fs = true ∧ PyData.depthAll fs ≤ m + 1
  | _, _, _, .nil => by simp [ofPL, depL, okdL, PyData.canLayAll0, PyData.depthAll]
  | _, _, _, .leaf _ _ l t => by
    obtain ⟨a, b, c, d⟩ := t.sizes
    have := l.dp
    have := l.pd
    simp only [ofPL, depL, okdL, PyData.canLayAll0, PyData.depthAll, l.od, l.lay, b, c]
    exact ⟨by omega, rfl, rfl, by omega⟩
  | _, _, _, .part _ g t => by
    obtain ⟨a, b, c, d⟩ := t.sizes
    have := g.dp
    have := g.pd
    simp only [ofPL, depL, okdL, PyData.canLayAll0, PyData.depthAll, g.od, g.lay, b, c]
    exact ⟨by omega, rfl, rfl, by omega⟩
theorem gd_node {k x : Str} {ks : List Str} {fs : List PyData} {m s : Nat} (hf : formOf x = some ks) (hb : begK x k = true) (hx : okK x = true) (hx2 : (PyData.str x).canLay0 = true) (hx3 : (PyData.str x).depth ≤ 1) (h5 : ks.length ≤ 200) (h : Fl k m ks fs s) : Gd k (m + 1) (1 + s) (.tuple (.str x :: fs)) := by
  obtain ⟨z1, z2, z3, z4⟩ := h.sizes
  have hl := h.len
  have hkp : kpOf (ofP (.tuple (.str x :: fs))) = kpF ks (ofPL fs) := by
    simp only [ofP, ofPL, kpOf, hf]
  have hll : (ofPL fs).length = ks.length := by
    rw [ofPL_map, List.length_map]
    exact hl
  have hh : hasF k (ofP (.tuple (.str x :: fs))) = true := by
    simp only [ofP, ofPL, hasF, hf, hb, Bool.true_and]
    rw [hll, decide_eq_true rfl, Bool.true_and, List.all_eq_true]
    intro i hi
    exact h.fld i (by rw [hl]; exact List.mem_range.mp hi)
  refine ⟨fun n hn => ?_, fun n => ?_, fun n => ?_, ?_, ?_, ?_, ?_⟩
  · obtain ⟨n, rfl⟩ : ∃ j, n = j + 1 := ⟨n - 1, by omega⟩
    rw [okk, hh, hkp, Bool.true_and, List.all_eq_true]
    simp only [ofP, ofPL, dep, depL] at hn
    exact fun p hp => h.okk n (by omega) p hp
  · cases n with
    | zero => rw [spo]; omega
    | succ n =>
      rw [spo, hkp]
      have := h.spo n
      omega
  · cases n with
    | zero => rw [lev]; omega
    | succ n =>
      rw [lev, hkp]
      have : maxL ((kpF ks (ofPL fs)).map fun p => lev n p.2) ≤ m := maxL_le.mpr fun y hy => by
        obtain ⟨p, hp, rfl⟩ := List.mem_map.mp hy
        exact h.lev n p hp
      omega
  · simp only [ofP, ofPL, dep, depL]
    omega
  · simp only [ofP, ofPL, okd, okdL, z2, hx, List.length_cons, hll]
    rw [decide_eq_true (by omega)]
    rfl
  · simp only [PyData.canLay0, PyData.canLayAll0] at hx2 ⊢
    rw [hx2, z3]
    rfl
  · simp only [PyData.depth, PyData.depthAll] at hx3 ⊢
    omega
/-- whether a value is a test: a good test is one -/
theorem gd_tst {m s : Nat} {p : PyData} (h : Gd "test" m s p) (hm : m ≤ 40) (hs : s ≤ 200) : tstD (ofP p) = true := by
  unfold tstD fine
  have a := h.lv (dep (ofP p) + 1)
  have b := h.sp (dep (ofP p) + 1)
  simp only [List.all_cons, List.all_nil, Bool.and_true, List.map_cons, List.map_nil, List.sum_cons, List.sum_nil, fine1, spoI]
  rw [h.ok _ (Nat.lt_succ_self _), decide_eq_true (by omega), decide_eq_true (by omega)]
  rfl
end Toy


namespace Toy
open PySem PySem.Spec L2 PyProof.Rows PySem.W
/-! ### tests and walks drawn -/
theorem Gd.mono {k : Str} {m m' s s' : Nat} {p : PyData} (h : Gd k m s p) (hm : m ≤ m') (hs : s ≤ s') : Gd k m' s' p :=
  ⟨h.ok, fun n => Nat.le_trans (h.sp n) hs, fun n => Nat.le_trans (h.lv n) hm, Nat.le_trans h.dp hm, h.od, h.lay, Nat.le_trans h.pd (Nat.succ_le_succ hm)⟩
def Sv (K : PySem.W.Frag) (d : Addr) (S : PyData → Prop) (H : Hp) (v : V) : Prop := ∃ p, Pv K (delH H d) v p ∧ S p
theorem Sv.but {K : PySem.W.Frag} {d : Addr} {S : PyData → Prop} {H H' : Hp} {v : V} (h : Sv K d S H v) (b : But d H H') : Sv K d S H' v := by
  obtain ⟨p, a, c⟩ := h
  exact ⟨p, pvM b.off a, c⟩
theorem sv_st {K : PySem.W.Frag} {d : Addr} {S : PyData → Prop} : ∀ H H' v, But d H H' → Sv K d S H v → Sv K d S H' v := fun _ _ _ b z => z.but b
theorem Sv.imp {K : PySem.W.Frag} {d : Addr} {S S' : PyData → Prop} {H : Hp} {v : V} (h : Sv K d S H v) (k : ∀ p, S p → S' p) : Sv K d S' H v := by
  obtain ⟨p, a, c⟩ := h
  exact ⟨p, a, k p c⟩
def Fs (K : PySem.W.Frag) (d : Addr) (k : Str) (m : Nat) (ks : List Str) (s : Nat) (H : Hp) (vs : List V) : Prop := ∃ ps, PvL K (delH H d) vs ps ∧ Fl k m ks ps s
structure WdOk (k : Str) (ks : List Str) (x : Str) : Prop where
  f : formOf x = some ks
  b : begK x k = true
  o : okK x = true
  l : (PyData.str x).canLay0 = true
  d : (PyData.str x).depth ≤ 1
  n : ks.length ≤ 100
section
variable {K : PySem.W.Frag} {d : Addr} {l : Tl} {J : Hp → Prop} {σ : L2.St} {te : TE} {ta : TA} {c c' m m' s s' : Nat} {k kd k' : Str} {ks : List Str} {S : PyData → Prop}
theorem dr_imp {S' : PyData → Prop} (h : Dr d l J te σ c (Sv K d S)) (hS : ∀ p, S p → S' p) (hc : c ≤ c') : Dr d l J te σ c' (Sv K d S') := h.mono (fun _ _ z => z.imp hS) hc
theorem dfs_nil : DrA d l J tNil σ 0 (Fs K d k m [] 0) := dra_nil fun _ => ⟨[], .nil, .nil⟩
theorem dfs_leaf (sj : Stb d J) (h : Dr d l J te σ c (Sv K d S)) (hS : ∀ p, S p → fldD kd (ofP p) = true ∧ kpK kd (ofP p) = [] ∧ Lf p) (r : DrA d l J ta σ c' (Fs K d k m ks s)) : DrA d l J (tCons te ta) σ (c + c') (Fs K d k m (kd :: ks) s) :=
  dra_cons sj h r sv_st fun _ _ _ ⟨p, a, b⟩ ⟨ps, a2, b2⟩ => ⟨p :: ps, .cons a a2, .leaf (hS p b).1 (hS p b).2.1 (hS p b).2.2 b2⟩
theorem dfs_part (sj : Stb d J) (hk : PK kd = true) (e : nar k kd = k') (hm : m' ≤ m) (h : Dr d l J te σ c (Sv K d (Gd k' m' s'))) (r : DrA d l J ta σ c' (Fs K d k m ks s)) : DrA d l J (tCons te ta) σ (c + c') (Fs K d k m (kd :: ks) (s' + s)) :=
  dra_cons sj h r sv_st fun _ _ _ ⟨p, a, b⟩ ⟨ps, a2, b2⟩ => ⟨p :: ps, .cons a a2, .part hk (by rw [e]; exact b.mono hm (Nat.le_refl _)) b2⟩
theorem dr_nodeX {tx : TE} {W : Str → Prop} (sj : Stb d J) (h : Dr d l J tx σ c (fun _ v => ∃ x, v = .str x ∧ W x)) (hW : ∀ x, W x → WdOk k ks x) (r : DrA d l J ta σ c' (Fs K d k m ks s)) : Dr d l J (tTup (tCons tx ta)) σ (c + c') (Sv K d (Gd k (m + 1) (1 + s))) :=
  fun H N Q j t b q => (dra_cons (RB := fun H vs => ∃ x us, vs = .str x :: us ∧ W x ∧ Fs K d k m ks s H us) sj h r (fun _ _ _ _ z => z) (fun _ _ _ ⟨x, e, w⟩ f => ⟨x, _, by rw [e], w, f⟩)) H N _ j t b fun H1 vs b1 t1 ⟨x, us, e, w, ps, hp, hf⟩ => by
    subst e
    have hw := hW x w
    have hl := pvl_len hp
    have hl2 := hf.len
    have h5 := hw.n
    refine ⟨few (by rw [List.length_cons]; omega), fun T nT => ?_⟩
    obtain ⟨o, ho⟩ := t1.at.1
    have nTd : T ≠ d := (ne_of_none ho nT).symm
    have sT : Same H1 (upd H1 T (.tup (.str x :: us))) := same_new same_id nT
    refine q _ (.ref T) (b1.trans (Same.but sT d)) (t1.same sT) ⟨.tuple (.str x :: ps), .tup (SqT.of ((delH_ne nTd).trans upd_same)) (pvLM (But.off (Same.but sT d)) (.cons (.str x) hp)), gd_node hw.f hw.b hw.o hw.l hw.d (by omega) hf⟩
theorem dr_node {x : Str} (sj : Stb d J) (hw : WdOk k ks x) (r : DrA d l J ta σ c' (Fs K d k m ks s)) : Dr d l J (tTup (tCons (tC (.str x)) ta)) σ (0 + c') (Sv K d (Gd k (m + 1) (1 + s))) :=
  dr_nodeX (W := fun y => y = x) sj (dr_const fun _ => ⟨x, rfl, rfl⟩) (fun y e => e ▸ hw) r
end
/-! leaves -/
abbrev sLeaf : Stmt := top 53
abbrev sTest : Stmt := top 54
abbrev sBoth : Stmt := top 55
abbrev sWalk : Stmt := top 56
def leafVs : List V := [.non, .bl true, .bl false, .int 0, .int 1, .int (-1), .int 2, .str "", .str "a", .str "b a", .int (10 ^ 30)]
def spLeaf : Sp := fun vs H Q _ => ∃ (d : Addr) (l : Tl) (n : Nat), vs = [.ref d] ∧ Tape H d l n ∧ n ≤ 1000000 ∧ ∀ H' v, But d H H' → Tape H' d l (n + 1) → v ∈ leafVs → Q v H'
section
variable {P : Program} {w : World} {K : PySem.W.Frag} {mg : Str → Option Value} {base : Heap}
theorem scLf : FnScope ["_law_tape"] ["_law_tape"] (defScope sLeaf) := ⟨rfl, rfl, rfl, by decide +kernel, rfl, by decide +kernel, by decide +kernel⟩
theorem ok_leaf {f fP : Addr} {fd fdP : FuncData} (F : Fun K "_law_leaf" "_law_leaf" sLeaf f fd) (GP : FnOk P w K mg base CX0 2 fP fdP ["_law_tape", "_law_items"] spPick) (mP : mg "_law_pick" = some (.ref fP)) (kP : PySem.W.keepIn K (.ref fP) = true) (bP : Binds K fdP ["_law_tape", "_law_items"] []) :
    FnOk P w K mg base CX0 3 f fd ["_law_tape"] spLeaf := by
  refine F.ok scLf (fun vs H Q E h => ?_) (fun cdv A outer s H vs Q E hr h => ?_)
  · obtain ⟨d, l, n, rfl, _⟩ := h
    rfl
  · obtain ⟨d, l, n, rfl, hT, hn, q⟩ := h
    refine ⟨_, pss_one (ps_ret (pe_call GP hr (by rfl) mP kP bP .nil pass0 (pa_cons (pv 0) (pa_cons (pe_lst (pa_cons pe_non (pa_cons pe_bl (pa_cons pe_bl (pa_cons pe_int (pa_cons pe_int (pa_cons (pe_un un_neg pe_int) (pa_cons pe_int
      (pa_cons pe_str (pa_cons pe_str (pa_cons pe_str (pa_cons (pe_op op_pow pe_int pe_int) pa_nil)))))))))))) pa_nil)))), ?_⟩
    refine ⟨_, rfl, _, rfl, _, _, rfl, rfl, ⟨by decide, by decide, by decide⟩, few (by show 11 ≤ 1000; decide), fun p np => ?_⟩
    have s : Same H (upd H p (.lst leafVs)) := same_new same_id np
    exact ⟨d, l, p, n, leafVs, rfl, hT.same s, hn, upd_same, (by intro z; cases z), (by show 11 < 1000000; decide), fun H' v b t m => q H' v ((Same.but s d).trans b) t m⟩
end
def LfK (kd : Str) (p : PyData) : Prop := fldD kd (ofP p) = true ∧ kpK kd (ofP p) = [] ∧ Lf p
theorem leaf_pv {K : PySem.W.Frag} {H : Hp} {v : V} (h : v ∈ leafVs) : ∃ p, Pv K H v p ∧ LfK "leaf" p := by
  unfold leafVs at h
  simp only [List.mem_cons, List.not_mem_nil, or_false] at h
  rcases h with rfl | rfl | rfl | rfl | rfl | rfl | rfl | rfl | rfl | rfl | rfl
  · exact ⟨_, .non, by decide +kernel, by decide +kernel, by decide +kernel, by decide +kernel, by decide +kernel, by decide +kernel⟩
  · exact ⟨_, .bl _, by decide +kernel, by decide +kernel, by decide +kernel, by decide +kernel, by decide +kernel, by decide +kernel⟩
  · exact ⟨_, .bl _, by decide +kernel, by decide +kernel, by decide +kernel, by decide +kernel, by decide +kernel, by decide +kernel⟩
  · exact ⟨_, .int _, by decide +kernel, by decide +kernel, by decide +kernel, by decide +kernel, by decide +kernel, by decide +kernel⟩
  · exact ⟨_, .int _, by decide +kernel, by decide +kernel, by decide +kernel, by decide +kernel, by decide +kernel, by decide +kernel⟩
  · exact ⟨_, .int _, by decide +kernel, by decide +kernel, by decide +kernel, by decide +kernel, by decide +kernel, by decide +kernel⟩
  · exact ⟨_, .int _, by decide +kernel, by decide +kernel, by decide +kernel, by decide +kernel, by decide +kernel, by decide +kernel⟩
  · exact ⟨_, .str _, by decide +kernel, by decide +kernel, by decide +kernel, by decide +kernel, by decide +kernel, by decide +kernel⟩
  · exact ⟨_, .str _, by decide +kernel, by decide +kernel, by decide +kernel, by decide +kernel, by decide +kernel, by decide +kernel⟩
  · exact ⟨_, .str _, by decide +kernel, by decide +kernel, by decide +kernel, by decide +kernel, by decide +kernel, by decide +kernel⟩
  · exact ⟨_, .int _, by decide +kernel, by decide +kernel, by decide +kernel, by decide +kernel, by decide +kernel, by decide +kernel⟩
section
variable {K : PySem.W.Frag} {d : Addr} {l : Tl} {J : Hp → Prop} {σ : L2.St}
theorem dr_leaf (h0 : σ[0]? = some (some (.ref d))) : Dr d l J (tCall spLeaf [] E0 (tCons (tVar 0) tNil)) σ 1 (Sv K d (LfK "leaf")) :=
  fun H n Q j t b q => ⟨_, h0, d, l, n, rfl, t, by omega, fun H1 v b1 t1 hv => q H1 v b1 t1 (leaf_pv hv)⟩
end
end Toy


namespace Toy
open PySem PySem.Spec L2 PyProof.Rows PySem.W
/-! ### the defs that draw tests and walks -/
def nT : Nat → Nat × Nat × Nat
  | 0 => (1, 1, 2)
  | 1 => (2, 3, 6)
  | _ => (4, 10, 20)
def nW : Nat → Nat × Nat × Nat
  | 0 => (1, 1, 3)
  | _ => (3, 6, 13)
def nB : Nat → Nat × Nat × Nat
  | 0 => (1, 1, 1)
  | 1 => (2, 3, 5)
  | _ => (4, 10, 13)
def kKs : Key := Sum.inr ("keys" : Str)
def KsOk (ks : List Str) : Prop := ks ≠ [] ∧ ks.length ≤ 100 ∧ ∀ k ∈ ks, LfK "key" (.str k)
def spTm (K : PySem.W.Frag) (kd : Str) (g : Nat → Nat × Nat × Nat) (lo j : Nat) : Sp := fun vs H Q _ => ∃ (d : Addr) (l : Tl) (p : Addr) (n m : Nat) (ks : List Str), (lo ≤ m ∧ m < j) ∧ vs = [.ref d, .int m] ∧ Tape H d l n ∧ n + (g m).2.2 ≤ 900000 ∧ valV l.m kKs = some (.ref p) ∧ H p = some (.lst (ks.map V.str)) ∧ KsOk ks ∧ ∀ H' v, But d H H' → Tape H' d l (n + (g m).2.2) → Sv K d (Gd kd (g m).1 (g m).2.1) H' v → Q v H'
abbrev JK (p : Addr) (ks : List Str) : Hp → Prop := fun H => H p = some (.lst (ks.map V.str))
abbrev tSub (i : Nat) : TE := tOp (rI0 fun i j => .int (i - j)) (tVar i) (tC (.int 1))
theorem stb_list {d p : Addr} {xs : List V} (h : p ≠ d) : Stb d (fun H => H p = some (.lst xs)) := fun H H' b z => b _ _ h z
theorem np_of {H : Hp} {d p : Addr} {l : Tl} {n : Nat} {xs : List V} (t : Tape H d l n) (h : H p = some (.lst xs)) : p ≠ d := by
  obtain ⟨ns, a, f, hd, _⟩ := t
  exact ne_of h hd (by intro z; cases z)
section
variable {K : PySem.W.Frag} {d p : Addr} {l : Tl} {σ : L2.St} {ks : List Str}
theorem dr_tm {kd : Str} {g : Nat → Nat × Nat × Nat} {lo j m : Nat} (h0 : σ[0]? = some (some (.ref d))) (h1 : σ[1]? = some (some (.int ((m + 1 : Nat) : Int)))) (hm : lo ≤ m ∧ m < j) (hl : valV l.m kKs = some (.ref p)) (hk : KsOk ks) : Dr d l (JK p ks) (tCall (spTm K kd g lo j) [] E0 (tCons (tVar 0) (tCons (tSub 1) tNil))) σ (g m).2.2 (Sv K d (Gd kd (g m).1 (g m).2.1)) :=
  fun H n Q j t b q => ⟨_, h0, _, h1, _, _, rfl, rfl, d, l, p, n, m, ks, hm, by
    show [V.ref d, V.int (((m + 1 : Nat) : Int) - 1)] = _
    rw [show ((m + 1 : Nat) : Int) - 1 = (m : Int) by omega], t, b, hl, j, hk, q⟩
theorem dr_tm0 {kd : Str} {g : Nat → Nat × Nat × Nat} {lo j m : Nat} (h0 : σ[0]? = some (some (.ref d))) (h1 : σ[1]? = some (some (.int (m : Int)))) (hm : lo ≤ m ∧ m < j) (hl : valV l.m kKs = some (.ref p)) (hk : KsOk ks) : Dr d l (JK p ks) (tCall (spTm K kd g lo j) [] E0 (tCons (tVar 0) (tCons (tVar 1) tNil))) σ (g m).2.2 (Sv K d (Gd kd (g m).1 (g m).2.1)) :=
  fun H n Q j t b q => ⟨_, h0, _, h1, d, l, p, n, m, ks, hm, rfl, t, b, hl, j, hk, q⟩
end
theorem st_wd {W : Str → Prop} {d : Addr} : ∀ (H H' : Hp) v, But d H H' → (∃ x, v = V.str x ∧ W x) → (∃ x, v = V.str x ∧ W x) := fun _ _ _ _ z => z
def SortW (x : Str) : Prop := x ∈ sortsL
theorem sort_pv {K : PySem.W.Frag} {H : Hp} {v : V} (h : ∃ x, v = .str x ∧ SortW x) : ∃ p, Pv K H v p ∧ LfK "sort" p := by
  obtain ⟨x, rfl, h⟩ := h
  unfold SortW sortsL at h
  simp only [List.mem_cons, List.not_mem_nil, or_false] at h
  rcases h with rfl | rfl | rfl | rfl | rfl | rfl | rfl
  all_goals exact ⟨_, .str _, by decide +kernel, by decide +kernel, by decide +kernel, by decide +kernel, by decide +kernel, by decide +kernel⟩
def AndW (x : Str) : Prop := x = "and" ∨ x = "or"
theorem wd_and : ∀ x, AndW x → WdOk "test" ["test", "test"] x := fun x h => by
  rcases h with rfl | rfl
  all_goals exact ⟨by decide +kernel, by decide +kernel, by decide +kernel, by decide +kernel, by decide +kernel, by decide +kernel⟩
abbrev NTt : List Str := ["_law_tape", "_law_deep", "_law_way"]
section
variable {P : Program} {w : World} {K : PySem.W.Frag} {mg : Str → Option Value} {base : Heap}
theorem scTt : FnScope NTt ["_law_tape", "_law_deep"] (defScope sTest) := ⟨rfl, rfl, rfl, by decide +kernel, rfl, by decide +kernel, by decide +kernel⟩
theorem scBt : FnScope ["_law_tape", "_law_deep"] ["_law_tape", "_law_deep"] (defScope sBoth) := ⟨rfl, rfl, rfl, by decide +kernel, rfl, by decide +kernel, by decide +kernel⟩
theorem tm_zero {kd : Str} {g : Nat → Nat × Nat × Nat} {lo L : Nat} {f : Addr} {fd : FuncData} {x : Str} {st : Stmt} {N : List Str} (F : Fun K x x st f fd) (S : FnScope N ["_law_tape", "_law_deep"] (defScope st)) : FnOk P w K mg base CX0 (L + 1) f fd ["_law_tape", "_law_deep"] (spTm K kd g lo 0) :=
  F.ok (k := L) S (fun vs H Q E h => by obtain ⟨d, l, p, n, m, ks, h0, _⟩ := h; exact absurd h0.2 (Nat.not_lt_zero _)) (fun cdv A outer s H vs Q E hr h => by obtain ⟨d, l, p, n, m, ks, h0, _⟩ := h; exact absurd h0.2 (Nat.not_lt_zero _))
theorem ok_bt {j L : Nat} (hj : j ≤ 2) (hL : 2 ≤ L) {f fP fT : Addr} {fd fdP fdT : FuncData} (F : Fun K "_law_both_tests" "_law_both_tests" sBoth f fd) (GP : FnOk P w K mg base CX0 2 fP fdP ["_law_tape", "_law_items"] spPick) (mP : mg "_law_pick" = some (.ref fP)) (kP : PySem.W.keepIn K (.ref fP) = true) (bP : Binds K fdP ["_law_tape", "_law_items"] [])
    (mT : mg "_law_test" = some (.ref fT)) (kT : PySem.W.keepIn K (.ref fT) = true) (bT : Binds K fdT ["_law_tape", "_law_deep"] []) (GT : FnOk P w K mg base CX0 L fT fdT ["_law_tape", "_law_deep"] (spTm K "test" nT 0 j)) : FnOk P w K mg base CX0 (L + 1) f fd ["_law_tape", "_law_deep"] (spTm K "test" nB 1 (j + 1)) := by
  refine F.ok (k := L) scBt (fun vs H Q E h => ?_) (fun cdv A outer s H vs Q E hr h => ?_)
  · obtain ⟨d, l, p, n, m, ks, _, rfl, _⟩ := h
    rfl
  · obtain ⟨d, l, p, n, m, ks, ⟨hm1, hm2⟩, rfl, hT, hn, hl, hp, hk, q⟩ := h
    have hr2 : Room 2 _ := hr.mono hL
    refine ⟨_, pss_one (ps_ret (pe_tup (pa_cons (pe_call GP hr2 (by rfl) mP kP bP .nil pass0 (pa_cons (pv 0) (pa_cons (pe_lst (pa_cons pe_str (pa_cons pe_str pa_nil))) pa_nil))) (pa_cons (pe_call GT hr (by rfl) mT kT bT .nil pass0 (pa_cons (pv 0) (pa_cons (pe_op op_sub (pv 1) pe_int) pa_nil))) (pa_cons (pe_call GT hr (by rfl) mT kT bT .nil pass0 (pa_cons (pv 0) (pa_cons (pe_op op_sub (pv 1) pe_int) pa_nil))) pa_nil))))), ?_⟩
    obtain ⟨k, rfl⟩ : ∃ k, m = k + 1 := ⟨m - 1, by omega⟩
    have sj : Stb d (JK p ks) := stb_list (np_of hT hp)
    have tm : Dr d l (JK p ks) _ [some (.ref d), some (.int ((k + 1 : Nat) : Int))] _ (Sv K d (Gd "test" (nT k).1 (nT k).2.1)) := dr_tm (j := j) (lo := 0) rfl rfl ⟨by omega, by omega⟩ hl hk
    have an : ∀ {x : Str}, AndW x → Dr d l (JK p ks) (tC (.str x)) [some (.ref d), some (.int ((k + 1 : Nat) : Int))] 0 (fun _ v => ∃ x, v = .str x ∧ AndW x) := fun h => dr_const fun _ => ⟨_, rfl, h⟩
    have nums : (nT k).1 + 1 ≤ (nB (k + 1)).1 ∧ 1 + ((nT k).2.1 + ((nT k).2.1 + 0)) ≤ (nB (k + 1)).2.1 ∧ 0 + (0 + 0) + 1 + ((nT k).2.2 + ((nT k).2.2 + 0)) ≤ (nB (k + 1)).2.2 := by
      have : k = 0 ∨ k = 1 := by omega
      rcases this with rfl | rfl <;> decide
    have all := dr_nodeX (W := AndW) sj (dr_pick sj rfl st_wd (dal_cons sj st_wd (an (x := "and") (.inl rfl)) (dal_cons sj st_wd (an (x := "or") (.inr rfl)) dal_nil)) (by decide)) wd_and (dfs_part sj (by decide +kernel) (by decide +kernel) (Nat.le_refl _) tm (dfs_part sj (by decide +kernel) (by decide +kernel) (Nat.le_refl _) tm dfs_nil))
    exact ret_run (dr_imp all (fun _ z => Gd.mono z nums.1 nums.2.1) nums.2.2 H n _ hp hT hn fun H2 v b2 t2 r2 => q H2 v b2 t2 r2)
theorem ok_ts {j L : Nat} (hj : j ≤ 2) (hL : 3 ≤ L) {f fP fD fL fW fB : Addr} {fd fdP fdD fdL fdW fdB : FuncData} {lw : Nat} (hw : lw ≤ L) {lt : Nat} (ht : lt ≤ L) (F : Fun K "_law_test" "_law_test" sTest f fd) (GP : FnOk P w K mg base CX0 2 fP fdP ["_law_tape", "_law_items"] spPick) (mP : mg "_law_pick" = some (.ref fP)) (kP : PySem.W.keepIn K (.ref fP) = true) (bP : Binds K fdP ["_law_tape", "_law_items"] [])
    (GD : FnOk P w K mg base CX0 1 fD fdD ["_law_tape", "_law_many"] spDraw) (mD : mg "_law_draw" = some (.ref fD)) (kD : PySem.W.keepIn K (.ref fD) = true) (bD : Binds K fdD ["_law_tape", "_law_many"] [])
    (GL : FnOk P w K mg base CX0 3 fL fdL ["_law_tape"] spLeaf) (mL : mg "_law_leaf" = some (.ref fL)) (kL : PySem.W.keepIn K (.ref fL) = true) (bL : Binds K fdL ["_law_tape"] [])
    (mF : mg "_law_test" = some (.ref f)) (kF : PySem.W.keepIn K (.ref f) = true) (bF : Binds K fd ["_law_tape", "_law_deep"] []) (mW : mg "_law_walk" = some (.ref fW)) (kW : PySem.W.keepIn K (.ref fW) = true) (bW : Binds K fdW ["_law_tape", "_law_deep"] [])
    (mB : mg "_law_both_tests" = some (.ref fB)) (kB : PySem.W.keepIn K (.ref fB) = true) (bB : Binds K fdB ["_law_tape", "_law_deep"] [])
    (ihT : FnOk P w K mg base CX0 lt f fd ["_law_tape", "_law_deep"] (spTm K "test" nT 0 j)) (ihW : FnOk P w K mg base CX0 lw fW fdW ["_law_tape", "_law_deep"] (spTm K "walk" nW 0 j)) (ihB : FnOk P w K mg base CX0 L fB fdB ["_law_tape", "_law_deep"] (spTm K "test" nB 1 (j + 1))) : FnOk P w K mg base CX0 (L + 1) f fd ["_law_tape", "_law_deep"] (spTm K "test" nT 0 (j + 1)) := by
  refine F.ok (k := L) scTt (fun vs H Q E h => ?_) (fun cdv A outer s H vs Q E hr h => ?_)
  · obtain ⟨d, l, p, n, m, ks, _, rfl, _⟩ := h
    rfl
  · obtain ⟨d, l, p, n, m, ks, ⟨hm1, hm2⟩, rfl, hT, hn, hl, hp, hk, q⟩ := h
    have hr1 : Room 1 _ := hr.mono (show 1 ≤ L by omega)
    have hr2 : Room 2 _ := hr.mono (show 2 ≤ L by omega)
    have hr3 : Room 3 _ := hr.mono hL
    have hrw : Room lw _ := hr.mono hw
    have hrt : Room lt _ := hr.mono ht
    refine ⟨_, pss_cons (ps_set (i := 2) scTt.nd rfl (Or.inl rfl) (pe_ifExp (pt_cmpR op_gt (pv 1) pe_int (nomark _)) (pe_call GD hr1 (by rfl) mD kD bD .nil pass0 (pa_cons (pv 0) (pa_cons pe_int pa_nil))) (pe_call GD hr1 (by rfl) mD kD bD .nil pass0 (pa_cons (pv 0) (pa_cons pe_int pa_nil)))))
      (pss_cons (ps_if (pt_cmpR op_eq (pv 2) pe_int (nomark _)) (pss_one (ps_ret (pe_tup (pa_cons pe_str (pa_cons (pe_call GP hr2 (by rfl) mP kP bP .nil pass0 (pa_cons (pv 0) (pa_cons (pe_lst (pa_cons pe_str (pa_cons pe_str (pa_cons pe_str (pa_cons pe_str (pa_cons pe_str (pa_cons pe_str (pa_cons pe_str pa_nil)))))))) pa_nil))) pa_nil))))) pss_nil)
      (pss_cons (ps_if (pt_cmpR op_eq (pv 2) pe_int (nomark _)) (pss_one (ps_ret (pe_tup (pa_cons pe_str (pa_cons (pe_call GL hr3 (by rfl) mL kL bL .nil pass0 (pa_cons (pv 0) pa_nil)) pa_nil))))) pss_nil)
      (pss_cons (ps_if (pt_cmpR op_lt (pv 2) pe_int (nomark _)) (pss_one (ps_ret (pe_tup (pa_cons pe_str (pa_cons (pe_call ihW hrw (by rfl) mW kW bW .nil pass0 (pa_cons (pv 0) (pa_cons (pe_op op_sub (pv 1) pe_int) pa_nil))) (pa_cons (pe_call ihT hrt (by rfl) mF kF bF .nil pass0 (pa_cons (pv 0) (pa_cons (pe_op op_sub (pv 1) pe_int) pa_nil))) pa_nil)))))) pss_nil)
      (pss_one (ps_ret (pe_ifExp (pt_cmpR op_eq (pv 2) pe_int (nomark _)) (pe_tup (pa_cons pe_str (pa_cons (pe_call ihT hrt (by rfl) mF kF bF .nil pass0 (pa_cons (pv 0) (pa_cons (pe_op op_sub (pv 1) pe_int) pa_nil))) pa_nil))) (pe_call ihB hr (by rfl) mB kB bB .nil pass0 (pa_cons (pv 0) (pa_cons (pv 1) pa_nil))))))))), ?_⟩
    have sj : Stb d (JK p ks) := stb_list (np_of hT hp)
    have so : ∀ {x : Str} {σ : L2.St}, x ∈ sortsL → Dr d l (JK p ks) (tC (.str x)) σ 0 (fun _ v => ∃ x, v = .str x ∧ SortW x) := fun h => dr_const fun _ => ⟨_, rfl, h⟩
    have w_is : WdOk "test" ["sort"] "is" := ⟨by decide +kernel, by decide +kernel, by decide +kernel, by decide +kernel, by decide +kernel, by decide +kernel⟩
    have w_eq : WdOk "test" ["leaf"] "equal" := ⟨by decide +kernel, by decide +kernel, by decide +kernel, by decide +kernel, by decide +kernel, by decide +kernel⟩
    have w_at : WdOk "test" ["walk", "test"] "at" := ⟨by decide +kernel, by decide +kernel, by decide +kernel, by decide +kernel, by decide +kernel, by decide +kernel⟩
    have w_no : WdOk "test" ["test"] "not" := ⟨by decide +kernel, by decide +kernel, by decide +kernel, by decide +kernel, by decide +kernel, by decide +kernel⟩
    have sm : ∀ {x : Str}, x ∈ sortsL → SortW x := fun h => h
    have a_is : ∀ r : Int, Dr d l (JK p ks) _ [some (.ref d), some (.int m), some (.int r)] _ (Sv K d (Gd "test" (0 + 1) (1 + 0))) := fun r => dr_node (ks := ["sort"]) (s := 0) sj w_is (dfs_leaf (S := LfK "sort") (m := 0) sj ((dr_pick sj rfl st_wd (dal_cons sj st_wd (so (x := "null") (by decide +kernel)) (dal_cons sj st_wd (so (x := "no") (by decide +kernel)) (dal_cons sj st_wd (so (x := "yes") (by decide +kernel)) (dal_cons sj st_wd (so (x := "number") (by decide +kernel)) (dal_cons sj st_wd (so (x := "text") (by decide +kernel)) (dal_cons sj st_wd (so (x := "list") (by decide +kernel)) (dal_cons sj st_wd (so (x := "dict") (by decide +kernel)) dal_nil))))))) (by decide)).mono (fun H v z => sort_pv z) (Nat.le_refl _)) (fun _ z => z) dfs_nil)
    have a_eq : ∀ r : Int, Dr d l (JK p ks) _ [some (.ref d), some (.int m), some (.int r)] _ (Sv K d (Gd "test" (0 + 1) (1 + 0))) := fun r => dr_node (ks := ["leaf"]) (s := 0) sj w_eq (dfs_leaf (S := LfK "leaf") (m := 0) sj (dr_leaf (K := K) rfl) (fun _ z => z) dfs_nil)
    have n0 : 1 ≤ (nT m).1 ∧ 1 ≤ (nT m).2.1 ∧ 2 ≤ (nT m).2.2 := by
      have : m = 0 ∨ m = 1 ∨ m = 2 := by omega
      rcases this with rfl | rfl | rfl <;> decide
    refine ⟨_, rfl, _, _, rfl, rfl, _, rfl, ite2 (fun c => ?_) (fun c => ?_)⟩
    · have c0 : 0 < (m : Int) := of_decide_eq_true c
      obtain ⟨k, rfl⟩ : ∃ k, m = k + 1 := ⟨m - 1, by omega⟩
      obtain ⟨M, hM, hW1, hT1, hs1, hs2, hc1, hc2, hb1, hb2, hb3⟩ : ∃ M, M + 1 ≤ (nT (k + 1)).1 ∧ (nW k).1 ≤ M ∧ (nT k).1 ≤ M ∧ 1 + ((nW k).2.1 + ((nT k).2.1 + 0)) ≤ (nT (k + 1)).2.1 ∧ 1 + ((nT k).2.1 + 0) ≤ (nT (k + 1)).2.1 ∧ 0 + ((nW k).2.2 + ((nT k).2.2 + 0)) + 1 ≤ (nT (k + 1)).2.2 ∧ 0 + ((nT k).2.2 + 0) + 1 ≤ (nT (k + 1)).2.2 ∧ (nB (k + 1)).1 ≤ (nT (k + 1)).1 ∧ (nB (k + 1)).2.1 ≤ (nT (k + 1)).2.1 ∧ (nB (k + 1)).2.2 + 1 ≤ (nT (k + 1)).2.2 := by
        have : k = 0 ∨ k = 1 := by omega
        rcases this with rfl | rfl
        · exact ⟨1, by decide⟩
        · exact ⟨3, by decide⟩
      have tm : ∀ r : Int, Dr d l (JK p ks) _ [some (.ref d), some (.int ((k + 1 : Nat) : Int)), some (.int r)] _ (Sv K d (Gd "test" (nT k).1 (nT k).2.1)) := fun r => dr_tm (j := j) (lo := 0) rfl rfl ⟨by omega, by omega⟩ hl hk
      have wk : ∀ r : Int, Dr d l (JK p ks) _ [some (.ref d), some (.int ((k + 1 : Nat) : Int)), some (.int r)] _ (Sv K d (Gd "walk" (nW k).1 (nW k).2.1)) := fun r => dr_tm (j := j) (lo := 0) rfl rfl ⟨by omega, by omega⟩ hl hk
      have bt : ∀ r : Int, Dr d l (JK p ks) _ [some (.ref d), some (.int ((k + 1 : Nat) : Int)), some (.int r)] _ (Sv K d (Gd "test" (nB (k + 1)).1 (nB (k + 1)).2.1)) := fun r => dr_tm0 (j := j + 1) (lo := 1) rfl rfl ⟨by omega, by omega⟩ hl hk
      refine ⟨_, rfl, d, l, n, 6, rfl, hT, by omega, by decide, by decide, fun H1 r b1 t1 r0 r1 => ?_⟩
      have hp1 := sj _ _ b1 hp
      refine ⟨_, rfl, rfl, _, rfl, ite2 (fun c1 => ?_) (fun c1 => ?_)⟩
      · exact ret_run (a_is r H1 (n + 1) _ hp1 t1 (by omega) fun H2 v b2 t2 r2 => q H2 v (b1.trans b2) (t2.more (by omega)) (r2.imp fun _ z => Gd.mono z (by omega) (by omega)))
      refine ⟨_, rfl, rfl, _, rfl, ite2 (fun c2 => ?_) (fun c2 => ?_)⟩
      · exact ret_run (a_eq r H1 (n + 1) _ hp1 t1 (by omega) fun H2 v b2 t2 r2 => q H2 v (b1.trans b2) (t2.more (by omega)) (r2.imp fun _ z => Gd.mono z (by omega) (by omega)))
      refine ⟨_, rfl, _, _, rfl, rfl, _, rfl, ite2 (fun c3 => ?_) (fun c3 => ?_)⟩
      · exact ret_run (dr_node sj w_at (dfs_part sj (by decide +kernel) (by decide +kernel) hW1 (wk r) (dfs_part sj (by decide +kernel) (by decide +kernel) hT1 (tm r) dfs_nil)) H1 (n + 1) _ hp1 t1 (by omega) fun H2 v b2 t2 r2 => q H2 v (b1.trans b2) (t2.more (by omega)) (r2.imp fun _ z => Gd.mono z hM hs1))
      unfold tNext
      dsimp only
      refine ret_run ?_
      refine ⟨_, rfl, rfl, _, rfl, ite2 (fun c4 => ?_) (fun c4 => ?_)⟩
      · exact dr_node sj w_no (dfs_part sj (by decide +kernel) (by decide +kernel) hT1 (tm r) dfs_nil) H1 (n + 1) _ hp1 t1 (by omega) fun H2 v b2 t2 r2 => q H2 v (b1.trans b2) (t2.more (by omega)) (r2.imp fun _ z => Gd.mono z hM hs2)
      · exact bt r H1 (n + 1) _ hp1 t1 (by omega) fun H2 v b2 t2 r2 => q H2 v (b1.trans b2) (t2.more (by omega)) (r2.imp fun _ z => Gd.mono z hb1 hb2)
    · refine ⟨_, rfl, d, l, n, 2, rfl, hT, by omega, by decide, by decide, fun H1 r b1 t1 r0 r1 => ?_⟩
      have hp1 := sj _ _ b1 hp
      refine ⟨_, rfl, rfl, _, rfl, ite2 (fun c1 => ?_) (fun c1 => ?_)⟩
      · exact ret_run (a_is r H1 (n + 1) _ hp1 t1 (by omega) fun H2 v b2 t2 r2 => q H2 v (b1.trans b2) (t2.more (by omega)) (r2.imp fun _ z => Gd.mono z (by omega) (by omega)))
      refine ⟨_, rfl, rfl, _, rfl, ite2 (fun c2 => ?_) (fun c2 => ?_)⟩
      · exact ret_run (a_eq r H1 (n + 1) _ hp1 t1 (by omega) fun H2 v b2 t2 r2 => q H2 v (b1.trans b2) (t2.more (by omega)) (r2.imp fun _ z => Gd.mono z (by omega) (by omega)))
      · exfalso
        have x1 : ¬ r = 0 := fun z => c1 (decide_eq_true (by rw [z]))
        have x2 : ¬ r = 1 := fun z => c2 (decide_eq_true (by rw [z]))
        omega
end
end Toy


namespace Toy
open PySem PySem.Spec L2 PyProof.Rows PySem.W
/-! ### walks -/
theorem k_ck : ¬ (kC = kKs) := by decide +kernel
theorem k_ak : ¬ (kA = kKs) := by decide +kernel
theorem k_lk : ¬ (kL = kKs) := by decide +kernel
theorem get_keys {H : Hp} {d p : Addr} {l : Tl} {a f : Int} (h : H d = some (.dK (tp l a f))) (hl : valV l.m kKs = some (.ref p)) : DGet H d (.str ("keys" : Str)) (some (.ref p)) := by
  have z := DGet.k (k := kKs) h
  unfold tp at z
  rw [valV_neg k_ck, valV_neg k_ak, valV_neg k_lk, hl] at z
  exact z
section
variable {K : PySem.W.Frag} {d p : Addr} {l : Tl} {σ : L2.St} {ks : List Str}
theorem dr_keyT (h0 : σ[0]? = some (some (.ref d))) (hl : valV l.m kKs = some (.ref p)) (hk : KsOk ks) : Dr d l (JK p ks) (tCall spPick [] E0 (tCons (tVar 0) (tCons (tDGet (tVar 0) (tC (.str "keys"))) tNil))) σ 1 (Sv K d (LfK "key")) :=
  fun H n Q j t b q => by
    have t' := t
    obtain ⟨ns, a, f, hd, _⟩ := t'
    refine ⟨_, h0, _, h0, d, .ref p, rfl, get_keys hd hl, d, l, p, n, _, rfl, t, by omega, j, fun e => hk.1 (List.map_eq_nil_iff.mp e), by have := hk.2.1; rw [List.length_map]; omega, fun H1 v b1 t1 hv => ?_⟩
    obtain ⟨x, hx, rfl⟩ := List.mem_map.mp hv
    exact q H1 _ b1 t1 ⟨_, .str x, hk.2.2 x hx⟩
theorem dr_idx3 {J : Hp → Prop} (h0 : σ[0]? = some (some (.ref d))) : Dr d l J (tCall spDraw [] E0 (tCons (tVar 0) (tCons (tC (.int 3)) tNil))) σ 1 (Sv K d (LfK "index")) :=
  (dr_draw h0 (by decide)).mono (fun H v ⟨i, e, i0, i3⟩ => by
    subst e
    refine ⟨_, .int i, ?_⟩
    have : i = 0 ∨ i = 1 ∨ i = 2 := by omega
    rcases this with rfl | rfl | rfl
    all_goals exact ⟨by decide +kernel, by decide +kernel, by decide +kernel, by decide +kernel, by decide +kernel, by decide +kernel⟩) (Nat.le_refl _)
theorem dr_tmC {kd : Str} {g : Nat → Nat × Nat × Nat} {lo j : Nat} (h0 : σ[0]? = some (some (.ref d))) (hm : lo ≤ 1 ∧ 1 < j) (hl : valV l.m kKs = some (.ref p)) (hk : KsOk ks) : Dr d l (JK p ks) (tCall (spTm K kd g lo j) [] E0 (tCons (tVar 0) (tCons (tC (.int 1)) tNil))) σ (g 1).2.2 (Sv K d (Gd kd (g 1).1 (g 1).2.1)) :=
  fun H n Q j t b q => ⟨_, h0, d, l, p, n, 1, ks, hm, rfl, t, b, hl, j, hk, q⟩
end
abbrev NWk : List Str := ["_law_tape", "_law_deep", "_law_way", "_law_some"]
section
variable {P : Program} {w : World} {K : PySem.W.Frag} {mg : Str → Option Value} {base : Heap}
theorem scWk : FnScope NWk ["_law_tape", "_law_deep"] (defScope sWalk) := ⟨rfl, rfl, rfl, by decide +kernel, rfl, by decide +kernel, by decide +kernel⟩
theorem ok_wk {j jt L : Nat} (hj : j ≤ 1) (hjt : 1 ≤ j → 2 ≤ jt) (hL : 2 ≤ L) {f fP fD fT : Addr} {fd fdP fdD fdT : FuncData} {lw : Nat} (hw : lw ≤ L) (F : Fun K "_law_walk" "_law_walk" sWalk f fd) (GP : FnOk P w K mg base CX0 2 fP fdP ["_law_tape", "_law_items"] spPick) (mP : mg "_law_pick" = some (.ref fP)) (kP : PySem.W.keepIn K (.ref fP) = true) (bP : Binds K fdP ["_law_tape", "_law_items"] [])
    (GD : FnOk P w K mg base CX0 1 fD fdD ["_law_tape", "_law_many"] spDraw) (mD : mg "_law_draw" = some (.ref fD)) (kD : PySem.W.keepIn K (.ref fD) = true) (bD : Binds K fdD ["_law_tape", "_law_many"] [])
    (mF : mg "_law_walk" = some (.ref f)) (kF : PySem.W.keepIn K (.ref f) = true) (bF : Binds K fd ["_law_tape", "_law_deep"] []) (mT : mg "_law_test" = some (.ref fT)) (kT : PySem.W.keepIn K (.ref fT) = true) (bT : Binds K fdT ["_law_tape", "_law_deep"] [])
    (ihT : FnOk P w K mg base CX0 L fT fdT ["_law_tape", "_law_deep"] (spTm K "test" nT 0 jt)) (ihW : FnOk P w K mg base CX0 lw f fd ["_law_tape", "_law_deep"] (spTm K "walk" nW 0 j)) : FnOk P w K mg base CX0 (L + 1) f fd ["_law_tape", "_law_deep"] (spTm K "walk" nW 0 (j + 1)) := by
  refine F.ok (k := L) scWk (fun vs H Q E h => ?_) (fun cdv A outer s H vs Q E hr h => ?_)
  · obtain ⟨d, l, p, n, m, ks, _, rfl, _⟩ := h
    rfl
  · obtain ⟨d, l, p, n, m, ks, ⟨hm1, hm2⟩, rfl, hT, hn, hl, hp, hk, q⟩ := h
    have hr1 : Room 1 _ := hr.mono (show 1 ≤ L by omega)
    have hr2 : Room 2 _ := hr.mono hL
    have hrw : Room lw _ := hr.mono hw
    have hu := hu_of hr
    refine ⟨_, pss_cons (ps_set (i := 2) scWk.nd rfl (Or.inl rfl) (pe_ifExp (pt_cmpR op_gt (pv 1) pe_int (nomark _)) (pe_call GD hr1 (by rfl) mD kD bD .nil pass0 (pa_cons (pv 0) (pa_cons pe_int pa_nil))) (pe_call GD hr1 (by rfl) mD kD bD .nil pass0 (pa_cons (pv 0) (pa_cons pe_int pa_nil)))))
      (pss_cons (ps_if (pt_cmpR op_lt (pv 2) pe_int (nomark _))
        (pss_cons (ps_set (i := 3) scWk.nd rfl (Or.inl rfl) (pe_op op_cat (pe_lst (pa_cons (pe_tup (pa_cons pe_str pa_nil)) (pa_cons (pe_tup (pa_cons pe_str pa_nil)) (pa_cons (pe_tup (pa_cons pe_str pa_nil)) pa_nil))))
          (pe_op op_rep (pe_lst (pa_cons (pe_tup (pa_cons pe_str (pa_cons (pe_call GP hr2 (by rfl) mP kP bP .nil pass0 (pa_cons (pv 0) (pa_cons (pe_dget hu (pv 0) pe_str (fun _ _ => rfl)) pa_nil))) pa_nil))) (pa_cons (pe_tup (pa_cons pe_str (pa_cons (pe_call GD hr1 (by rfl) mD kD bD .nil pass0 (pa_cons (pv 0) (pa_cons pe_int pa_nil))) pa_nil))) pa_nil))) pe_int)))
        (pss_one (ps_ret (pe_ix ix_list (pv 3) (pv 2) (fun _ _ => rfl))))) pss_nil)
      (pss_cons (ps_if (pt_cmpR op_eq (pv 2) pe_int (nomark _)) (pss_one (ps_ret (pe_tup (pa_cons pe_str (pa_cons (pe_call ihT hr (by rfl) mT kT bT .nil pass0 (pa_cons (pv 0) (pa_cons pe_int pa_nil))) (pa_cons (pe_call ihW hrw (by rfl) mF kF bF .nil pass0 (pa_cons (pv 0) (pa_cons (pe_op op_sub (pv 1) pe_int) pa_nil))) (pa_cons (pe_call ihW hrw (by rfl) mF kF bF .nil pass0 (pa_cons (pv 0) (pa_cons (pe_op op_sub (pv 1) pe_int) pa_nil))) pa_nil))))))) pss_nil)
      (pss_one (ps_ret (pe_tup (pa_cons pe_str (pa_cons (pe_call ihW hrw (by rfl) mF kF bF .nil pass0 (pa_cons (pv 0) (pa_cons (pe_op op_sub (pv 1) pe_int) pa_nil))) (pa_cons (pe_call ihW hrw (by rfl) mF kF bF .nil pass0 (pa_cons (pv 0) (pa_cons (pe_op op_sub (pv 1) pe_int) pa_nil))) pa_nil)))))))), ?_⟩
    have sj : Stb d (JK p ks) := stb_list (np_of hT hp)
    have w0 : ∀ {x : Str}, x ∈ (["same", "none", "fail"] : List Str) → WdOk "walk" [] x := fun {x} h => by
      simp only [List.mem_cons, List.not_mem_nil, or_false] at h
      rcases h with rfl | rfl | rfl
      all_goals exact ⟨by decide +kernel, by decide +kernel, by decide +kernel, by decide +kernel, by decide +kernel, by decide +kernel⟩
    have w_f : WdOk "walk" ["key"] "field" := ⟨by decide +kernel, by decide +kernel, by decide +kernel, by decide +kernel, by decide +kernel, by decide +kernel⟩
    have w_i : WdOk "walk" ["index"] "item" := ⟨by decide +kernel, by decide +kernel, by decide +kernel, by decide +kernel, by decide +kernel, by decide +kernel⟩
    have w_if : WdOk "walk" ["test", "filter", "filter"] "if" := ⟨by decide +kernel, by decide +kernel, by decide +kernel, by decide +kernel, by decide +kernel, by decide +kernel⟩
    have w_p : WdOk "walk" ["filter", "filter"] "pipe" := ⟨by decide +kernel, by decide +kernel, by decide +kernel, by decide +kernel, by decide +kernel, by decide +kernel⟩
    have first : ∀ (r : Int) (H1 : Hp) (n1 : Nat), 0 ≤ r → r < 7 → H1 p = some (.lst (ks.map V.str)) → Tape H1 d l n1 → n1 + 2 ≤ 900000 → ∀ (Q1 : VK), (∀ H' v, But d H1 H' → Tape H' d l (n1 + 2) → Sv K d (Gd "walk" 1 1) H' v → Q1 v H') → ∀ (D : Ends), D.rt = Q1 → ∀ o, tSeq (tAsg (tOp rCat (tLst (tCons (tTup (tCons (tC (.str "same")) tNil)) (tCons (tTup (tCons (tC (.str "none")) tNil)) (tCons (tTup (tCons (tC (.str "fail")) tNil)) tNil)))) (tOp rRep (tLst (tCons (tTup (tCons (tC (.str "field")) (tCons (tCall spPick [] E0 (tCons (tVar 0) (tCons (tDGet (tVar 0) (tC (.str "keys"))) tNil))) tNil))) (tCons (tTup (tCons (tC (.str "item")) (tCons (tCall spDraw [] E0 (tCons (tVar 0) (tCons (tC (.int 3)) tNil))) tNil))) tNil))) (tC (.int 2)))) (gName 3)) (tRet (tOp (rIxL K) (tVar 3) (tVar 2))) D [some (.ref d), some (.int m), some (.int r), o] H1 := by
      intro r H1 n1 r0 r7 hp1 t1 hn1 Q1 q1 D hD o
      have na : ∀ {x : Str}, x ∈ (["same", "none", "fail"] : List Str) → Dr d l (JK p ks) (tTup (tCons (tC (.str x)) tNil)) [some (.ref d), some (.int m), some (.int r), o] 0 (Sv K d (Gd "walk" 1 1)) := fun h => dr_node (m := 0) (s := 0) sj (w0 h) dfs_nil
      have aA := dal_cons sj sv_st (na (x := "same") (by decide +kernel)) (dal_cons sj sv_st (na (x := "none") (by decide +kernel)) (dal_cons sj sv_st (na (x := "fail") (by decide +kernel)) dal_nil))
      have fk : Dr d l (JK p ks) _ [some (.ref d), some (.int m), some (.int r), o] _ (Sv K d (Gd "walk" 1 1)) := dr_node (ks := ["key"]) (m := 0) (s := 0) sj w_f (dfs_leaf (S := LfK "key") (m := 0) sj (dr_keyT (K := K) rfl hl hk) (fun _ z => z) dfs_nil)
      have ik : Dr d l (JK p ks) _ [some (.ref d), some (.int m), some (.int r), o] _ (Sv K d (Gd "walk" 1 1)) := dr_node (ks := ["index"]) (m := 0) (s := 0) sj w_i (dfs_leaf (S := LfK "index") (m := 0) sj (dr_idx3 (K := K) rfl) (fun _ z => z) dfs_nil)
      have aB := dal_cons sj sv_st fk (dal_cons sj sv_st ik dal_nil)
      refine asg_run (lst_run sv_st aA (by decide) hp1 t1 (by omega) fun H2 L2' xs b2 t2 nL2 hL2 r2 => ?_)
      refine lst_run sv_st aB (by decide) (sj _ _ b2 hp1) t2 (by omega) fun H3 L3 ys b3 t3 nL3 hL3 r3 => ?_
      have s4 : ∀ L4, H3 L4 = none → Same H3 (upd H3 L4 (.lst (List.replicate (2 : Int).toNat ys).flatten)) := fun L4 n4 => same_new same_id n4
      refine ⟨L3, 2, ys, rfl, rfl, hL3, by decide, by decide, few (by rw [r3.1]; decide), fun L4 n4 => ?_⟩
      refine ⟨L2', L4, xs, _, rfl, rfl, s4 L4 n4 _ _ (b3 _ _ nL2 hL2), upd_same, few (by rw [r2.1]; simp [r3.1]), fun L5 n5 => ?_⟩
      have s5 := same_new (u := .lst (xs ++ (List.replicate (2 : Int).toNat ys).flatten)) (s4 L4 n4) n5
      have b5 : But d H3 _ := Same.but s5 d
      have hlen : (xs ++ (List.replicate (2 : Int).toNat ys).flatten).length = 7 := by simp [r2.1, r3.1]
      obtain ⟨e, rfl⟩ : ∃ e : Nat, r = e := ⟨r.toNat, by omega⟩
      obtain ⟨v, hv⟩ : ∃ v, (xs ++ (List.replicate (2 : Int).toNat ys).flatten)[e]? = some v := ⟨_, List.getElem?_eq_getElem (by omega)⟩
      have hall : Sv K d (Gd "walk" 1 1) H3 v := by
        have hm := List.mem_of_getElem? hv
        rcases List.mem_append.mp hm with z | z
        · exact (r2.2 v z).but b3
        · obtain ⟨zs, hz, hz2⟩ := List.mem_flatten.mp z
          rw [List.eq_of_mem_replicate hz] at hz2
          exact r3.2 v hz2
      subst hD
      refine ret_run ⟨_, rfl, _, rfl, L5, _, _, v, rfl, rfl, SqL.of upd_same, atI_nat hv, q1 _ v (b2.trans (b3.trans b5)) ((t3.same s5).more (by omega)) (hall.but b5)⟩
    refine ⟨_, rfl, _, _, rfl, rfl, _, rfl, ite2 (fun c => ?_) (fun c => ?_)⟩
    · have c0 : 0 < (m : Int) := of_decide_eq_true c
      obtain ⟨k, rfl⟩ : ∃ k, m = k + 1 := ⟨m - 1, by omega⟩
      obtain rfl : k = 0 := by omega
      have hj2 := hjt (by omega)
      have te : ∀ r : Int, Dr d l (JK p ks) _ [some (.ref d), some (.int ((0 + 1 : Nat) : Int)), some (.int r), none] _ (Sv K d (Gd "test" (nT 1).1 (nT 1).2.1)) := fun r => dr_tmC (j := jt) (lo := 0) rfl ⟨by omega, by omega⟩ hl hk
      have wk : ∀ r : Int, Dr d l (JK p ks) _ [some (.ref d), some (.int ((0 + 1 : Nat) : Int)), some (.int r), none] _ (Sv K d (Gd "walk" (nW 0).1 (nW 0).2.1)) := fun r => dr_tm (j := j) (lo := 0) rfl rfl ⟨by omega, by omega⟩ hl hk
      have e13 : (nW (0 + 1)).2.2 = 13 := rfl
      have e6 : (nT 1).2.2 = 6 := rfl
      have e3 : (nW 0).2.2 = 3 := rfl
      rw [e13] at hn q
      refine ⟨_, rfl, d, l, n, 10, rfl, hT, by omega, by decide, by decide, fun H1 r b1 t1 r0 r1 => ?_⟩
      have hp1 := sj _ _ b1 hp
      refine ⟨_, rfl, _, _, rfl, rfl, _, rfl, ite2 (fun c1 => ?_) (fun c1 => ?_)⟩
      · exact first r H1 (n + 1) r0 (of_decide_eq_true c1) hp1 t1 (by omega) _ (fun H2 v b2 t2 r2 => q H2 v (b1.trans b2) (t2.more (by omega)) (r2.imp fun _ z => Gd.mono z (by decide) (by decide))) _ rfl _
      refine ⟨_, rfl, rfl, _, rfl, ite2 (fun c2 => ?_) (fun c2 => ?_)⟩
      · exact ret_run (dr_node (m := 2) sj w_if (dfs_part sj (by decide +kernel) (by decide +kernel) (by decide) (te r) (dfs_part sj (by decide +kernel) (by decide +kernel) (by decide) (wk r) (dfs_part sj (by decide +kernel) (by decide +kernel) (by decide) (wk r) dfs_nil))) H1 (n + 1) _ hp1 t1 (by omega) fun H2 v b2 t2 r2 => q H2 v (b1.trans b2) (t2.more (by omega)) (r2.imp fun _ z => Gd.mono z (by decide) (by decide)))
      · exact ret_run (dr_node (m := 2) sj w_p (dfs_part sj (by decide +kernel) (by decide +kernel) (by decide) (wk r) (dfs_part sj (by decide +kernel) (by decide +kernel) (by decide) (wk r) dfs_nil)) H1 (n + 1) _ hp1 t1 (by omega) fun H2 v b2 t2 r2 => q H2 v (b1.trans b2) (t2.more (by omega)) (r2.imp fun _ z => Gd.mono z (by decide) (by decide)))
    · have c0 : ¬ 0 < (m : Int) := fun z => c (decide_eq_true z)
      obtain rfl : m = 0 := by omega
      have e3 : (nW 0).2.2 = 3 := rfl
      rw [e3] at hn q
      refine ⟨_, rfl, d, l, n, 7, rfl, hT, by omega, by decide, by decide, fun H1 r b1 t1 r0 r1 => ?_⟩
      have hp1 := sj _ _ b1 hp
      refine ⟨_, rfl, _, _, rfl, rfl, _, rfl, ite2 (fun c1 => ?_) (fun c1 => absurd (decide_eq_true r1) c1)⟩
      exact first r H1 (n + 1) r0 r1 hp1 t1 (by omega) _ (fun H2 v b2 t2 r2 => q H2 v (b1.trans b2) (t2.more (by omega)) (r2.imp fun _ z => Gd.mono z (by decide) (by decide))) _ rfl _
end
end Toy


namespace Toy
open PySem PySem.Spec L2 PyProof.Rows PySem.W
section
variable {P : Program} {w : World} {K : PySem.W.Frag} {mg : Str → Option Value} {base : Heap}
theorem ok_tests {fP fD fL fT fW fB : Addr} {fdP fdD fdL fdT fdW fdB : FuncData} (FT : Fun K "_law_test" "_law_test" sTest fT fdT) (FW : Fun K "_law_walk" "_law_walk" sWalk fW fdW) (FB : Fun K "_law_both_tests" "_law_both_tests" sBoth fB fdB) (GP : FnOk P w K mg base CX0 2 fP fdP ["_law_tape", "_law_items"] spPick) (mP : mg "_law_pick" = some (.ref fP)) (kP : PySem.W.keepIn K (.ref fP) = true) (bP : Binds K fdP ["_law_tape", "_law_items"] [])
    (GD : FnOk P w K mg base CX0 1 fD fdD ["_law_tape", "_law_many"] spDraw) (mD : mg "_law_draw" = some (.ref fD)) (kD : PySem.W.keepIn K (.ref fD) = true) (bD : Binds K fdD ["_law_tape", "_law_many"] [])
    (GL : FnOk P w K mg base CX0 3 fL fdL ["_law_tape"] spLeaf) (mL : mg "_law_leaf" = some (.ref fL)) (kL : PySem.W.keepIn K (.ref fL) = true) (bL : Binds K fdL ["_law_tape"] [])
    (mT : mg "_law_test" = some (.ref fT)) (kT : PySem.W.keepIn K (.ref fT) = true) (bT : Binds K fdT ["_law_tape", "_law_deep"] []) (mW : mg "_law_walk" = some (.ref fW)) (kW : PySem.W.keepIn K (.ref fW) = true) (bW : Binds K fdW ["_law_tape", "_law_deep"] [])
    (mB : mg "_law_both_tests" = some (.ref fB)) (kB : PySem.W.keepIn K (.ref fB) = true) (bB : Binds K fdB ["_law_tape", "_law_deep"] []) :
    FnOk P w K mg base CX0 9 fT fdT ["_law_tape", "_law_deep"] (spTm K "test" nT 0 3) := by
  have T0 : FnOk P w K mg base CX0 3 fT fdT ["_law_tape", "_law_deep"] (spTm K "test" nT 0 0) := tm_zero FT scTt
  have W0 : FnOk P w K mg base CX0 3 fW fdW ["_law_tape", "_law_deep"] (spTm K "walk" nW 0 0) := tm_zero FW scWk
  have B1 := ok_bt (j := 0) (L := 3) (by decide) (by decide) FB GP mP kP bP mT kT bT T0
  have T1 := ok_ts (j := 0) (L := 4) (by decide) (by decide) (lw := 3) (by decide) (lt := 3) (by decide) FT GP mP kP bP GD mD kD bD GL mL kL bL mT kT bT mW kW bW mB kB bB T0 W0 B1
  have W1 := ok_wk (j := 0) (jt := 0) (L := 3) (by decide) (fun h => absurd h (by decide)) (by decide) (lw := 3) (by decide) FW GP mP kP bP GD mD kD bD mW kW bW mT kT bT T0 W0
  have B2 := ok_bt (j := 1) (L := 5) (by decide) (by decide) FB GP mP kP bP mT kT bT T1
  have T2 := ok_ts (j := 1) (L := 6) (by decide) (by decide) (lw := 4) (by decide) (lt := 5) (by decide) FT GP mP kP bP GD mD kD bD GL mL kL bL mT kT bT mW kW bW mB kB bB T1 W1 B2
  have W2 := ok_wk (j := 1) (jt := 2) (L := 7) (by decide) (fun _ => by decide) (by decide) (lw := 4) (by decide) FW GP mP kP bP GD mD kD bD mW kW bW mT kT bT T2 W1
  have B3 := ok_bt (j := 2) (L := 7) (by decide) (by decide) FB GP mP kP bP mT kT bT T2
  exact ok_ts (j := 2) (L := 8) (by decide) (by decide) (lw := 8) (by decide) (lt := 7) (by decide) FT GP mP kP bP GD mD kD bD GL mL kL bL mT kT bT mW kW bW mB kB bB T2 W2 B3
end
end Toy


namespace Toy
open PySem PySem.Spec L2 PyProof.Rows PySem.W
/-! ### the words that a turn begins with -/
abbrev sStart : Stmt := top 52
def Lw (n : Nat) (x : Str) : Prop := x.length ≤ n ∧ x.cps.toList.all lower = true
theorem lw_len (a b : Str) : (a ++ b).length = a.length + b.length := by
  show (a.cps ++ b.cps).size = a.cps.size + b.cps.size
  exact Array.size_append
theorem Lw.app {n m : Nat} {a b : Str} (h : Lw n a) (k : Lw m b) : Lw (n + m) (a ++ b) := ⟨by rw [lw_len]; exact Nat.add_le_add h.1 k.1, by
  show (a.cps ++ b.cps).toList.all lower = true
  rw [Array.toList_append, List.all_append, h.2, k.2]
  rfl⟩
theorem lw_join : ∀ {ws : List Str}, (∀ x ∈ ws, Lw 1 x) → Lw ws.length (Str.join ("" : Str) ws)
  | [], _ => ⟨by decide +kernel, by decide +kernel⟩
  | [x], h => h x List.mem_cons_self
  | x :: y :: r, h => by
    have ih := lw_join (ws := y :: r) fun z hz => h z (List.mem_cons_of_mem _ hz)
    have e : Str.join ("" : Str) (x :: y :: r) = x ++ ("" : Str) ++ Str.join ("" : Str) (y :: r) := rfl
    rw [e]
    have z : Lw 0 ("" : Str) := ⟨by decide +kernel, by decide +kernel⟩
    have := ((h x List.mem_cons_self).app z).app ih
    refine ⟨Nat.le_trans this.1 ?_, this.2⟩
    simp only [List.length_cons]
    omega
theorem lw_sum : ∀ {ws : List Str}, (∀ x ∈ ws, Lw 1 x) → (ws.map (·.length)).sum ≤ ws.length
  | [], _ => Nat.le_refl _
  | x :: r, h => by
    have ih := lw_sum (ws := r) fun z hz => h z (List.mem_cons_of_mem _ hz)
    have := (h x List.mem_cons_self).1
    simp only [List.map_cons, List.sum_cons, List.length_cons]
    omega
def abc : Str := "abcdefghijklmnopqrstuvwxyz"
theorem lw_sign {z : Str} (hz : z.cps.toList.all lower = true) {c : Nat} (h : c ∈ z.cps.toList) : Lw 1 ⟨#[c]⟩ := by
  refine ⟨Nat.le_refl 1, ?_⟩
  rw [List.all_eq_true] at hz
  show [c].all lower = true
  rw [List.all_cons, hz c h]
  rfl
theorem letter_at {r : Int} (h0 : 0 ≤ r) (h1 : r < 26) : ∃ c, atI abc.cps.toList r = some c ∧ Lw 1 ⟨#[c]⟩ := by
  obtain ⟨j, rfl⟩ : ∃ j : Nat, r = (j : Int) := ⟨r.toNat, by omega⟩
  have hl : abc.cps.toList.length = 26 := by decide +kernel
  have hj : j < abc.cps.toList.length := by omega
  exact ⟨abc.cps.toList[j], atI_nat (List.getElem?_eq_getElem hj), lw_sign (z := abc) (by decide +kernel) (List.getElem_mem hj)⟩
theorem lw_key {x : Str} (h : Lw 8 x) (h1 : 1 ≤ x.length) : LfK "key" (.str x) := by
  have hall := h.2
  rw [List.all_eq_true] at hall
  have hl : ∀ c ∈ x.cps.toList, 97 ≤ c ∧ c ≤ 122 := fun c hc => by
    have := hall c hc
    unfold lower at this
    rw [Bool.and_eq_true, decide_eq_true_eq, decide_eq_true_eq] at this
    exact this
  have hs : PyData.strOk x = true := by
    show x.cps.all (· < 0x110000) = true
    rw [Array.all_eq_true']
    intro c hc
    have := hl c (Array.mem_toList_iff.mpr hc)
    exact decide_eq_true (by omega)
  have hk : okK x = true := by
    unfold okK
    have h37 : 37 ∉ x.cps.toList := fun hc => by
      have := hl 37 hc
      omega
    have h8 := h.1
    rw [hs, decide_eq_true (show x.length ≤ 1000 by omega), Bool.true_and, Bool.true_and]
    exact decide_eq_true h37
  have hf : fldD "key" (ofP (.str x)) = wordS x := by
    unfold fldD
    rw [if_neg (by decide +kernel), if_pos rfl]
    simp only [ofP, wordD]
  have hw : wordS x = true := by
    unfold wordS
    rw [h.2, decide_eq_true h1, decide_eq_true h.1]
    rfl
  have hp : kpK "key" (ofP (.str x)) = [] := by
    unfold kpK
    rw [if_neg (by decide +kernel), if_neg (by decide +kernel), if_neg (by decide +kernel)]
  exact ⟨by rw [hf]; exact hw, hp, by simp [ofP, dep], by simp only [ofP, okd]; exact hk, by simp only [PyData.canLay0]; exact hs, by simp [PyData.depth]⟩
def spPickS : Sp := fun vs H Q _ => ∃ (d : Addr) (l : Tl) (n : Nat) (z : Str), vs = [.ref d, .str z] ∧ Tape H d l n ∧ n ≤ 1000000 ∧ 0 < z.length ∧ z.length < 1000000 ∧
  ∀ H' c, But d H H' → Tape H' d l (n + 1) → c ∈ z.cps.toList → Q (.str ⟨#[c]⟩) H'
def kNm : Key := Sum.inr ("names" : Str)
theorem k_cn : ¬ (kC = kNm) := by decide +kernel
theorem k_an : ¬ (kA = kNm) := by decide +kernel
theorem k_ln : ¬ (kL = kNm) := by decide +kernel
theorem k_rk : ¬ (kR = kKs) := by decide +kernel
theorem k_rn : ¬ (kR = kNm) := by decide +kernel
theorem k_kn : ¬ (kKs = kNm) := by decide +kernel
theorem k_nk : ¬ (kNm = kKs) := by decide +kernel
def tlk (a : Addr) (k n : V) : Tl := ⟨a, [(kR, .int 0), (kKs, k), (kNm, n)]⟩
def Std (l : Tl) : Prop := l.m = [(kR, .int 0)] ∨ ∃ k n, l.m = [(kR, .int 0), (kKs, k), (kNm, n)]
theorem std_tlk (a : Addr) (k n : V) : Std (tlk a k n) := .inr ⟨k, n, rfl⟩
theorem tail_tlk (a : Addr) (k n : V) : Tail (tlk a k n).m := ⟨fun p hp => by
  have hp : p ∈ [(kR, V.int 0), (kKs, k), (kNm, n)] := hp
  simp only [List.mem_cons, List.not_mem_nil, or_false] at hp
  rcases hp with rfl | rfl | rfl
  · exact ⟨by decide +kernel, by decide +kernel⟩
  · exact ⟨fun e => k_ak e.symm, fun e => k_lk e.symm⟩
  · exact ⟨fun e => k_an e.symm, fun e => k_ln e.symm⟩, by show 3 ≤ 10; decide⟩
theorem put_kn {l : Tl} (h : Std l) (a f : Int) (k n : V) : putK (putK (tp l a f) kKs k) kNm n = tp (tlk l.a k n) a f := by
  rcases h with h | ⟨k0, n0, h⟩
  all_goals
    unfold tp putK tlk
    rw [h]
    simp [k_ck, k_ak, k_lk, k_rk, k_cn, k_an, k_ln, k_rn, k_kn, k_nk]
theorem len_kn {l : Tl} (h : Std l) (a f : Int) (k : V) : (tp l a f).length < sizeLine ∧ (putK (tp l a f) kKs k).length < sizeLine := by
  have e : sizeLine = 16777216 := by decide
  rcases h with h | ⟨k0, n0, h⟩
  all_goals
    unfold tp putK
    rw [h]
    simp [k_ck, k_ak, k_lk, k_rk, k_nk]
    omega
def spSt : Sp := fun vs H Q _ => ∃ (d : Addr) (l : Tl) (n : Nat), vs = [.ref d] ∧ Tape H d l n ∧ Std l ∧ n + 10 ≤ 900000 ∧
  ∀ H' l' p ks, But d H H' → Tape H' d l' (n + 10) → Std l' → valV l'.m kKs = some (.ref p) → H' p = some (.lst (ks.map V.str)) → KsOk ks → Q .non H'
abbrev NSt : List Str := ["_law_tape", "_law_letters", "_law_at", "_law_stem", "_law_some", "_law_k"]
section
variable {P : Program} {w : World} {K : PySem.W.Frag} {mg : Str → Option Value} {base : Heap}
theorem ok_pickS {f fD : Addr} {fd fdD : FuncData} (F : Fun K "_law_pick" "_law_pick" sPick f fd) (GD : FnOk P w K mg base CX0 1 fD fdD ["_law_tape", "_law_many"] spDraw) (mD : mg "_law_draw" = some (.ref fD)) (kD : PySem.W.keepIn K (.ref fD) = true) (bD : Binds K fdD ["_law_tape", "_law_many"] []) (mLen : mg "len" = none) : FnOk P w K mg base CX0 2 f fd ["_law_tape", "_law_items"] spPickS := by
  refine F.ok scP (fun vs H Q E h => ?_) (fun cdv A outer s H vs Q E hr h => ?_)
  · obtain ⟨d, l, n, z, rfl, _⟩ := h
    rfl
  · obtain ⟨d, l, n, z, rfl, hT, hn, h0, hlen, q⟩ := h
    have hl : z.cps.toList.length = z.length := by rw [Array.length_toList]; rfl
    have hzs : z.length ≤ sizeLine := Nat.le_trans (Nat.le_of_lt hlen) (by decide)
    refine ⟨_, pss_one (ps_ret (pe_ix ix_str (pv 1) (pe_call GD hr rfl mD kD bD .nil pass0 (pa_cons (pv 0) (pa_cons (pe_callB call_len_str (by rfl) mLen PySem.boot_len (pa_cons (pv 1) pa_nil)) pa_nil))) (fun _ _ => rfl))), ?_⟩
    refine ⟨_, rfl, _, rfl, _, rfl, z, rfl, hzs, d, l, n, _, rfl, hT, hn, by omega, by omega, fun H1 r hb hT1 r0 r1 => ?_⟩
    obtain ⟨j, rfl⟩ : ∃ j : Nat, r = (j : Int) := ⟨r.toNat, by omega⟩
    have hj : z.cps.toList[j]? = some z.cps.toList[j] := List.getElem?_eq_getElem (by omega)
    exact ⟨z, _, _, rfl, rfl, hzs, atI_nat hj, q _ _ hb hT1 (List.getElem_mem _)⟩
theorem scSt : FnScope NSt ["_law_tape"] (defScope sStart) := ⟨rfl, rfl, rfl, by decide +kernel, rfl, by decide +kernel, by decide +kernel⟩
end
end Toy


namespace Toy
open PySem PySem.Spec L2 PyProof.Rows PySem.W
theorem cut3 (ws : List Str) (h : ws.length = 26) : cutV (ws.map V.str) none (some 3) = (ws.take 3).map V.str := by
  unfold cutV
  rw [show HT.sIx (ws.map V.str).length (ws.map V.str).length (some 3) = min 3 (ws.map V.str).length from HT.sIx_nat _ _ 3, HT.sIx_none, List.length_map, h, List.drop_zero, Nat.sub_zero, show min 3 26 = 3 by rfl, List.map_take]
section
variable {P : Program} {w : World} {K : PySem.W.Frag} {mg : Str → Option Value} {base : Heap}
theorem ok_st {f fP fD : Addr} {fd fdP fdD : FuncData} (F : Fun K "_law_start" "_law_start" sStart f fd) (GD : FnOk P w K mg base CX0 1 fD fdD ["_law_tape", "_law_many"] spDraw) (mD : mg "_law_draw" = some (.ref fD)) (kD : PySem.W.keepIn K (.ref fD) = true) (bD : Binds K fdD ["_law_tape", "_law_many"] [])
    (GP : FnOk P w K mg base CX0 2 fP fdP ["_law_tape", "_law_items"] spPickS) (mP : mg "_law_pick" = some (.ref fP)) (kP : PySem.W.keepIn K (.ref fP) = true) (bP : Binds K fdP ["_law_tape", "_law_items"] [])
    (mRange : mg "range" = none) (mInt : mg "int" = none) : FnOk P w K mg base CX0 3 f fd ["_law_tape"] spSt := by
  refine F.ok (k := 2) scSt (fun vs H Q E h => ?_) (fun cdv A outer s H vs Q E hr h => ?_)
  · obtain ⟨d, l, n, rfl, _⟩ := h
    rfl
  · obtain ⟨d, l, n, rfl, hT, hst, hn, q⟩ := h
    have hr1 : Room 1 _ := hr.mono (show 1 ≤ 2 by omega)
    have hu := hu_of hr
    refine ⟨_, pss_cons (ps_asg (pe_tup (pa_cons pe_str (pa_cons (pe_call GD hr1 (by rfl) mD kD bD .nil pass0 (pa_cons (pv 0) (pa_cons pe_int pa_nil))) pa_nil))) (pg_tup (by rfl) (pgs_cons (pg_name (i := 1) scSt.nd rfl (.inr rfl)) (pgs_cons (pg_name (i := 2) scSt.nd rfl (.inr rfl)) pgs_nil))))
      (pss_cons (ps_set (i := 3) scSt.nd rfl (Or.inr rfl) (pe_join pe_str (pe_lc (own := [("_law_k", 5)]) (g := gName 5) (by rfl) scSt.nd (pi_range1 (by rfl) mRange (pa_cons (pe_call GD hr1 (by rfl) mD kD bD .nil pass0 (pa_cons (pv 0) (pa_cons pe_int pa_nil))) pa_nil))
            (blkOk_by (own := [("_law_k", 5)]) (N := NSt) (sc := defScope sStart) (by decide +kernel)) (fun _ _ _ _ _ => pg_name (i := 5) scSt.nd rfl (Or.inl rfl)) (fun _ _ _ _ _ => pts_nil)
            (fun _ _ _ _ _ => pe_call GP hr (by rfl) mP kP bP .nil pass0 (pa_cons (pv 0) (pa_cons (pv 1) pa_nil))))))
      (pss_cons (ps_setLc (i := 4) (own := [("_law_k", 5)]) (g := gName 5) (te := tOp (fun x y H Q => ∃ i j, x = .str i ∧ y = .str j ∧ i.length + j.length ≤ sizeLine ∧ Q (.str (i ++ j)) H) (tOp (fun x y H Q => ∃ i j, x = .str i ∧ y = .str j ∧ i.length + j.length ≤ sizeLine ∧ Q (.str (i ++ j)) H) (tVar 3) (tOp rIxS (tVar 1) (tOp (rI (fun _ j => 0 < j) fun i j => .int (i % j)) (tCB (fun xs H Q => (∃ i, xs = [.int i] ∧ Q (.int i) H) ∨ ∃ k, xs = [.bl k] ∧ Q (.int (if k then 1 else 0)) H) (tCons (tOp (rI0 fun i j => .int (i + j)) (tVar 2) (tOp (rI CMul fun i j => .int (i * j)) (tC (.int 7)) (tVar 5))) tNil)) (tC (.int 26))))) (tC (.str "q"))) (by rfl) scSt.nd rfl rfl (sw_true rfl rfl rfl (by decide +kernel)) (pi_range1 (by rfl) mRange (pa_cons pe_int pa_nil))
        (blkOk_by (own := [("_law_k", 5)]) (N := NSt) (sc := defScope sStart) (by decide +kernel)) (fun _ _ _ _ _ => by exact (pg_name (i := 5) scSt.nd rfl (Or.inl rfl))) (fun _ _ _ _ _ => pts_nil)
        (fun _ _ _ _ _ => pe_op op_add_str (pe_op op_add_str (pv 3) (pe_ix ix_str (pv 1) (pe_op op_mod (pe_callTy call_int1 (by rfl) mInt (by decide +kernel) (pa_cons (pe_op op_add (pv 2) (pe_op op_mul pe_int (pv 5))) pa_nil)) pe_int) (fun _ _ => rfl))) pe_str))
      (pss_one (ps_asg (pe_tup (pa_cons (pe_slice sl_list (pv 4) po_none (po_some pe_int)) (pa_cons (pe_slice sl_list (pv 4) (po_some pe_int) po_none) pa_nil))) (pg_tup rfl (pgs_cons (pg_sub (pv 0) pe_str (set_dict hu)) (pgs_cons (pg_sub (pv 0) pe_str (set_dict hu)) pgs_nil))))))), ?_⟩
    have e16 : sizeLine = 16777216 := by decide
    refine ⟨_, rfl, d, l, n, 26, rfl, hT, by omega, by decide, by decide, fun H1 r1 b1 t1 r10 r126 => ⟨few (by show 2 ≤ 1000; decide), fun T nT => ?_⟩⟩
    refine ⟨T, _, rfl, SqT.of upd_same, rfl, _, _, rfl, _, _, rfl, rfl, ?_⟩
    have sT : Same H1 _ := same_new (u := .tup [.str "abcdefghijklmnopqrstuvwxyz", .int r1]) same_id nT
    have t1 := t1.same sT
    have b1 := b1.trans (Same.but sT d)
    refine ⟨⟨_, rfl⟩, _, rfl, d, l, n + 1, 6, rfl, t1, by omega, by decide, by decide, fun H2 r2 b2 t2 r20 r26 => ⟨_, rfl, by omega, by omega, fun D nD => ?_⟩⟩
    have ndD : d ≠ D := by
      obtain ⟨⟨o, ho⟩, _⟩ := t2.at
      exact ne_of_none ho nD
    have nlD : l.a ≠ D := by
      obtain ⟨_, o, ho⟩ := t2.at
      exact ne_of_none ho nD
    refine lc_range (lo := 0) (n := r2.toNat) (fun i H' => ∃ ws : List Str, H' D = some (.lst (ws.map V.str)) ∧ ws.length = i ∧ (∀ x ∈ ws, Lw 1 x) ∧ But d H2 H' ∧ Tape H' d l (n + 2 + i))
      ⟨[], upd_same, rfl, (fun x hx => nomatch hx), Same.but (same_new (fun _ _ z => z) nD) d, t2.upd ndD nlD⟩ ?_ ?_
    · rintro i H3 hi ⟨ws, hD3, lws, ow, b3, t3⟩
      refine ⟨rfl, _, rfl, _, rfl, d, l, n + 2 + i, abc, rfl, t3, by omega, by decide +kernel, by decide +kernel, fun H4 c4 b4 t4 m4 => ?_⟩
      have w4 : Lw 1 ⟨#[c4]⟩ := lw_sign (z := abc) (by decide +kernel) m4
      refine ⟨_, b4 _ _ ndD.symm hD3, small1000 (by rw [List.length_map]; omega), ws ++ [⟨#[c4]⟩], by rw [upd_same, List.map_append]; rfl, by rw [List.length_append, lws]; rfl, fun x hx => ?_, fun b o hb ho => ?_, t4.upd ndD nlD⟩
      · rcases List.mem_append.mp hx with e | e
        · exact ow x e
        · rw [List.mem_singleton.mp e]
          exact w4
      · rw [upd_ne (ne_of_none ho nD)]
        exact b4 _ _ hb (b3 _ _ hb ho)
    · rintro H3 ⟨ws, hD3, lws, ow, b3, t3⟩
      have hws : ws.length ≤ 5 := by omega
      have sm := lw_sum ow
      refine ⟨_, D, ws, rfl, rfl, .inl (SqL.of hD3), ?_, ?_⟩
      · have : ("" : Str).length = 0 := by decide +kernel
        rw [this]
        omega
      rw [TL.join_eq]
      have wj := lw_join ow
      generalize Str.join ("" : Str) ws = stem at wj ⊢
      have h3 := wj.1
      refine ⟨_, rfl, by decide, by decide, fun D2 nD2 => ?_⟩
      refine lc_range (lo := 0) (n := 26) (fun i H' => ∃ ks : List Str, H' D2 = some (.lst (ks.map V.str)) ∧ ks.length = i ∧ (∀ x ∈ ks, Lw 8 x ∧ 1 ≤ x.length) ∧ Same H3 H')
        ⟨[], upd_same, rfl, (fun x hx => nomatch hx), same_new same_id nD2⟩ ?_ ?_
      · rintro i H4 hi ⟨ks, hD4, lks, ok, s4⟩
        obtain ⟨c, hc, wc⟩ := letter_at (r := (r1 + 7 * ((0 : Int) + (i : Nat))) % 26) (Int.emod_nonneg _ (by decide)) (Int.emod_lt_of_pos _ (by decide))
        have wx := (wj.app wc).app (show Lw 1 ("q" : Str) from ⟨by decide +kernel, by decide +kernel⟩)
        have wl := wc.1
        have w1 := (wj.app wc).1
        have labc : abc.length ≤ sizeLine := few (by decide +kernel)
        have lq : ("q" : Str).length = 1 := by decide +kernel
        refine ⟨rfl, _, rfl, _, rfl, _, rfl, _, rfl, _, _, rfl, rfl, .inl ⟨by decide, by decide⟩, _, _, rfl, rfl, .inl ⟨_, rfl, _, _, rfl, rfl, (by show (0 : Int) < 26; decide), abc, _, c, rfl, rfl, labc, hc, _, _, rfl, rfl, few (by omega), _, _, rfl, rfl, few (by rw [lq]; omega), ?_⟩⟩
        refine ⟨_, hD4, small1000 (by rw [List.length_map]; omega), ks ++ [stem ++ ⟨#[c]⟩ ++ "q"], by rw [upd_same, List.map_append]; rfl, by rw [List.length_append, lks]; rfl, fun x hx => ?_, fun b o ho => ?_⟩
        · rcases List.mem_append.mp hx with e | e
          · exact ok x e
          · rw [List.mem_singleton.mp e]
            exact ⟨⟨Nat.le_trans wx.1 (by omega), wx.2⟩, by rw [lw_len, lq]; omega⟩
        · rw [upd_ne (ne_of_none ho nD2)]
          exact s4 _ _ ho
      · rintro H4 ⟨ks, hD4, lks, ok, s4⟩
        have t4 := t3.same s4
        have t4' := t4
        obtain ⟨ns, pa, pf, hd, ha, h1, h2, h3', h4', h5'⟩ := t4'
        refine ⟨_, rfl, _, rfl, D2, _, rfl, SqL.of hD4, fun p np => ?_⟩
        have s5 := same_new (u := .lst (cutV (ks.map V.str) none (some 3))) (same_id (H := H4)) np
        refine ⟨_, rfl, _, rfl, D2, _, rfl, SqL.of (s5 _ _ hD4), fun p2 np2 => ?_⟩
        have s6 := same_new (u := .lst (cutV (ks.map V.str) (some 3) none)) s5 np2
        refine ⟨few (by show 2 ≤ 1000; decide), fun T2 nT2 => ?_⟩
        have s7 := same_new (u := .tup [.ref p, .ref p2]) s6 nT2
        have pd : p ≠ d := (ne_of_none hd np).symm
        have hp : (upd (upd (upd H4 p (.lst (cutV (ks.map V.str) none (some 3)))) p2 (.lst (cutV (ks.map V.str) (some 3) none))) T2 (.tup [.ref p, .ref p2])) p = some (.lst ((ks.take 3).map V.str)) := by
          rw [← cut3 ks lks]
          rw [upd_ne (ne_of_none (by rw [upd_ne (ne_of_none (upd_same (H := H4)) np2)]; exact upd_same) nT2), upd_ne (ne_of_none upd_same np2)]
          exact upd_same
        have ad : l.a ≠ d := ne_of ha hd (by intro z; cases z)
        have put := put_kn hst pa pf (.ref p) (.ref p2)
        have lens := len_kn hst pa pf (.ref p)
        refine ⟨T2, _, rfl, SqT.of upd_same, rfl, _, _, rfl, _, rfl, d, _, rfl, DPut.k (k := kKs) (s7 _ _ hd) lens.1, _, _, rfl, _, rfl, d, _, rfl, DPut.k (k := kNm) upd_same lens.2, rfl, ?_⟩
        refine q _ (tlk l.a (.ref p) (.ref p2)) p (ks.take 3) ?_ ?_ (std_tlk _ _ _) ?_ ?_ ?_
        · exact (((b1.trans b2).trans b3).trans (Same.but (s4.trans s7) d)).upd.upd
        · exact ⟨ns, pa, pf, by rw [upd_same, put], by show upd _ _ _ l.a = _; rw [upd_ne ad, upd_ne ad]; exact s7 _ _ ha, h1, h2, h3', by omega, tail_tlk _ _ _⟩
        · show valV [(kR, V.int 0), (kKs, .ref p), (kNm, .ref p2)] kKs = _
          rw [valV_neg k_rk, valV_pos rfl]
        · rw [upd_ne pd, upd_ne pd]
          exact hp
        · refine ⟨fun e => ?_, by rw [List.length_take]; omega, fun k hk => ?_⟩
          · have := congrArg List.length e
            rw [List.length_take, lks] at this
            exact absurd this (by decide)
          · have := ok k (List.mem_of_mem_take hk)
            exact lw_key this.1 this.2
end
end Toy


namespace Toy
open PySem PySem.Spec L2 PyProof.Rows PySem.W
/-! ### rows: both tests of them answer alike -/
theorem okR_of {p : PyData} (h : okd 300 (ofP p) = true) (h2 : ∀ ds, p = .tuple ds → ∀ q ∈ ds, okd 300 (ofP q) = true ∧ spo (dep (ofP q) + 1) (ofP q) ≤ 10000000) : okR (ofP p) := by
  refine ⟨h, fun fs e f hf => ?_⟩
  cases p with
  | tuple ds =>
    simp only [ofP, Dt.tup.injEq] at e
    subst e
    rw [ofPL_map] at hf
    obtain ⟨q, hq, rfl⟩ := List.mem_map.mp hf
    exact h2 ds rfl q hq
  | _ => simp [ofP] at e
def rowK (p : PyData) : Bool := match p with
  | .tuple (.str x :: qs) => (match rowF x with
    | some ks => decide (qs.length = ks.length) && (List.range qs.length).all fun j => (ks.getD j Str.empty) != "number" && fldC (ks.getD j Str.empty) 0 0 ((ofPL qs).getD j .non)
    | none => false)
  | _ => false
def noNum (p : PyData) : Bool := match p with
  | .tuple (.str x :: qs) => (match rowF x with
    | some ks => decide (qs.length ≠ ks.length) || ks.all fun k => k == "key" || k == "index" || k == "test"
    | none => true)
  | _ => true
theorem fldC_same {k : Str} (h : (k == "key" || k == "index" || k == "test") = true) (i n : Nat) (f : Dt) : fldC k i n f = fldC k 0 0 f := by
  unfold fldC
  by_cases c1 : k = "key"
  · rw [if_pos c1, if_pos c1]
  rw [if_neg c1, if_neg c1]
  by_cases c2 : k = "index"
  · rw [if_pos c2, if_pos c2]
  rw [if_neg c2, if_neg c2]
  by_cases c3 : k = "test"
  · rw [if_pos c3, if_pos c3]
  exfalso
  simp only [Bool.or_eq_true, beq_iff_eq] at h
  rcases h with (h | h) | h
  · exact c1 h
  · exact c2 h
  · exact c3 h
theorem isRow_same {p : PyData} (h : noNum p = true) (i n : Nat) : isRow (ofP p) i n = isRow (ofP p) 0 0 := by
  cases p with
  | tuple ds =>
    cases ds with
    | nil => simp [ofP, ofPL, isRow]
    | cons q qs =>
      cases q with
      | str x =>
        simp only [ofP, ofPL, isRow]
        simp only [noNum] at h
        cases hx : rowF x with
        | none => rfl
        | some ks =>
          rw [hx] at h
          dsimp only at h ⊢
          rw [Bool.or_eq_true, decide_eq_true_eq] at h
          have hl : (ofPL qs).length = qs.length := by rw [ofPL_map, List.length_map]
          rcases h with h | h
          · rw [hl, decide_eq_false h, Bool.false_and, Bool.false_and]
          · rw [List.all_eq_true] at h
            by_cases e : qs.length = ks.length
            · congr 1
              rw [Bool.eq_iff_iff, List.all_eq_true, List.all_eq_true]
              have key : ∀ j ∈ List.range (ofPL qs).length, fldC (ks.getD j Str.empty) i n ((ofPL qs).getD j .non) = fldC (ks.getD j Str.empty) 0 0 ((ofPL qs).getD j .non) := fun j hj => by
                rw [hl, e] at hj
                have hj := List.mem_range.mp hj
                refine fldC_same (h _ ?_) _ _ _
                rw [List.getD_eq_getElem?_getD, List.getElem?_eq_getElem hj]
                exact List.getElem_mem hj
              exact ⟨fun z j hj => by rw [← key j hj]; exact z j hj, fun z j hj => by rw [key j hj]; exact z j hj⟩
            · rw [hl, decide_eq_false e, Bool.false_and, Bool.false_and]
      | _ => simp [ofP, ofPL, isRow]
  | _ => simp [ofP, isRow]
/-- a row that begins with no word of five -/
theorem rw_odd {p : PyData} (h5 : (!tupB p || (nilB p || !fiveB p)) = true) (hn : noNum p = true) (he : isRow (ofP p) 0 0 = (inE p simple || stp p)) (hend : isRow (ofP p) 0 0 = true → ((match wordOf (ofP p) with | some x => decide (x ∈ endsL) | none => false) = inE p ends3)) (ho : okR (ofP p)) (hl : p.canLay0 = true) (hd : p.depth ≤ 12) (hd2 : dep (ofP p) ≤ 12) : Rw p :=
  ⟨fun i n => by rw [isRow_same hn, he, lw_odd h5]; cases inE p simple <;> cases stp p <;> rfl, fun i n hr => hend (by rw [← isRow_same hn i n]; exact hr), ho, hl, hd, hd2⟩
def conc : List PyData := [.tuple [.str "every"], .tuple [.str "open"], .tuple [.str "give"], .tuple [.str "none"], .tuple [.str "fail"], .list [.str "give"], .str "give", .none, .tuple [], .tuple [.str "give", .int 1], .tuple [.str "every", .int 0], .tuple [.str "field", .str "A"], .tuple [.str "field"], .tuple [.str "item", .int 100], .tuple [.str "item", .bool true], .tuple [.str "item", .int (-1)], .tuple [.str "same"], .tuple [.str "open", .none], .tuple [.int 0], .tuple [.str "field", .str "a", .str "b"], .int 0, .tuple [.str "", .int 1], .tuple [.str "item", .int 0], .tuple [.str "item", .int 1], .tuple [.str "item", .int 99]]
def okRB (p : PyData) : Bool := okd 300 (ofP p) && match p with
  | .tuple ds => ds.all fun q => okd 300 (ofP q) && decide (spo (dep (ofP q) + 1) (ofP q) ≤ 10000000)
  | _ => true
theorem okRB_ok {p : PyData} (h : okRB p = true) : okR (ofP p) := by
  unfold okRB at h
  rw [Bool.and_eq_true] at h
  refine okR_of h.1 fun ds e q hq => ?_
  subst e
  have h2 := h.2
  dsimp only at h2
  rw [List.all_eq_true] at h2
  have := h2 q hq
  rw [Bool.and_eq_true, decide_eq_true_eq] at this
  exact this
def concB (p : PyData) : Bool := (!tupB p || (nilB p || !fiveB p)) && (noNum p && ((isRow (ofP p) 0 0 == (inE p simple || stp p)) && ((!isRow (ofP p) 0 0 || ((match wordOf (ofP p) with | some x => decide (x ∈ endsL) | none => false) == inE p ends3)) && (okRB p && (p.canLay0 && (decide (p.depth ≤ 12) && decide (dep (ofP p) ≤ 12)))))))
theorem concB_ok {p : PyData} (h : concB p = true) : Rw p := by
  unfold concB at h
  simp only [Bool.and_eq_true, beq_iff_eq, decide_eq_true_eq] at h
  obtain ⟨h1, h2, h3, h4, h5, h6, h7, h8⟩ := h
  refine rw_odd h1 h2 h3 (fun e => ?_) (okRB_ok h5) h6 h7 h8
  rw [e] at h4
  simpa using h4
theorem rw_conc : ∀ p ∈ conc, Rw p := fun p hp => concB_ok ((List.all_eq_true.mp (show conc.all concB = true by decide +kernel)) p hp)
end Toy


namespace Toy
open PySem PySem.Spec L2 PyProof.Rows PySem.W
structure Nm (q : PyData) : Prop where
  l : Lf q
  s : ∀ n, spo n (ofP q) ≤ 1
theorem nm_int (j : Int) : Nm (.int j) := ⟨⟨by simp [ofP, dep], by simp [ofP, okd], by simp [PyData.canLay0], by simp [PyData.depth]⟩, fun n => by cases n <;> simp [ofP, spo, kpOf]⟩
theorem nm_bool (j : Bool) : Nm (.bool j) := ⟨⟨by simp [ofP, dep], by simp [ofP, okd], by simp [PyData.canLay0], by simp [PyData.depth]⟩, fun n => by cases n <;> simp [ofP, spo, kpOf]⟩
theorem nm_none : Nm .none := ⟨⟨by simp [ofP, dep], by simp [ofP, okd], by simp [PyData.canLay0], by simp [PyData.depth]⟩, fun n => by cases n <;> simp [ofP, spo, kpOf]⟩
theorem nm_1 : Nm (.str "1") := ⟨⟨by simp [ofP, dep], by decide +kernel, by decide +kernel, by simp [PyData.depth]⟩, fun n => by cases n <;> simp [ofP, spo, kpOf]⟩
def leads : List Str := ["fork", "jump", "shield", "guard"]
theorem num_same (q : PyData) (i n : Nat) : fldC "number" i n (ofP q) = rn i n q := by
  unfold fldC
  rw [if_neg (by decide +kernel), if_neg (by decide +kernel), if_neg (by decide +kernel)]
  cases q <;> simp [ofP, rn]
structure WL (x : Str) : Prop where
  f : rowF x = some (["number"] : List Str)
  v : inE (.str x) five = true
  t : (PyData.str x).eqv (.str "test") = false
  e : decide (x ∈ endsL) = false
  o : okK x = true
  l : (PyData.str x).canLay0 = true
theorem wl_ok {x : Str} (h : x ∈ leads) : WL x := by
  simp only [leads, List.mem_cons, List.not_mem_nil, or_false] at h
  rcases h with rfl | rfl | rfl | rfl
  all_goals exact ⟨by decide +kernel, by decide +kernel, by decide +kernel, by decide +kernel, by decide +kernel, by decide +kernel⟩
theorem ends_two (a b : PyData) (r : List PyData) : inE (.tuple (a :: b :: r)) ends3 = false := by
  have z : ∀ w : PyData, (PyData.tuple [w]).eqv (.tuple (a :: b :: r)) = false := fun w => by
    show (w.eqv a && false) = false
    exact Bool.and_false _
  unfold inE ends3
  rw [List.any_cons, List.any_cons, List.any_cons, List.any_nil, z, z, z]
  rfl
theorem rw_lead {x : Str} (hx : x ∈ leads) {q : PyData} (hq : Nm q) : Rw (.tuple [.str x, q]) := by
  have w := wl_ok hx
  have e : ofP (.tuple [.str x, q]) = .tup [.str x, ofP q] := by simp [ofP, ofPL]
  refine ⟨fun i n => ?_, fun i n _ => ?_, ?_, ?_, ?_, ?_⟩
  · rw [lw_cons, if_pos w.v, w.t, e]
    simp only [isRow, w.f]
    show (decide (([ofP q] : List Dt).length = (["number"] : List Str).length) && (List.range 1).all _) = _
    have hall : ((List.range 1).all fun j => fldC ((["number"] : List Str).getD j Str.empty) i n (([ofP q] : List Dt).getD j .non)) = rn i n q := by
      show (fldC "number" i n (ofP q) && true) = _
      rw [Bool.and_true, num_same]
    rw [show (decide (([ofP q] : List Dt).length = (["number"] : List Str).length)) = true from rfl, Bool.true_and]
    show ((List.range 1).all fun j => fldC ((["number"] : List Str).getD j Str.empty) i n (([ofP q] : List Dt).getD j .non)) = !(if ([q] : List PyData).length + 1 ≠ (if false = true then 3 else 2) then true else if rn i n q = false then true else (false && inE q tests2))
    rw [hall, if_neg (fun z => z rfl)]
    cases rn i n q <;> rfl
  · rw [ends_two, e]
    exact w.e
  · refine okR_of ?_ fun ds e2 z hz => ?_
    · rw [e]
      simp only [okd, okdL, w.o, hq.l.od]
      rfl
    · cases e2
      simp only [List.mem_cons, List.not_mem_nil, or_false] at hz
      rcases hz with rfl | rfl
      · refine ⟨by simp only [ofP, okd]; exact w.o, ?_⟩
        simp [ofP, spo, kpOf]
      · exact ⟨hq.l.od, Nat.le_trans (hq.s _) (by decide)⟩
  · simp only [PyData.canLay0, PyData.canLayAll0] 
    have := w.l
    simp only [PyData.canLay0] at this
    rw [this, hq.l.lay]
    rfl
  · have := hq.l.pd
    simp only [PyData.depth, PyData.depthAll]
    omega
  · have := hq.l.dp
    rw [e]
    simp only [dep, depL]
    omega
/-- what a test must be, in a row -/
structure Tq (t : PyData) : Prop where
  e : tstD (ofP t) = !inE t tests2
  o : okd 300 (ofP t) = true
  s : spo (dep (ofP t) + 1) (ofP t) ≤ 10000000
  l : t.canLay0 = true
  d : t.depth ≤ 10
  d2 : dep (ofP t) ≤ 10
theorem rw_test {t q : PyData} (ht : Tq t) (hq : Nm q) : Rw (.tuple [.str "test", t, q]) := by
  have e : ofP (.tuple [.str "test", t, q]) = .tup [.str "test", ofP t, ofP q] := by simp [ofP, ofPL]
  have w1 : rowF "test" = some (["test", "number"] : List Str) := by decide +kernel
  have w2 : inE (.str "test") five = true := by decide +kernel
  have w3 : (PyData.str "test").eqv (.str "test") = true := by decide +kernel
  refine ⟨fun i n => ?_, fun i n _ => ?_, ?_, ?_, ?_, ?_⟩
  · rw [lw_cons, if_pos w2, w3, e]
    simp only [isRow, w1]
    have hall : ((List.range 2).all fun j => fldC ((["test", "number"] : List Str).getD j Str.empty) i n (([ofP t, ofP q] : List Dt).getD j .non)) = (tstD (ofP t) && rn i n q) := by
      show (fldC "test" i n (ofP t) && (fldC "number" i n (ofP q) && true)) = _
      rw [Bool.and_true, num_same]
      unfold fldC
      rw [if_neg (by decide +kernel), if_neg (by decide +kernel), if_pos rfl]
    rw [show (decide (([ofP t, ofP q] : List Dt).length = (["test", "number"] : List Str).length)) = true from rfl, Bool.true_and]
    show ((List.range 2).all fun j => fldC ((["test", "number"] : List Str).getD j Str.empty) i n (([ofP t, ofP q] : List Dt).getD j .non)) = !(if ([t, q] : List PyData).length + 1 ≠ (if true = true then 3 else 2) then true else if rn i n q = false then true else (true && inE t tests2))
    rw [hall, if_neg (fun z => z rfl), ht.e]
    cases rn i n q <;> cases inE t tests2 <;> rfl
  · rw [ends_two, e]
    show decide (("test" : Str) ∈ endsL) = false
    decide +kernel
  · refine okR_of ?_ fun ds e2 z hz => ?_
    · rw [e]
      simp only [okd, okdL, hq.l.od, ht.o]
      rw [show okK ("test" : Str) = true by decide +kernel]
      rfl
    · cases e2
      simp only [List.mem_cons, List.not_mem_nil, or_false] at hz
      rcases hz with rfl | rfl | rfl
      · exact ⟨by decide +kernel, by decide +kernel⟩
      · exact ⟨ht.o, ht.s⟩
      · exact ⟨hq.l.od, Nat.le_trans (hq.s _) (by decide)⟩
  · simp only [PyData.canLay0, PyData.canLayAll0]
    rw [hq.l.lay, ht.l]
    decide +kernel
  · have := hq.l.pd
    have := ht.d
    simp only [PyData.depth, PyData.depthAll]
    omega
  · have := hq.l.dp
    have := ht.d2
    rw [e]
    simp only [dep, depL]
    omega
/-- the tests that are drawn, and two that are not one -/
theorem gd_eqv {m s : Nat} {t : PyData} (h : Gd "test" m s t) : inE t tests2 = false := by
  cases hi : inE t tests2 with
  | false => rfl
  | true =>
    exfalso
    have hk := h.ok (dep (ofP t) + 1) (Nat.lt_succ_self _)
    rw [okk, Bool.and_eq_true] at hk
    have hh := hk.1
    unfold inE tests2 at hi
    rw [List.any_cons, List.any_cons, List.any_nil, Bool.or_false, Bool.or_eq_true] at hi
    have str1 : ∀ {x : Str} {p : PyData}, (PyData.str x).eqv p = true → p = .str x := fun {x p} e => by
      cases p with
      | str y =>
        have e : (x == y) = true := e
        rw [eq_of_beq e]
      | _ => cases e
    cases t with
    | tuple ds =>
      match ds with
      | [] => rcases hi with z | z <;> cases z
      | [a] =>
        rcases hi with z | z
        · have z : ((PyData.str "is").eqv a && false) = true := z
          rw [Bool.and_false] at z
          cases z
        · have z : ((PyData.str "same").eqv a && true) = true := z
          rw [Bool.and_true] at z
          rw [str1 z] at hh
          revert hh
          decide +kernel
      | [a, b] =>
        rcases hi with z | z
        · have z : ((PyData.str "is").eqv a && ((PyData.str "A").eqv b && true)) = true := z
          rw [Bool.and_true, Bool.and_eq_true] at z
          rw [str1 z.1, str1 z.2] at hh
          revert hh
          decide +kernel
        · have z : ((PyData.str "same").eqv a && false) = true := z
          rw [Bool.and_false] at z
          cases z
      | a :: b :: c :: r =>
        rcases hi with z | z
        · have z : ((PyData.str "is").eqv a && ((PyData.str "A").eqv b && false)) = true := z
          rw [Bool.and_false, Bool.and_false] at z
          cases z
        · have z : ((PyData.str "same").eqv a && false) = true := z
          rw [Bool.and_false] at z
          cases z
    | _ => rcases hi with z | z <;> cases z
theorem tq_gd {m s : Nat} {t : PyData} (h : Gd "test" m s t) (hm : m ≤ 9) (hs : s ≤ 200) : Tq t :=
  ⟨by rw [gd_tst h (by omega) hs, gd_eqv h]; rfl, h.od, Nat.le_trans (h.sp _) (by omega), h.lay, Nat.le_trans h.pd (by omega), Nat.le_trans h.dp (by omega)⟩
theorem tq_isA : Tq (.tuple [.str "is", .str "A"]) := ⟨by decide +kernel, by decide +kernel, by decide +kernel, by decide +kernel, by decide +kernel, by decide +kernel⟩
theorem tq_same : Tq (.tuple [.str "same"]) := ⟨by decide +kernel, by decide +kernel, by decide +kernel, by decide +kernel, by decide +kernel, by decide +kernel⟩
theorem tq_list : Tq (.tuple [.str "is", .str "list"]) := ⟨by decide +kernel, by decide +kernel, by decide +kernel, by decide +kernel, by decide +kernel, by decide +kernel⟩
end Toy


namespace Toy
open PySem PySem.Spec L2 PyProof.Rows PySem.W
theorem nm_ok {q : PyData} (h : Nm q) : okd 300 (ofP q) = true ∧ spo (dep (ofP q) + 1) (ofP q) ≤ 10000000 := ⟨h.l.od, Nat.le_trans (h.s _) (by decide)⟩
theorem nm_str {x : Str} (h : okK x = true) : Nm (.str x) := ⟨⟨by simp [ofP, dep], by simp only [ofP, okd]; exact h, by simp only [PyData.canLay0]; exact okK_1 h, by simp [PyData.depth]⟩, fun n => by cases n <;> simp [ofP, spo, kpOf]⟩
/-- sizes of a tuple of leaves -/
theorem leaf_sizes {ds : List PyData} (h : ∀ q ∈ ds, Nm q) (hl : ds.length ≤ 10) : okR (ofP (.tuple ds)) ∧ (PyData.tuple ds).canLay0 = true ∧ (PyData.tuple ds).depth ≤ 12 ∧ dep (ofP (.tuple ds)) ≤ 12 := by
  have a : okdL 300 (ofPL ds) = true := by
    rw [ofPL_map, okdL_all, List.all_eq_true]
    intro t ht
    obtain ⟨q, hq, rfl⟩ := List.mem_map.mp ht
    exact (h q hq).l.od
  have b : PyData.canLayAll0 ds = true := by
    clear a hl
    induction ds with
    | nil => simp [PyData.canLayAll0]
    | cons q ds ih =>
      simp only [PyData.canLayAll0]
      rw [(h q List.mem_cons_self).l.lay, ih fun z hz => h z (List.mem_cons_of_mem _ hz)]
      rfl
  have c : PyData.depthAll ds ≤ 1 := by
    clear a b hl
    induction ds with
    | nil => simp [PyData.depthAll]
    | cons q ds ih =>
      have := (h q List.mem_cons_self).l.pd
      have := ih fun z hz => h z (List.mem_cons_of_mem _ hz)
      simp only [PyData.depthAll]
      omega
  have e : depL (ofPL ds) ≤ 0 := by
    rw [ofPL_map]
    refine depL_le fun t ht => ?_
    obtain ⟨q, hq, rfl⟩ := List.mem_map.mp ht
    rw [(h q hq).l.dp]
    exact Nat.le_refl _
  have f : (ofPL ds).length = ds.length := by rw [ofPL_map, List.length_map]
  refine ⟨okR_of ?_ fun ds' e2 q hq => ?_, ?_, ?_, ?_⟩
  · simp only [ofP, okd]
    rw [a, f, decide_eq_true (by omega)]
    rfl
  · cases e2
    exact nm_ok (h q hq)
  · simp only [PyData.canLay0]
    exact b
  · simp only [PyData.depth]
    omega
  · simp only [ofP, dep]
    omega
/-- a word of five with a number of fields that it hasn't -/
theorem rw_badlen {x : Str} {ks : List Str} {qs : List PyData} (hf : rowF x = some ks) (h5 : inE (.str x) five = true) (he : decide (x ∈ endsL) = false) (hl : qs.length ≠ ks.length) (hn : qs.length + 1 ≠ (if (PyData.str x).eqv (.str "test") = true then 3 else 2)) (hx : okK x = true) (hq : ∀ q ∈ qs, Nm q) (hm : qs.length ≤ 9) : Rw (.tuple (.str x :: qs)) := by
  obtain ⟨z1, z2, z3, z4⟩ := leaf_sizes (ds := .str x :: qs) (fun q hm2 => by
    rcases List.mem_cons.mp hm2 with rfl | hm2
    · exact nm_str hx
    · exact hq q hm2) (by rw [List.length_cons]; omega)
  have e : ofP (.tuple (.str x :: qs)) = .tup (.str x :: ofPL qs) := by simp [ofP, ofPL]
  have f : (ofPL qs).length = qs.length := by rw [ofPL_map, List.length_map]
  have r : ∀ i n, isRow (ofP (.tuple (.str x :: qs))) i n = false := fun i n => by
    rw [e]
    simp only [isRow, hf]
    rw [f, decide_eq_false hl, Bool.false_and]
  exact ⟨fun i n => by rw [r, lw_cons, if_pos h5, if_pos hn]; rfl, fun i n hr => (by rw [r] at hr; cases hr), z1, z2, z3, z4⟩
theorem rw_lead1 {x : Str} (hx : x ∈ leads) : Rw (.tuple [.str x]) := by
  have w := wl_ok hx
  exact rw_badlen (ks := ["number"]) (qs := []) w.f w.v w.e (by decide) (by rw [w.t]; decide) w.o (fun _ h => nomatch h) (by decide)
theorem rw_fork3 {q : PyData} (hq : Nm q) : Rw (.tuple [.str "fork", q, .int 1]) :=
  rw_badlen (ks := ["number"]) (qs := [q, .int 1]) (by decide +kernel) (by decide +kernel) (by decide +kernel) (fun z => nomatch z) (by
    rw [show (PyData.str "fork").eqv (.str "test") = false by decide +kernel]
    show (3 : Nat) ≠ 2
    decide) (by decide +kernel) (fun z h => by
    simp only [List.mem_cons, List.not_mem_nil, or_false] at h
    rcases h with rfl | rfl
    · exact hq
    · exact nm_int 1) (by show 2 ≤ 9; decide)
theorem rw_test2 {q : PyData} (hq : Nm q) : Rw (.tuple [.str "test", q]) :=
  rw_badlen (ks := ["test", "number"]) (qs := [q]) (by decide +kernel) (by decide +kernel) (by decide +kernel) (fun z => nomatch z) (by
    rw [show (PyData.str "test").eqv (.str "test") = true by decide +kernel]
    show (2 : Nat) ≠ 3
    decide) (by decide +kernel) (fun z h => by
    rw [List.mem_singleton.mp h]
    exact hq) (by show 1 ≤ 9; decide)
theorem simple_two (a b : PyData) (r : List PyData) : inE (.tuple (a :: b :: r)) simple = false := by
  have z : ∀ w : PyData, (PyData.tuple [w]).eqv (.tuple (a :: b :: r)) = false := fun w => by
    show (w.eqv a && false) = false
    exact Bool.and_false _
  unfold inE simple
  rw [List.any_cons, List.any_cons, List.any_cons, List.any_cons, List.any_cons, List.any_nil, z, z, z, z, z]
  rfl
theorem rw_both {q : PyData} (hq : Nm q) : Rw (.tuple [.str "both", q]) := by
  obtain ⟨z1, z2, z3, z4⟩ := leaf_sizes (ds := [.str "both", q]) (fun z hm2 => by
    simp only [List.mem_cons, List.not_mem_nil, or_false] at hm2
    rcases hm2 with rfl | rfl
    · exact nm_str (by decide +kernel)
    · exact hq) (by show 2 ≤ 10; decide)
  have hf : rowF "both" = none := by decide +kernel
  have e : ofP (.tuple [.str "both", q]) = .tup [.str "both", ofP q] := by simp [ofP, ofPL]
  have r : isRow (ofP (.tuple [.str "both", q])) 0 0 = false := by
    rw [e]
    simp only [isRow, hf]
  have hs : stp (.tuple [.str "both", q]) = false := by
    show (inE (.str "both") [.str "field", .str "item"] && (if (PyData.str "both").eqv (.str "item") = true then idxP q else notA q)) = false
    rw [show inE (.str "both") [.str "field", .str "item"] = false by decide +kernel]
    rfl
  refine rw_odd (by rfl) (by simp only [noNum, hf]) (by rw [r, simple_two, hs]; rfl) (fun z => by rw [r] at z; cases z) z1 z2 z3 z4
theorem rw_field {k : Str} (hk : LfK "key" (.str k)) : Rw (.tuple [.str "field", .str k]) := by
  have hfl : fldD "key" (ofP (.str k)) = wordS k := by
    unfold fldD
    rw [if_neg (by decide +kernel), if_pos rfl]
    simp only [ofP, wordD]
  have hw : wordS k = true := by rw [← hfl]; exact hk.1
  have hkk : okK k = true := by
    have := hk.2.2.od
    simpa [ofP, okd] using this
  obtain ⟨z1, z2, z3, z4⟩ := leaf_sizes (ds := [.str "field", .str k]) (fun z hm2 => by
    simp only [List.mem_cons, List.not_mem_nil, or_false] at hm2
    rcases hm2 with rfl | rfl
    · exact nm_str (by decide +kernel)
    · exact nm_str hkk) (by show 2 ≤ 10; decide)
  have hf : rowF "field" = some (["key"] : List Str) := by decide +kernel
  have e : ofP (.tuple [.str "field", .str k]) = .tup [.str "field", .str k] := by simp [ofP, ofPL]
  have r : isRow (ofP (.tuple [.str "field", .str k])) 0 0 = true := by
    rw [e]
    simp only [isRow, hf]
    show (true && (fldC "key" 0 0 (.str k) && true)) = true
    unfold fldC
    rw [if_pos rfl]
    simp only [wordD, hw]
    rfl
  have hA : k ≠ "A" := fun z => by
    rw [z] at hw
    revert hw
    decide +kernel
  have hs : stp (.tuple [.str "field", .str k]) = true := by
    show (inE (.str "field") [.str "field", .str "item"] && (if (PyData.str "field").eqv (.str "item") = true then idxP (.str k) else notA (.str k))) = true
    rw [show inE (.str "field") [.str "field", .str "item"] = true by decide +kernel, show (PyData.str "field").eqv (.str "item") = false by decide +kernel, if_neg Bool.false_ne_true]
    show (true && !decide (k = "A")) = true
    rw [decide_eq_false hA]
    rfl
  refine rw_odd (by show (false || (false || !inE (.str "field") five)) = true; decide +kernel) (by
    simp only [noNum, hf]
    show (decide ((1 : Nat) ≠ 1) || (["key"] : List Str).all fun k => k == "key" || k == "index" || k == "test") = true
    decide +kernel) (by rw [r, hs, Bool.or_true]) (fun _ => ?_) z1 z2 z3 z4
  rw [ends_two, e]
  show decide (("field" : Str) ∈ endsL) = false
  decide +kernel
end Toy


namespace Toy
open PySem PySem.Spec L2 PyProof.Rows PySem.W
/-! ### rows drawn: tuples of any drawn things -/
def As (K : PySem.W.Frag) (d : Addr) (S : List PyData → Prop) (H : Hp) (vs : List V) : Prop := ∃ ps, PvL K (delH H d) vs ps ∧ S ps
section
variable {K : PySem.W.Frag} {d : Addr} {l : Tl} {J : Hp → Prop} {σ : L2.St} {te : TE} {ta : TA} {c c' k : Nat} {S1 R : PyData → Prop} {S2 S : List PyData → Prop}
theorem as_nil : DrA d l J tNil σ 0 (As K d fun ps => ps = []) := dra_nil fun _ => ⟨[], .nil, rfl⟩
theorem as_cons (sj : Stb d J) (h : Dr d l J te σ c (Sv K d S1)) (r : DrA d l J ta σ c' (As K d S2)) : DrA d l J (tCons te ta) σ (c + c') (As K d fun ps => ∃ p qs, ps = p :: qs ∧ S1 p ∧ S2 qs) :=
  dra_cons sj h r sv_st fun _ _ _ ⟨p, a, b⟩ ⟨ps, a2, b2⟩ => ⟨p :: ps, .cons a a2, p, ps, rfl, b, b2⟩
theorem dr_tup (h : DrA d l J ta σ c (As K d S)) (hS : ∀ ps, S ps → ps.length ≤ 100 ∧ R (.tuple ps)) : Dr d l J (tTup ta) σ c (Sv K d R) :=
  fun H N Q j t b q => h H N _ j t b fun H1 vs b1 t1 ⟨ps, hp, hs⟩ => by
    have hl := pvl_len hp
    obtain ⟨hn, hr⟩ := hS ps hs
    refine ⟨few (by omega), fun T nT => ?_⟩
    obtain ⟨o, ho⟩ := t1.at.1
    have nTd : T ≠ d := (ne_of_none ho nT).symm
    have sT : Same H1 (upd H1 T (.tup vs)) := same_new same_id nT
    exact q _ (.ref T) (b1.trans (Same.but sT d)) (t1.same sT) ⟨.tuple ps, .tup (SqT.of ((delH_ne nTd).trans upd_same)) (pvLM (But.off (Same.but sT d)) hp), hr⟩
theorem dr_lst (h : DrA d l J ta σ c (As K d S)) (hS : ∀ ps, S ps → ps.length ≤ 100 ∧ R (.list ps)) : Dr d l J (tLst ta) σ c (Sv K d R) :=
  fun H N Q j t b q => h H N _ j t b fun H1 vs b1 t1 ⟨ps, hp, hs⟩ => by
    have hl := pvl_len hp
    obtain ⟨hn, hr⟩ := hS ps hs
    refine ⟨few (by omega), fun T nT => ?_⟩
    obtain ⟨o, ho⟩ := t1.at.1
    have nTd : T ≠ d := (ne_of_none ho nT).symm
    have sT : Same H1 (upd H1 T (.lst vs)) := same_new same_id nT
    exact q _ (.ref T) (b1.trans (Same.but sT d)) (t1.same sT) ⟨.list ps, .lst ((delH_ne nTd).trans upd_same) (pvLM (But.off (Same.but sT d)) hp), hr⟩
theorem dr_cs {v : V} {p : PyData} (h : ∀ H, Pv K H v p) : Dr d l J (tC v) σ 0 (Sv K d fun q => q = p) := dr_const fun _ => ⟨p, h _, rfl⟩
theorem dr_s (x : Str) : Dr d l J (tC (.str x)) σ 0 (Sv K d fun q => q = .str x) := dr_cs fun _ => .str x
theorem dr_i (i : Int) : Dr d l J (tC (.int i)) σ 0 (Sv K d fun q => q = .int i) := dr_cs fun _ => .int i
theorem dr_b (b : Bool) : Dr d l J (tC (.bl b)) σ 0 (Sv K d fun q => q = .bool b) := dr_cs fun _ => .bl b
theorem dr_n : Dr d l J (tC .non) σ 0 (Sv K d fun q => q = .none) := dr_cs fun _ => .non
theorem dr_neg (i : Int) : Dr d l J (tUn (rU fun i => .int (-i)) (tC (.int i))) σ 0 (Sv K d fun q => q = .int (-i)) := fun H n Q _ t _ q => ⟨_, rfl, q H _ (fun _ _ _ z => z) t ⟨_, .int _, rfl⟩⟩
theorem dr_io {i : Nat} {a : Int} {o : Int} {g : Int → Int → Int} (hi : σ[i]? = some (some (.int a))) : Dr d l J (tOp (rI0 fun i j => .int (g i j)) (tVar i) (tC (.int o))) σ 0 (Sv K d Nm) :=
  fun H n Q _ t _ q => ⟨_, hi, _, _, rfl, rfl, q H _ (fun _ _ _ z => z) t ⟨_, .int _, nm_int _⟩⟩
theorem dr_iv {i : Nat} {a : Int} (hi : σ[i]? = some (some (.int a))) : Dr d l J (tVar i) σ 0 (Sv K d Nm) := dr_var hi fun _ _ => ⟨_, .int _, nm_int _⟩
theorem dr_to (h : Dr d l J te σ c (Sv K d S1)) (k : ∀ p, S1 p → R p) : Dr d l J te σ c (Sv K d R) := dr_imp h k (Nat.le_refl _)
end
end Toy


namespace Toy
open PySem PySem.Spec L2 PyProof.Rows PySem.W
section
variable {K : PySem.W.Frag} {d : Addr} {l : Tl} {J : Hp → Prop} {σ : L2.St} {te te2 : TE} {c c' : Nat} {S1 S2 : PyData → Prop}
theorem rw1 {x : Str} (sj : Stb d J) (h : Rw (.tuple [.str x])) : Dr d l J (tTup (tCons (tC (.str x)) tNil)) σ (0 + 0) (Sv K d Rw) :=
  dr_tup (as_cons sj (dr_s x) as_nil) fun ps ⟨p, qs, e, hp, hq⟩ => by
    subst e hp hq
    exact ⟨by show 1 ≤ 100; decide, h⟩
theorem rw2 {x : Str} (sj : Stb d J) (h2 : Dr d l J te σ c (Sv K d S1)) (h : ∀ p, S1 p → Rw (.tuple [.str x, p])) : Dr d l J (tTup (tCons (tC (.str x)) (tCons te tNil))) σ (0 + (c + 0)) (Sv K d Rw) :=
  dr_tup (as_cons sj (dr_s x) (as_cons sj h2 as_nil)) fun ps ⟨p, qs, e, hp, p2, qs2, e2, hp2, hq2⟩ => by
    subst e hp e2 hq2
    exact ⟨by show 2 ≤ 100; decide, h _ hp2⟩
theorem rw3 {x : Str} (sj : Stb d J) (h2 : Dr d l J te σ c (Sv K d S1)) (h3 : Dr d l J te2 σ c' (Sv K d S2)) (h : ∀ p q, S1 p → S2 q → Rw (.tuple [.str x, p, q])) : Dr d l J (tTup (tCons (tC (.str x)) (tCons te (tCons te2 tNil)))) σ (0 + (c + (c' + 0))) (Sv K d Rw) :=
  dr_tup (as_cons sj (dr_s x) (as_cons sj h2 (as_cons sj h3 as_nil))) fun ps ⟨p, qs, e, hp, p2, qs2, e2, hp2, p3, qs3, e3, hp3, hq3⟩ => by
    subst e hp e2 e3 hq3
    exact ⟨by show 3 ≤ 100; decide, h _ _ hp2 hp3⟩
theorem tq1 {x : Str} (sj : Stb d J) (h : Tq (.tuple [.str x])) : Dr d l J (tTup (tCons (tC (.str x)) tNil)) σ (0 + 0) (Sv K d Tq) :=
  dr_tup (as_cons sj (dr_s x) as_nil) fun ps ⟨p, qs, e, hp, hq⟩ => by
    subst e hp hq
    exact ⟨by show 1 ≤ 100; decide, h⟩
theorem tq2 {x y : Str} (sj : Stb d J) (h : Tq (.tuple [.str x, .str y])) : Dr d l J (tTup (tCons (tC (.str x)) (tCons (tC (.str y)) tNil))) σ (0 + (0 + 0)) (Sv K d Tq) :=
  dr_tup (as_cons sj (dr_s x) (as_cons sj (dr_s y) as_nil)) fun ps ⟨p, qs, e, hp, p2, qs2, e2, hp2, hq2⟩ => by
    subst e hp e2 hp2 hq2
    exact ⟨by show 2 ≤ 100; decide, h⟩
end
abbrev sWrong : Stmt := top 58
abbrev NWr : List Str := ["_law_tape", "_law_at", "_law_many", "_law_number", "_law_words", "_law_some"]
def spWr (K : PySem.W.Frag) : Sp := fun vs H Q _ => ∃ (d : Addr) (l : Tl) (n : Nat) (a m : Int), vs = [.ref d, .int a, .int m] ∧ Tape H d l n ∧ n + 10 ≤ 900000 ∧ ∀ H' v, But d H H' → Tape H' d l (n + 10) → Sv K d Rw H' v → Q v H'
section
variable {P : Program} {w : World} {K : PySem.W.Frag} {mg : Str → Option Value} {base : Heap}
theorem scWr : FnScope NWr ["_law_tape", "_law_at", "_law_many"] (defScope sWrong) := ⟨rfl, rfl, rfl, by decide +kernel, rfl, by decide +kernel, by decide +kernel⟩
theorem ok_wr {f fP : Addr} {fd fdP : FuncData} (F : Fun K "_law_wrong" "_law_wrong" sWrong f fd) (GP : FnOk P w K mg base CX0 2 fP fdP ["_law_tape", "_law_items"] spPick) (mP : mg "_law_pick" = some (.ref fP)) (kP : PySem.W.keepIn K (.ref fP) = true) (bP : Binds K fdP ["_law_tape", "_law_items"] []) :
    FnOk P w K mg base CX0 3 f fd ["_law_tape", "_law_at", "_law_many"] (spWr K) := by
  refine F.ok (k := 2) scWr (fun vs H Q E h => ?_) (fun cdv A outer s H vs Q E hr h => ?_)
  · obtain ⟨d, l, n, a, m, rfl, _⟩ := h
    rfl
  · obtain ⟨d, l, n, a, m, rfl, hT, hn, q⟩ := h
    refine ⟨_, pss_cons (ps_set (i := 3) scWr.nd rfl (Or.inl rfl) (pe_call GP hr (by rfl) mP kP bP .nil pass0 (pa_cons (pv 0) (pa_cons (pe_lst (pa_cons (pv 1) (pa_cons (pe_op op_sub (pv 1) pe_int) (pa_cons (pv 2) (pa_cons (pe_op op_add (pv 2) pe_int) (pa_cons pe_bl (pa_cons pe_non (pa_cons pe_str (pa_cons (pe_un un_neg pe_int) (pa_cons pe_int pa_nil)))))))))) pa_nil))))
      (pss_cons (ps_set (i := 4) scWr.nd rfl (Or.inl rfl) (pe_lst (pa_cons pe_str (pa_cons pe_str (pa_cons pe_str (pa_cons pe_str pa_nil))))))
      (pss_cons (ps_set (i := 5) scWr.nd rfl (Or.inl rfl) (pe_lst (pa_cons (pe_tup (pa_cons (pe_call GP hr (by rfl) mP kP bP .nil pass0 (pa_cons (pv 0) (pa_cons (pv 4) pa_nil))) (pa_cons (pv 3) pa_nil))) (pa_cons (pe_tup (pa_cons pe_str (pa_cons (pe_tup (pa_cons pe_str (pa_cons pe_str pa_nil))) (pa_cons (pv 3) pa_nil)))) (pa_cons (pe_tup (pa_cons (pe_call GP hr (by rfl) mP kP bP .nil pass0 (pa_cons (pv 0) (pa_cons (pv 4) pa_nil))) pa_nil)) (pa_cons (pe_lst (pa_cons pe_str pa_nil)) (pa_cons pe_str (pa_cons pe_non pa_nil))))))))
      (pss_cons (ps_set (i := 5) scWr.nd rfl (Or.inl rfl) (pe_op op_cat (pv 5) (pe_lst (pa_cons (pe_tup pa_nil) (pa_cons (pe_tup (pa_cons pe_str (pa_cons pe_int pa_nil))) (pa_cons (pe_tup (pa_cons pe_str (pa_cons pe_int pa_nil))) (pa_cons (pe_tup (pa_cons pe_str (pa_cons pe_str pa_nil))) (pa_cons (pe_tup (pa_cons pe_str pa_nil)) (pa_cons (pe_tup (pa_cons pe_str (pa_cons pe_int pa_nil))) (pa_cons (pe_tup (pa_cons pe_str (pa_cons pe_bl pa_nil))) (pa_cons (pe_tup (pa_cons pe_str (pa_cons (pe_un un_neg pe_int) pa_nil))) pa_nil)))))))))))
      (pss_cons (ps_set (i := 5) scWr.nd rfl (Or.inl rfl) (pe_op op_cat (pv 5) (pe_lst (pa_cons (pe_tup (pa_cons pe_str (pa_cons (pe_tup (pa_cons pe_str (pa_cons pe_str pa_nil))) (pa_cons (pe_op op_sub (pv 2) pe_int) pa_nil)))) (pa_cons (pe_tup (pa_cons pe_str (pa_cons (pe_op op_sub (pv 2) pe_int) pa_nil))) (pa_cons (pe_tup (pa_cons pe_str pa_nil)) (pa_cons (pe_tup (pa_cons pe_str (pa_cons pe_non pa_nil))) (pa_cons (pe_tup (pa_cons pe_int pa_nil)) (pa_cons (pe_tup (pa_cons pe_str (pa_cons (pe_op op_add (pv 1) pe_int) (pa_cons pe_int pa_nil)))) pa_nil)))))))))
      (pss_one (ps_ret (pe_call GP hr (by rfl) mP kP bP .nil pass0 (pa_cons (pv 0) (pa_cons (pe_op op_cat (pv 5) (pe_lst (pa_cons (pe_tup (pa_cons pe_str (pa_cons pe_str (pa_cons pe_str pa_nil)))) (pa_cons (pe_tup (pa_cons pe_str (pa_cons (pe_op op_sub (pv 2) pe_int) pa_nil))) (pa_cons pe_int (pa_cons (pe_tup (pa_cons pe_str (pa_cons pe_int pa_nil))) (pa_cons (pe_tup (pa_cons pe_str (pa_cons (pe_tup (pa_cons pe_str pa_nil)) (pa_cons (pe_op op_sub (pv 2) pe_int) pa_nil)))) pa_nil))))))) pa_nil))))))))), ?_⟩
    have sT : Stb d (fun _ => True) := fun _ _ _ _ => trivial
    have aN : DrA d l (fun _ => True) _ [some (.ref d), some (.int a), some (.int m), none, none, none] _ (AllR 9 (Sv K d Nm)) := dal_cons sT sv_st (dr_iv (i := 1) (a := a) rfl) (dal_cons sT sv_st (dr_io (i := 1) (a := a) (o := 1) (g := fun i j => i - j) rfl) (dal_cons sT sv_st (dr_iv (i := 2) (a := m) rfl) (dal_cons sT sv_st (dr_io (i := 2) (a := m) (o := 5) (g := fun i j => i + j) rfl) (dal_cons sT sv_st (dr_to (dr_b true) fun p e => e ▸ nm_bool _) (dal_cons sT sv_st (dr_to dr_n fun p e => e ▸ nm_none) (dal_cons sT sv_st (dr_to (dr_s "1") fun p e => e ▸ nm_1) (dal_cons sT sv_st (dr_to (dr_neg 1) fun p e => e ▸ nm_int _) (dal_cons sT sv_st (dr_to (dr_i 0) fun p e => e ▸ nm_int _) dal_nil))))))))
    refine asg_run (dr_pick sT rfl sv_st aN (by decide) H n _ trivial hT (by omega) fun H1 nv b1 t1 r1 => ?_)
    let J2 : Hp → Prop := fun H => Sv K d Nm H nv
    have s2 : Stb d J2 := fun Ha Hb b z => z.but b
    let RW : Hp → V → Prop := fun _ v => ∃ x, v = .str x ∧ x ∈ leads
    have stW : ∀ (Ha Hb : Hp) v, But d Ha Hb → RW Ha v → RW Hb v := fun _ _ _ _ z => z
    have wd : ∀ {x : Str} {σ : L2.St}, x ∈ leads → Dr d l J2 (tC (.str x)) σ 0 RW := fun h => dr_const fun _ => ⟨_, rfl, h⟩
    have aW : DrA d l J2 _ [some (.ref d), some (.int a), some (.int m), some nv, none, none] _ (AllR 4 RW) := dal_cons s2 stW (wd (x := "fork") (by decide +kernel)) (dal_cons s2 stW (wd (x := "jump") (by decide +kernel)) (dal_cons s2 stW (wd (x := "shield") (by decide +kernel)) (dal_cons s2 stW (wd (x := "guard") (by decide +kernel)) dal_nil)))
    refine asg_run (lst_run stW aW (by decide) r1 t1 (by omega) fun H2 W ws b2 t2 nW hW r2 => ?_)
    let J3 : Hp → Prop := fun H => Sv K d Nm H nv ∧ H W = some (.lst ws)
    have s3 : Stb d J3 := fun Ha Hb b z => ⟨z.1.but b, b _ _ nW z.2⟩
    have pw : ∀ {o : Option V}, Dr d l J3 (tCall spPick [] E0 (tCons (tVar 0) (tCons (tVar 4) tNil))) [some (.ref d), some (.int a), some (.int m), some nv, some (.ref W), o] 1 (Sv K d fun q => ∃ x, q = .str x ∧ x ∈ leads) := fun H n Q j t b q => ⟨_, rfl, _, rfl, d, l, W, n, ws, rfl, t, by omega, j.2, (fun e => by have := r2.1; rw [e] at this; cases this), by rw [r2.1]; decide, fun H1 v b1 t1 hv => by
      obtain ⟨x, rfl, hx⟩ := r2.2 v hv
      exact q H1 _ b1 t1 ⟨_, .str x, x, rfl, hx⟩⟩
    have nu : ∀ {o : Option V}, Dr d l J3 (tVar 3) [some (.ref d), some (.int a), some (.int m), some nv, some (.ref W), o] 0 (Sv K d Nm) := dr_var rfl fun H z => z.1
    have p1 : Dr d l J3 _ [some (.ref d), some (.int a), some (.int m), some nv, some (.ref W), none] _ (Sv K d Rw) := dr_tup (as_cons s3 pw (as_cons s3 nu as_nil)) fun ps ⟨p, qs, e, ⟨x, hx, hx2⟩, p2, qs2, e2, hp2, hq2⟩ => by
      subst e hx e2 hq2
      exact ⟨by show 2 ≤ 100; decide, rw_lead hx2 hp2⟩
    have p2 : Dr d l J3 _ [some (.ref d), some (.int a), some (.int m), some nv, some (.ref W), none] _ (Sv K d Rw) := rw3 (x := "test") s3 (tq2 (x := "is") (y := "list") s3 tq_list) nu fun p q hp hq => rw_test hp hq
    have p3 : Dr d l J3 _ [some (.ref d), some (.int a), some (.int m), some nv, some (.ref W), none] _ (Sv K d Rw) := dr_tup (as_cons s3 pw as_nil) fun ps ⟨p, qs, e, ⟨x, hx, hx2⟩, hq⟩ => by
      subst e hx hq
      exact ⟨by show 1 ≤ 100; decide, rw_lead1 hx2⟩
    have p4 : Dr d l J3 _ [some (.ref d), some (.int a), some (.int m), some nv, some (.ref W), none] _ (Sv K d Rw) := dr_lst (as_cons s3 (dr_s "give") as_nil) fun ps ⟨p, qs, e, hp, hq⟩ => by
      subst e hp hq
      exact ⟨by show 1 ≤ 100; decide, rw_conc _ (by simp [conc])⟩
    have p5 : Dr d l J3 _ [some (.ref d), some (.int a), some (.int m), some nv, some (.ref W), none] _ (Sv K d Rw) := dr_to (dr_s "give") fun p e => e ▸ rw_conc _ (by simp [conc])
    have p6 : Dr d l J3 _ [some (.ref d), some (.int a), some (.int m), some nv, some (.ref W), none] _ (Sv K d Rw) := dr_to dr_n fun p e => e ▸ rw_conc _ (by simp [conc])
    have a1 := dal_cons s3 sv_st p1 (dal_cons s3 sv_st p2 (dal_cons s3 sv_st p3 (dal_cons s3 sv_st p4 (dal_cons s3 sv_st p5 (dal_cons s3 sv_st p6 dal_nil)))))
    refine asg_run (lst_run sv_st a1 (by decide) ⟨Sv.but r1 b2, hW⟩ t2 (by omega) fun H3 L1 xs1 b3 t3 nL1 hL1 r3 => ?_)
    let J5 : Addr → List V → Hp → Prop := fun L xs H => H L = some (.lst xs) ∧ ∀ v ∈ xs, Sv K d Rw H v
    have s5 : ∀ {L xs}, L ≠ d → Stb d (J5 L xs) := fun nL Ha Hb b z => ⟨b _ _ nL z.1, fun v hv => (z.2 v hv).but b⟩
    let σ5 : Addr → L2.St := fun L => [some (.ref d), some (.int a), some (.int m), some nv, some (.ref W), some (.ref L)]
    have cn : ∀ {p}, p ∈ conc → Rw p := fun h => rw_conc _ h
    have sL1 := s5 (L := L1) (xs := xs1) nL1
    have q1 : Dr d l (J5 L1 xs1) _ (σ5 L1) _ (Sv K d Rw) := dr_tup (K := K) as_nil fun ps e => by
      subst e
      exact ⟨by show 0 ≤ 100; decide, cn (by simp [conc])⟩
    have a2 : DrA d l (J5 L1 xs1) _ (σ5 L1) _ (AllR 8 (Sv K d Rw)) := dal_cons sL1 sv_st q1 (dal_cons sL1 sv_st (rw2 (x := "give") sL1 (dr_i 1) fun p e => e ▸ cn (by simp [conc])) (dal_cons sL1 sv_st (rw2 (x := "every") sL1 (dr_i 0) fun p e => e ▸ cn (by simp [conc])) (dal_cons sL1 sv_st (rw2 (x := "field") sL1 (dr_s "A") fun p e => e ▸ cn (by simp [conc]))
      (dal_cons sL1 sv_st (rw1 (x := "field") sL1 (cn (by simp [conc]))) (dal_cons sL1 sv_st (rw2 (x := "item") sL1 (dr_i 100) fun p e => e ▸ cn (by simp [conc])) (dal_cons sL1 sv_st (rw2 (x := "item") sL1 (dr_b true) fun p e => e ▸ cn (by simp [conc])) (dal_cons sL1 sv_st (rw2 (x := "item") sL1 (dr_neg 1) fun p e => e ▸ cn (by simp [conc])) dal_nil)))))))
    refine asg_run (cat_run sL1 (i := 5) (p := L1) (xs := xs1) rfl (fun H z => z) sv_st a2 (by rw [r3.1]; decide) ⟨hL1, r3.2⟩ t3 (by omega) fun H4 L2' xs2 b4 t4 nL2 hL2 r4 => ?_)
    have sL2 := s5 (L := L2') (xs := xs2) nL2
    have io : Dr d l (J5 L2' xs2) (tOp (rI0 fun i j => .int (i - j)) (tVar 2) (tC (.int 1))) (σ5 L2') 0 (Sv K d Nm) := dr_io (i := 2) (a := m) (o := 1) (g := fun i j => i - j) rfl
    have io1 : Dr d l (J5 L2' xs2) (tOp (rI0 fun i j => .int (i + j)) (tVar 1) (tC (.int 1))) (σ5 L2') 0 (Sv K d Nm) := dr_io (i := 1) (a := a) (o := 1) (g := fun i j => i + j) rfl
    have z0 : Dr d l (J5 L2' xs2) (tTup (tCons (tC (.int 0)) tNil)) (σ5 L2') (0 + 0) (Sv K d Rw) := dr_tup (as_cons sL2 (dr_i 0) as_nil) fun ps ⟨p, qs, e, hp, hq⟩ => by
      subst e hp hq
      exact ⟨by show 1 ≤ 100; decide, cn (by simp [conc])⟩
    have a3 : DrA d l (J5 L2' xs2) _ (σ5 L2') _ (AllR 6 (Sv K d Rw)) := dal_cons sL2 sv_st (rw3 (x := "test") sL2 (tq2 (x := "is") (y := "A") sL2 tq_isA) io fun p q hp hq => rw_test hp hq) (dal_cons sL2 sv_st (rw2 (x := "test") sL2 io fun p hp => rw_test2 hp) (dal_cons sL2 sv_st (rw1 (x := "same") sL2 (cn (by simp [conc]))) (dal_cons sL2 sv_st (rw2 (x := "open") sL2 dr_n fun p e => e ▸ cn (by simp [conc]))
      (dal_cons sL2 sv_st z0 (dal_cons sL2 sv_st (rw3 (x := "fork") sL2 io1 (dr_i 1) fun p q hp hq => hq ▸ rw_fork3 hp) dal_nil)))))
    refine asg_run (cat_run sL2 (i := 5) (p := L2') (xs := xs2) rfl (fun H z => z) sv_st a3 (by rw [r4.1, r3.1]; decide) ⟨hL2, r4.2⟩ t4 (by omega) fun H5 L3 xs3 b5 t5 nL3 hL3 r5 => ?_)
    have sL3 := s5 (L := L3) (xs := xs3) nL3
    have io2 : Dr d l (J5 L3 xs3) (tOp (rI0 fun i j => .int (i - j)) (tVar 2) (tC (.int 1))) (σ5 L3) 0 (Sv K d Nm) := dr_io (i := 2) (a := m) (o := 1) (g := fun i j => i - j) rfl
    have a4 : DrA d l (J5 L3 xs3) _ (σ5 L3) _ (AllR 5 (Sv K d Rw)) := dal_cons sL3 sv_st (rw3 (x := "field") sL3 (dr_s "a") (dr_s "b") fun p q hp hq => hp ▸ hq ▸ cn (by simp [conc])) (dal_cons sL3 sv_st (rw2 (x := "both") sL3 io2 fun p hp => rw_both hp) (dal_cons sL3 sv_st (dr_to (dr_i 0) fun p e => e ▸ cn (by simp [conc])) (dal_cons sL3 sv_st (rw2 (x := "") sL3 (dr_i 1) fun p e => e ▸ cn (by simp [conc]))
      (dal_cons sL3 sv_st (rw3 (x := "test") sL3 (tq1 (x := "same") sL3 tq_same) io2 fun p q hp hq => rw_test hp hq) dal_nil))))
    exact ret_run (dr_pick2 sL3 (i := 5) (p := L3) (xs := xs3) rfl rfl (fun H z => z) sv_st a4 (by rw [r5.1, r4.1, r3.1]; decide) H5 _ _ ⟨hL3, r5.2⟩ t5 (by omega) fun H6 v b6 t6 r6 => q H6 v (b1.trans (b2.trans (b3.trans (b4.trans (b5.trans b6))))) (t6.more (by omega)) r6)
end
end Toy


namespace Toy
open PySem PySem.Spec L2 PyProof.Rows PySem.W
/-! ### a right row has no list and no dict in it -/
mutual
def noq : Dt → Bool
  | .tup l => noqL l
  | .opq => false
  | .non => true
  | .bl _ => true
  | .int _ => true
  | .str _ => true
def noqL : List Dt → Bool
  | [] => true
  | t :: l => noq t && noqL l
end
theorem noqL_mem : ∀ {l : List Dt} {t : Dt}, noqL l = true → t ∈ l → noq t = true
  | e :: l, t, h, hm => by
    simp only [noqL, Bool.and_eq_true] at h
    rcases List.mem_cons.mp hm with rfl | hm
    · exact h.1
    · exact noqL_mem h.2 hm
theorem noqL_of : ∀ {l : List Dt}, (∀ t ∈ l, noq t = true) → noqL l = true
  | [], _ => by simp [noqL]
  | e :: l, h => by
    simp only [noqL, Bool.and_eq_true]
    exact ⟨h e List.mem_cons_self, noqL_of fun t ht => h t (List.mem_cons_of_mem _ ht)⟩
theorem wordD_noq {f : Dt} (h : wordD f = true) : noq f = true := by cases f <;> simp_all [wordD, noq]
theorem wholeD_noq {f : Dt} (h : wholeD f = true) : noq f = true := by cases f <;> simp_all [wholeD, noq]
theorem leafD_noq {f : Dt} (h : leafD f = true) : noq f = true := by cases f <;> simp_all [leafD, noq]
theorem sortD_noq {f : Dt} (h : sortD f = true) : noq f = true := by cases f <;> simp_all [sortD, noq]
def kinds7 : List Str := ["key", "index", "leaf", "sort", "walk", "test", "filter"]
def twoK : List Str := ["test", "walk"]
theorem kinds7_of : ∀ x ∈ testsL ++ walksL, ((formOf x).getD []).all (fun k => decide (k ∈ kinds7)) = true := by decide +kernel
theorem kinds7_part : ∀ k ∈ kinds7, PK k = true → ∀ o ∈ twoK, nar o k ∈ twoK := by decide +kernel
theorem kinds7_leaf : ∀ k ∈ kinds7, PK k = false → k = "key" ∨ k = "index" ∨ k = "leaf" ∨ k = "sort" := by decide +kernel
theorem beg_two : ∀ k ∈ twoK, ∀ x, begK x k = true → x ∈ testsL ++ walksL := by
  intro k hk x h
  unfold twoK at hk
  simp only [List.mem_cons, List.not_mem_nil, or_false] at hk
  unfold begK at h
  rcases hk with rfl | rfl
  · rw [if_neg (by decide +kernel), if_neg (by decide +kernel), Bool.and_eq_true] at h
    have h2 := of_decide_eq_true h.2
    rw [decide_eq_true rfl] at h2
    exact List.mem_append.mpr (.inl (of_decide_eq_true h2))
  · rw [if_pos rfl] at h
    exact List.mem_append.mpr (.inr (of_decide_eq_true h))
theorem fld_noq {k : Str} {f : Dt} (hk : k ∈ kinds7) (hp : PK k = false) (h : fldD k f = true) : noq f = true := by
  unfold fldD at h
  rw [if_neg (by rw [hp]; exact Bool.false_ne_true)] at h
  rcases kinds7_leaf k hk hp with rfl | rfl | rfl | rfl
  · rw [if_pos rfl] at h
    exact wordD_noq h
  · rw [if_neg (by decide +kernel), if_neg (by decide +kernel), if_pos rfl] at h
    exact wholeD_noq h
  · rw [if_neg (by decide +kernel), if_neg (by decide +kernel), if_neg (by decide +kernel), if_pos rfl] at h
    exact leafD_noq h
  · rw [if_neg (by decide +kernel), if_neg (by decide +kernel), if_neg (by decide +kernel), if_neg (by decide +kernel), if_pos rfl] at h
    exact sortD_noq h
theorem flds_noq : ∀ (ks : List Str) (fs : List Dt), (∀ k ∈ ks, k ∈ kinds7) → fs.length = ks.length → (∀ i, i < fs.length → fldD (ks.getD i Str.empty) (fs.getD i .non) = true) → (∀ p ∈ kpF ks fs, noq p.2 = true) → noqL fs = true
  | [], [], _, _, _, _ => by simp [noqL]
  | [], _ :: _, _, h, _, _ => by simp at h
  | _ :: _, [], _, h, _, _ => by simp at h
  | k :: ks, f :: fs, hk, hl, hf, hp => by
    simp only [noqL, Bool.and_eq_true]
    refine ⟨?_, flds_noq ks fs (fun x hx => hk x (List.mem_cons_of_mem _ hx)) (by simpa using hl) (fun i hi => by
      have := hf (i + 1) (by simpa using hi)
      simpa only [List.getD_cons_succ] using this) fun p hm => hp p (by simp only [kpF]; exact List.mem_append.mpr (.inr hm))⟩
    have h0 := hf 0 (by simp)
    simp only [List.getD_cons_zero] at h0
    cases hpk : PK k with
    | true =>
      exact hp (k, f) (by
        simp only [kpF]
        unfold kpK
        rw [if_pos hpk]
        exact List.mem_append.mpr (.inl (List.mem_singleton.mpr rfl)))
    | false => exact fld_noq (hk k List.mem_cons_self) hpk h0
theorem okk_noq : ∀ (n : Nat) (k : Str) (t : Dt), k ∈ twoK → okk n k t = true → noq t = true
  | 0, k, t, hk, h => by cases h
  | n + 1, k, t, hk, h => by
    rw [okk, Bool.and_eq_true] at h
    have hb : ∃ x fs, t = .tup (.str x :: fs) ∧ begK x k = true := by
      have h1 := h.1
      unfold hasF at h1
      split at h1
      · rename_i x fs
        rw [Bool.and_eq_true] at h1
        exact ⟨x, fs, rfl, h1.1⟩
      · cases h1
    obtain ⟨x0, fs0, e0, hb⟩ := hb
    obtain ⟨x, fs, ks, rfl, hf, hl, hfl⟩ := hasF_cases h.1
    cases e0
    have h2 := h.2
    rw [List.all_eq_true] at h2
    have hkp : kpOf (.tup (.str x0 :: fs0)) = kpF ks fs0 := by simp only [kpOf, hf]
    rw [hkp] at h2
    have h7 := kinds7_of x0 (beg_two k hk x0 hb)
    rw [hf, Option.getD_some, List.all_eq_true] at h7
    have h7' : ∀ k ∈ ks, k ∈ kinds7 := fun k hk => of_decide_eq_true (h7 k hk)
    simp only [noq, noqL, Bool.true_and]
    refine flds_noq ks fs0 h7' hl hfl fun p hp => okk_noq n (nar k p.1) p.2 ?_ (h2 p hp)
    have : ∀ (ks : List Str) (fs : List Dt), (∀ k ∈ ks, k ∈ kinds7) → ∀ p ∈ kpF ks fs, p.1 ∈ kinds7 ∧ PK p.1 = true := by
      intro ks
      induction ks with
      | nil => intro fs _ p hp; simp [kpF] at hp
      | cons kd ks ih =>
        intro fs h p hp
        cases fs with
        | nil => simp [kpF] at hp
        | cons f fs =>
          simp only [kpF] at hp
          rcases List.mem_append.mp hp with hp | hp
          · unfold kpK at hp
            have hkd := h kd List.mem_cons_self
            by_cases c : PK kd = true
            · rw [if_pos c, List.mem_singleton] at hp
              subst hp
              exact ⟨hkd, c⟩
            · rw [if_neg c] at hp
              have c : PK kd = false := by simpa using c
              have nf : kd ≠ "filters" := by
                rcases kinds7_leaf kd hkd c with rfl | rfl | rfl | rfl <;> decide +kernel
              have ne : kd ≠ "entries" := by
                rcases kinds7_leaf kd hkd c with rfl | rfl | rfl | rfl <;> decide +kernel
              rw [if_neg nf, if_neg ne] at hp
              cases hp
          · exact ih fs (fun k hk => h k (List.mem_cons_of_mem _ hk)) p hp
    obtain ⟨a, b⟩ := this ks fs0 h7' p hp
    exact kinds7_part _ a b k hk
theorem tstD_noq {f : Dt} (h : tstD f = true) : noq f = true := by
  unfold tstD fine at h
  simp only [List.all_cons, List.all_nil, Bool.and_true, Bool.and_eq_true, fine1] at h
  exact okk_noq _ "test" f (by decide +kernel) h.1.1
theorem fldC_noq {k : Str} {i n : Nat} {f : Dt} (h : fldC k i n f = true) : noq f = true := by
  unfold fldC at h
  split at h
  · exact wordD_noq h
  split at h
  · exact wholeD_noq h
  split at h
  · exact tstD_noq h
  cases f <;> simp_all [noq]
theorem isRow_noq {t : Dt} {i n : Nat} (h : isRow t i n = true) : noq t = true := by
  obtain ⟨x, fs, rfl⟩ := row_word h
  unfold isRow at h
  dsimp only at h
  cases hx : rowF x with
  | none => rw [hx] at h; cases h
  | some ks =>
    rw [hx] at h
    simp only [Bool.and_eq_true, decide_eq_true_eq, List.all_eq_true, List.mem_range] at h
    simp only [noq, noqL, Bool.true_and]
    refine noqL_of fun t ht => ?_
    obtain ⟨j, hj, rfl⟩ := List.getElem_of_mem ht
    have := h.2 j hj
    rw [List.getD_eq_getElem?_getD (l := fs), List.getElem?_eq_getElem hj, Option.getD_some] at this
    exact fldC_noq this
/-- a row drawn: no list in it -/
def RwN (p : PyData) : Prop := Rw p ∧ noq (ofP p) = true
theorem gd_noq {m s : Nat} {p : PyData} (h : Gd "test" m s p) : noq (ofP p) = true := okk_noq _ "test" _ (by decide +kernel) (h.ok _ (Nat.lt_succ_self _))
/-! a datum without lists does not see what becomes of a list -/
mutual
theorem pv_put {K : PySem.W.Frag} {H : Hp} {D : Addr} {xs : List V} {u : HO} (hD : H D = some (.lst xs)) : ∀ {v : V} {p : PyData}, Pv K H v p → noq (ofP p) = true → Pv K (upd H D u) v p
  | _, _, .non, _ => .non
  | _, _, .bl b, _ => .bl b
  | _, _, .int i, _ => .int i
  | _, _, .str x, _ => .str x
  | _, _, .lst _ _, h => by simp [ofP, noq] at h
  | _, _, .tup h a, hq => by
    simp only [ofP, noq] at hq
    refine .tup ?_ (pvl_put hD a hq)
    rcases h with (h | ⟨o, h⟩) | h
    · exact .inl (.inl ((upd_ne fun z => by rw [z, hD] at h; cases h).trans h))
    · exact .inl (.inr ⟨o, (upd_ne fun z => by rw [z, hD] at h; cases h).trans h⟩)
    · exact .inr h
theorem pvl_put {K : PySem.W.Frag} {H : Hp} {D : Addr} {xs : List V} {u : HO} (hD : H D = some (.lst xs)) : ∀ {vs : List V} {ps : List PyData}, PvL K H vs ps → noqL (ofPL ps) = true → PvL K (upd H D u) vs ps
  | _, _, .nil, _ => .nil
  | _, _, .cons a b, h => by
    simp only [ofPL, noqL, Bool.and_eq_true] at h
    exact .cons (pv_put hD a h.1) (pvl_put hD b h.2)
end
section
variable {K : PySem.W.Frag} {d : Addr} {l : Tl} {J : Hp → Prop} {σ : L2.St} {te te2 : TE} {c c' : Nat} {S1 S2 R : PyData → Prop}
theorem rn1 {x : Str} (sj : Stb d J) (h : R (.tuple [.str x])) : Dr d l J (tTup (tCons (tC (.str x)) tNil)) σ (0 + 0) (Sv K d R) :=
  dr_tup (as_cons sj (dr_s x) as_nil) fun ps ⟨p, qs, e, hp, hq⟩ => by
    subst e hp hq
    exact ⟨by show 1 ≤ 100; decide, h⟩
theorem rn2 {x : Str} (sj : Stb d J) (h2 : Dr d l J te σ c (Sv K d S1)) (h : ∀ p, S1 p → R (.tuple [.str x, p])) : Dr d l J (tTup (tCons (tC (.str x)) (tCons te tNil))) σ (0 + (c + 0)) (Sv K d R) :=
  dr_tup (as_cons sj (dr_s x) (as_cons sj h2 as_nil)) fun ps ⟨p, qs, e, hp, p2, qs2, e2, hp2, hq2⟩ => by
    subst e hp e2 hq2
    exact ⟨by show 2 ≤ 100; decide, h _ hp2⟩
theorem rn3 {x : Str} (sj : Stb d J) (h2 : Dr d l J te σ c (Sv K d S1)) (h3 : Dr d l J te2 σ c' (Sv K d S2)) (h : ∀ p q, S1 p → S2 q → R (.tuple [.str x, p, q])) : Dr d l J (tTup (tCons (tC (.str x)) (tCons te (tCons te2 tNil)))) σ (0 + (c + (c' + 0))) (Sv K d R) :=
  dr_tup (as_cons sj (dr_s x) (as_cons sj h2 (as_cons sj h3 as_nil))) fun ps ⟨p, qs, e, hp, p2, qs2, e2, hp2, p3, qs3, e3, hp3, hq3⟩ => by
    subst e hp e2 e3 hq3
    exact ⟨by show 3 ≤ 100; decide, h _ _ hp2 hp3⟩
end
theorem nq_1 (x : Str) : noq (ofP (.tuple [.str x])) = true := by simp [ofP, ofPL, noq, noqL]
theorem nq_2 {x : Str} {p : PyData} (h : noq (ofP p) = true) : noq (ofP (.tuple [.str x, p])) = true := by simp [ofP, ofPL, noq, noqL, h]
theorem nq_3 {x : Str} {p q : PyData} (h : noq (ofP p) = true) (h2 : noq (ofP q) = true) : noq (ofP (.tuple [.str x, p, q])) = true := by simp [ofP, ofPL, noq, noqL, h, h2]
theorem nq_i (i : Int) : noq (ofP (.int i)) = true := by simp [ofP, noq]
theorem nq_s (x : Str) : noq (ofP (.str x)) = true := by simp [ofP, noq]
end Toy


namespace Toy
open PySem PySem.Spec L2 PyProof.Rows PySem.W
abbrev sRow : Stmt := top 57
abbrev NRw : List Str := ["_law_tape", "_law_at", "_law_many", "_law_some", "_law_ends", "_law_number", "_law_leads", "_law_word"]
def spRow (K : PySem.W.Frag) : Sp := fun vs H Q _ => ∃ (d : Addr) (l : Tl) (p : Addr) (n a m : Nat) (ks : List Str), a < m ∧ m ≤ 100 ∧ vs = [.ref d, .int (a : Int), .int (m : Int)] ∧ Tape H d l n ∧ n + 30 ≤ 900000 ∧ valV l.m kKs = some (.ref p) ∧ H p = some (.lst (ks.map V.str)) ∧ KsOk ks ∧ ∀ H' v, But d H H' → Tape H' d l (n + 30) → Sv K d RwN H' v → Q v H'
section
variable {P : Program} {w : World} {K : PySem.W.Frag} {mg : Str → Option Value} {base : Heap}
theorem scRow : FnScope NRw ["_law_tape", "_law_at", "_law_many"] (defScope sRow) := ⟨rfl, rfl, rfl, by decide +kernel, rfl, by decide +kernel, by decide +kernel⟩
theorem key_str {p : PyData} (h : LfK "key" p) : ∃ k, p = .str k ∧ LfK "key" (.str k) := by
  have e : fldD "key" (ofP p) = wordD (ofP p) := by
    unfold fldD
    rw [if_neg (by decide +kernel), if_pos rfl]
  have hw := h.1
  rw [e] at hw
  cases p with
  | str k => exact ⟨k, rfl, h⟩
  | _ => simp [ofP, wordD] at hw
theorem ok_row {f fP fD fT : Addr} {fd fdP fdD fdT : FuncData} (F : Fun K "_law_row" "_law_row" sRow f fd) (GP : FnOk P w K mg base CX0 2 fP fdP ["_law_tape", "_law_items"] spPick) (mP : mg "_law_pick" = some (.ref fP)) (kP : PySem.W.keepIn K (.ref fP) = true) (bP : Binds K fdP ["_law_tape", "_law_items"] [])
    (GD : FnOk P w K mg base CX0 1 fD fdD ["_law_tape", "_law_many"] spDraw) (mD : mg "_law_draw" = some (.ref fD)) (kD : PySem.W.keepIn K (.ref fD) = true) (bD : Binds K fdD ["_law_tape", "_law_many"] [])
    (GT : FnOk P w K mg base CX0 9 fT fdT ["_law_tape", "_law_deep"] (spTm K "test" nT 0 3)) (mT : mg "_law_test" = some (.ref fT)) (kT : PySem.W.keepIn K (.ref fT) = true) (bT : Binds K fdT ["_law_tape", "_law_deep"] []) :
    FnOk P w K mg base CX0 10 f fd ["_law_tape", "_law_at", "_law_many"] (spRow K) := by
  refine F.ok (k := 9) scRow (fun vs H Q E h => ?_) (fun cdv A outer s H vs Q E hr h => ?_)
  · obtain ⟨d, l, p, n, a, m, ks, _, _, rfl, _⟩ := h
    rfl
  · obtain ⟨d, l, p, n, a, m, ks, ham, hm, rfl, hT, hn, hl, hp, hk, q⟩ := h
    have hr1 : Room 1 _ := hr.mono (show 1 ≤ 9 by omega)
    have hr2 : Room 2 _ := hr.mono (show 2 ≤ 9 by omega)
    have hu := hu_of hr
    refine ⟨_, pss_cons (ps_set (i := 3) scRow.nd rfl (Or.inl rfl) (pe_lst (pa_cons (pe_tup (pa_cons pe_str pa_nil)) (pa_cons (pe_tup (pa_cons pe_str (pa_cons (pe_call GP hr2 (by rfl) mP kP bP .nil pass0 (pa_cons (pv 0) (pa_cons (pe_dget hu (pv 0) pe_str (fun _ _ => rfl)) pa_nil))) pa_nil))) (pa_cons (pe_tup (pa_cons pe_str (pa_cons (pe_call GP hr2 (by rfl) mP kP bP .nil pass0 (pa_cons (pv 0) (pa_cons (pe_lst (pa_cons pe_int (pa_cons pe_int (pa_cons pe_int pa_nil)))) pa_nil))) pa_nil))) (pa_cons (pe_tup (pa_cons pe_str pa_nil)) pa_nil))))))
      (pss_cons (ps_set (i := 4) scRow.nd rfl (Or.inl rfl) (pe_lst (pa_cons (pe_tup (pa_cons pe_str pa_nil)) (pa_cons (pe_tup (pa_cons pe_str pa_nil)) (pa_cons (pe_tup (pa_cons pe_str pa_nil)) pa_nil)))))
      (pss_cons (ps_if (pt_cmpR op_eq (pe_op op_add (pv 1) pe_int) (pv 2) (nomark _)) (pss_one (ps_ret (pe_call GP hr2 (by rfl) mP kP bP .nil pass0 (pa_cons (pv 0) (pa_cons (pv 4) pa_nil))))) pss_nil)
      (pss_cons (ps_set (i := 5) scRow.nd rfl (Or.inr rfl) (pe_op op_add (pe_op op_add (pv 1) pe_int) (pe_call GD hr1 (by rfl) mD kD bD .nil pass0 (pa_cons (pv 0) (pa_cons (pe_op op_sub (pe_op op_sub (pv 2) (pv 1)) pe_int) pa_nil)))))
      (pss_cons (ps_set (i := 6) scRow.nd rfl (Or.inl rfl) (pe_op op_cat (pe_lc (own := [("_law_word", 7)]) (g := gName 7) (by rfl) scRow.nd (pi_tup (pe_tup (pa_cons pe_str (pa_cons pe_str (pa_cons pe_str (pa_cons pe_str pa_nil))))))
            (blkOk_by (own := [("_law_word", 7)]) (N := NRw) (sc := defScope sRow) (by decide +kernel)) (fun _ _ _ _ _ => pg_name (i := 7) scRow.nd rfl (Or.inl rfl)) (fun _ _ _ _ _ => pts_nil)
            (fun _ _ _ _ _ => pe_tup (pa_cons (pv 7) (pa_cons (pv 5) pa_nil))))
          (pe_lst (pa_cons (pe_tup (pa_cons pe_str (pa_cons (pe_call GT hr (by rfl) mT kT bT .nil pass0 (pa_cons (pv 0) (pa_cons pe_int pa_nil))) (pa_cons (pv 5) pa_nil)))) pa_nil))))
      (pss_one (ps_ret (pe_call GP hr2 (by rfl) mP kP bP .nil pass0 (pa_cons (pv 0) (pa_cons (pe_op op_cat (pe_op op_cat (pe_op op_cat (pv 3) (pv 4)) (pv 6)) (pv 6)) pa_nil))))))))), ?_⟩
    have sj : Stb d (JK p ks) := stb_list (np_of hT hp)
    have cn : ∀ {p}, p ∈ conc → noq (ofP p) = true → RwN p := fun h h2 => ⟨rw_conc _ h, h2⟩
    have nd : ∀ {Hx : Hp} {n : Nat}, Tape Hx d l n → ∀ {T : Addr}, Hx T = none → T ≠ d := fun t T e => by
      obtain ⟨o, ho⟩ := t.at.1
      exact (ne_of_none ho e).symm
    let σ0 : L2.St := [some (.ref d), some (.int (a : Int)), some (.int (m : Int)), none, none, none, none, none]
    have e1 : Dr d l (JK p ks) _ σ0 _ (Sv K d RwN) := rn2 (x := "field") (S1 := LfK "key") sj (dr_keyT (K := K) rfl hl hk) fun p h => by
      obtain ⟨k, e, hk⟩ := key_str h
      exact e ▸ ⟨rw_field hk, nq_2 (nq_s _)⟩
    let J9 : PyData → Prop := fun p => p = .int 0 ∨ p = .int 1 ∨ p = .int 99
    have i9 : Dr d l (JK p ks) _ σ0 _ (Sv K d J9) := dr_pick sj rfl sv_st (dal_cons sj sv_st (dr_to (dr_i 0) fun p e => .inl e) (dal_cons sj sv_st (dr_to (dr_i 1) fun p e => .inr (.inl e)) (dal_cons sj sv_st (dr_to (dr_i 99) fun p e => .inr (.inr e)) dal_nil))) (by decide)
    have e2 : Dr d l (JK p ks) _ σ0 _ (Sv K d RwN) := rn2 (x := "item") (S1 := J9) sj i9 fun p h => by
      rcases h with rfl | rfl | rfl
      all_goals exact cn (by simp [conc]) (nq_2 (nq_i _))
    have a1 := dal_cons sj sv_st (rn1 (K := K) (l := l) (σ := σ0) (x := "every") sj (cn (by simp [conc]) (nq_1 _))) (dal_cons sj sv_st e1 (dal_cons sj sv_st e2 (dal_cons sj sv_st (rn1 (K := K) (l := l) (σ := σ0) (x := "open") sj (cn (by simp [conc]) (nq_1 _))) dal_nil)))
    refine asg_run (lst_run sv_st a1 (by decide) hp hT (by omega) fun H1 L1 xs b1 t1 nL1 hL1 r1 => ?_)
    have sT : Stb d (fun _ => True) := fun _ _ _ _ => trivial
    have a2 : DrA d l (fun _ => True) _ [some (.ref d), some (.int (a : Int)), some (.int (m : Int)), some (.ref L1), none, none, none, none] _ (AllR 3 (Sv K d RwN)) := dal_cons sT sv_st (rn1 (x := "give") sT (cn (by simp [conc]) (nq_1 _))) (dal_cons sT sv_st (rn1 (x := "none") sT (cn (by simp [conc]) (nq_1 _))) (dal_cons sT sv_st (rn1 (x := "fail") sT (cn (by simp [conc]) (nq_1 _))) dal_nil))
    refine asg_run (lst_run sv_st a2 (by decide) trivial t1 (by omega) fun H2 L2' ys b2 t2 nL2 hL2 r2 => ?_)
    refine ⟨_, rfl, _, _, rfl, rfl, _, rfl, rfl, _, rfl, ite2 (fun c => ?_) (fun c => ?_)⟩
    · refine ret_run ⟨_, rfl, _, rfl, d, l, L2', _, ys, rfl, t2, by omega, hL2, (fun e => by have := r2.1; rw [e] at this; cases this), by rw [r2.1]; decide, fun H3 v b3 t3 hv => q H3 v (b1.trans (b2.trans b3)) (t3.more (by omega)) ((r2.2 v hv).but b3)⟩
    · have c1 : ¬ ((a : Int) + 1 = m) := fun z => c (decide_eq_true (by
        show V.int ((a : Int) + 1) = V.int m
        rw [z]))
      refine ⟨_, rfl, _, _, rfl, rfl, _, rfl, _, rfl, _, rfl, _, _, rfl, rfl, _, _, rfl, rfl, d, l, _, _, rfl, t2, by omega, by omega, by omega, fun H3 r b3 t3 r0 r1' => ⟨_, _, rfl, rfl, ?_⟩⟩
      have num : ∃ z : Int, (a : Int) + 1 + r = z := ⟨_, rfl⟩
      obtain ⟨z, hz⟩ := num
      dsimp only
      rw [hz]
      refine ⟨few (by show 4 ≤ 1000; decide), fun T nT => ⟨T, rfl, ⟨_, SqT.of upd_same⟩, fun D nD => ?_⟩⟩
      have sTT := same_new (u := .tup [.str "fork", .str "jump", .str "shield", .str "guard"]) (same_id (H := H3)) nT
      have t3' := t3.same sTT
      have ndD := nd t3' nD
      refine lc_tup (xs := [.str "fork", .str "jump", .str "shield", .str "guard"]) (fun i H' => ∃ us : List V, H' D = some (.lst us) ∧ us.length = i ∧ (∀ v ∈ us, ∃ t wd, v = .ref t ∧ t ≠ d ∧ H' t = some (.tup [.str wd, .int z]) ∧ wd ∈ leads) ∧ Same (upd H3 T (.tup [.str "fork", .str "jump", .str "shield", .str "guard"])) H') ⟨[], upd_same, rfl, (fun _ h => nomatch h), same_new same_id nD⟩ (fun i H' _ ⟨us, _, _, _, s4⟩ => same_seqT s4 (SqT.of upd_same)) ?_ ?_
      · rintro i x H4 hx ⟨us, hD4, lu, ou, s4⟩
        have hxm := List.mem_of_getElem? hx
        obtain ⟨wd, rfl, hwd⟩ : ∃ wd, x = .str wd ∧ wd ∈ leads := by
          simp only [List.mem_cons, List.not_mem_nil, or_false] at hxm
          rcases hxm with rfl | rfl | rfl | rfl
          all_goals exact ⟨_, rfl, by decide +kernel⟩
        have hi4 : i < 4 := by
          have := (List.getElem?_eq_some_iff.mp hx).1
          exact this
        refine ⟨rfl, _, rfl, _, rfl, few (by show 2 ≤ 1000; decide), fun T2 nT2 => ?_⟩
        have sB := same_new (u := .tup [.str wd, .int z]) (same_id (H := H4)) nT2
        have nDT : D ≠ T2 := ne_of_none hD4 nT2
        have nd2 : T2 ≠ d := nd (t3'.same s4) nT2
        refine ⟨us, (by rw [upd_ne nDT]; exact hD4), small1000 (by omega), us ++ [.ref T2], upd_same, by rw [List.length_append, lu]; rfl, fun v hv => ?_, fun b o ho => ?_⟩
        · rcases List.mem_append.mp hv with hv | hv
          · obtain ⟨t, wd', e, h1, h2, h3⟩ := ou v hv
            refine ⟨t, wd', e, h1, ?_, h3⟩
            rw [upd_ne (ne_of h2 hD4 (by intro z; cases z)), upd_ne (ne_of_none h2 nT2)]
            exact h2
          · rw [List.mem_singleton.mp hv]
            refine ⟨T2, wd, rfl, nd2, ?_, hwd⟩
            rw [upd_ne nDT.symm]
            exact upd_same
        · rw [upd_ne (ne_of_none ho nD)]
          exact sB _ _ (s4 _ _ ho)
      · rintro H4 ⟨us, hD4, lu, ou, s4⟩
        have t4 := t3'.same s4
        have b4 : But d H3 H4 := Same.but (sTT.trans s4) d
        have ouS : ∀ v ∈ us, Sv K d RwN H4 v := fun v hv => by
          obtain ⟨t, wd', rfl, h1, h2, h3⟩ := ou v hv
          exact ⟨.tuple [.str wd', .int z], .tup (SqT.of ((delH_ne h1).trans h2)) (.cons (.str _) (.cons (.int _) .nil)), rw_lead h3 (nm_int z), nq_2 (nq_i _)⟩
        let σ6 : L2.St := [some (.ref d), some (.int (a : Int)), some (.int (m : Int)), some (.ref L1), some (.ref L2'), some (.int z), none, none]
        have te : Dr d l (JK p ks) (tCall (spTm K "test" Toy.nT 0 3) [] E0 (tCons (tVar 0) (tCons (tC (.int 2)) tNil))) σ6 20 (Sv K d (Gd "test" 4 10)) := fun H n Q j t b q => ⟨_, rfl, d, l, p, n, 2, ks, ⟨by omega, by omega⟩, rfl, t, b, hl, j, hk, q⟩
        have a5 := dal_cons sj sv_st (rn3 (R := RwN) (x := "test") sj te (show Dr d l (JK p ks) (tVar 5) σ6 0 (Sv K d fun q => q = PyData.int z) from dr_var rfl fun _ _ => ⟨_, .int _, rfl⟩) fun p q hp hq => by subst hq; exact ⟨rw_test (tq_gd hp (by decide) (by decide)) (nm_int z), nq_3 (gd_noq hp) (nq_i _)⟩) dal_nil
        have b24 := b1.trans (b2.trans (b3.trans b4))
        refine lst_run sv_st a5 (by decide) (sj _ _ b24 hp) t4 (by omega) fun H5 L5 zs b5 t5 nL5 hL5 r5 => ?_
        have lu' : us.length = 4 := lu
        have l1 := r1.1
        have l2 := r2.1
        have l5 := r5.1
        refine ⟨D, L5, us, zs, rfl, rfl, b5 _ _ ndD hD4, hL5, few (by omega), fun L6 n6 => ?_⟩
        have s6 := same_new (u := .lst (us ++ zs)) (same_id (H := H5)) n6
        have h1 := s6 _ _ (b5 _ _ nL1 (b4 _ _ nL1 (b3 _ _ nL1 (b2 _ _ nL1 hL1))))
        have h2 := s6 _ _ (b5 _ _ nL2 (b4 _ _ nL2 (b3 _ _ nL2 hL2)))
        unfold gName
        dsimp only
        refine ret_run ?_
        refine ⟨_, rfl, _, rfl, _, rfl, L1, L2', xs, ys, rfl, rfl, h1, h2, few (by omega), fun P1 n1 => ?_⟩
        have s7 := same_new (u := .lst (xs ++ ys)) (same_id (H := upd H5 L6 (.lst (us ++ zs)))) n1
        refine ⟨_, rfl, P1, L6, _, _, rfl, rfl, upd_same, s7 _ _ upd_same, few (by rw [List.length_append, List.length_append]; omega), fun P2 n2 => ?_⟩
        have s8 := same_new (u := .lst (xs ++ ys ++ (us ++ zs))) s7 n2
        refine ⟨_, rfl, P2, L6, _, _, rfl, rfl, upd_same, s8 _ _ upd_same, few (by simp only [List.length_append]; omega), fun P3 n3 => ?_⟩
        have s9 := same_new (u := .lst (xs ++ ys ++ (us ++ zs) ++ (us ++ zs))) s8 n3
        have s59 := s6.trans s9
        refine ⟨d, l, P3, _, _, rfl, t5.same s59, by omega, upd_same, (fun e => by have := congrArg List.length e; simp only [List.length_append, List.length_nil] at this; omega), by simp only [List.length_append]; omega, fun H6 v b6 t6 hv => ?_⟩
        have bb : But d H5 H6 := (Same.but s59 d).trans b6
        refine q H6 v (b24.trans (b5.trans bb)) (t6.more (by omega)) ?_
        have hz : ∀ v ∈ us ++ zs, Sv K d RwN H5 v := fun v hv => by
          rcases List.mem_append.mp hv with hv | hv
          · exact (ouS v hv).but b5
          · exact r5.2 v hv
        rcases List.mem_append.mp hv with hv | hv
        · rcases List.mem_append.mp hv with hv | hv
          · rcases List.mem_append.mp hv with hv | hv
            · exact (r1.2 v hv).but (b2.trans (b3.trans (b4.trans (b5.trans bb))))
            · exact (r2.2 v hv).but (b3.trans (b4.trans (b5.trans bb)))
          · exact (hz v hv).but bb
        · exact (hz v hv).but bb
end
end Toy


namespace Toy
open PySem PySem.Spec L2 PyProof.Rows PySem.W
/-! ### what the law's turn wants of rows -/
theorem alk_refl : ∀ (n : Nat) (t : Dt), noq t = true → dep t < n → alkN n t t = true
  | 0, _, _, h => by omega
  | n + 1, .tup l, hq, hd => by
    simp only [noq] at hq
    simp only [dep] at hd
    simp only [alkN, decide_true, Bool.true_and, List.all_eq_true, List.mem_range]
    intro i hi
    rw [List.getD_eq_getElem?_getD, List.getElem?_eq_getElem hi, Option.getD_some]
    have hm : l[i] ∈ l := List.getElem_mem hi
    have := dep_mem hm
    exact alk_refl n _ (noqL_mem hq hm) (by omega)
  | n + 1, .non, _, _ => by simp [alkN, isNo]
  | n + 1, .bl b, _, _ => by simp [alkN]
  | n + 1, .int i, _, _ => by simp [alkN]
  | n + 1, .str x, _, _ => by simp [alkN]
  | n + 1, .opq, h, _ => by simp [noq] at h
theorem alk_len {n : Nat} {ts us : List Dt} (h : ts.length ≠ us.length) : alkN (n + 1) (.tup ts) (.tup us) = false := by
  simp only [alkN]
  rw [decide_eq_false h, Bool.false_and]
theorem fldC_more {k : Str} {i n : Nat} {f : Dt} (h : fldC k i n f = true) : fldC k i (n + 1) f = true := by
  unfold fldC at h ⊢
  split
  · rename_i c; rw [if_pos c] at h; exact h
  · rename_i c; rw [if_neg c] at h
    split
    · rename_i c; rw [if_pos c] at h; exact h
    · rename_i c; rw [if_neg c] at h
      split
      · rename_i c; rw [if_pos c] at h; exact h
      · rename_i c; rw [if_neg c] at h
        cases f with
        | int j =>
          simp only [Bool.and_eq_true, decide_eq_true_eq] at h ⊢
          exact ⟨h.1, by omega⟩
        | _ => simp at h
theorem isRow_more {t : Dt} {i n : Nat} (h : isRow t i n = true) : isRow t i (n + 1) = true := by
  obtain ⟨x, fs, rfl⟩ := row_word h
  unfold isRow at h ⊢
  dsimp only at h ⊢
  cases hx : rowF x with
  | none => rw [hx] at h; cases h
  | some ks =>
    rw [hx] at h
    simp only [Bool.and_eq_true, decide_eq_true_eq, List.all_eq_true, List.mem_range] at h ⊢
    exact ⟨h.1, fun j hj => fldC_more (h.2 j hj)⟩
def giveT : Dt := .tup [.str "give"]
theorem give_row (i n : Nat) : isRow giveT i n = true := by
  unfold isRow giveT
  dsimp only
  rw [show rowF "give" = some [] by decide +kernel]
  rfl
theorem fwA_snoc {n : Nat} : ∀ (ts : List Dt) (i : Nat), fwA n i ts = none → fwA (n + 1) i (ts ++ [giveT]) = none
  | [], i, _ => by
    rw [List.nil_append]
    unfold fwA
    rw [if_pos (give_row _ _)]
    rfl
  | t :: ts, i, h => by
    rw [List.cons_append]
    unfold fwA at h ⊢
    split at h
    · rename_i c
      rw [if_pos (isRow_more c)]
      exact fwA_snoc ts (i + 1) h
    · cases h
theorem firstW_none {ts : List Dt} (h : firstW ts = none) : fwA ts.length 0 ts = none ∧ lastE ts = true := by
  unfold firstW at h
  cases hf : fwA ts.length 0 ts with
  | some i => rw [hf] at h; cases h
  | none =>
    rw [hf] at h
    dsimp only at h
    split at h
    · rename_i c; exact ⟨rfl, c⟩
    · cases h
theorem firstW_snoc {ts : List Dt} (h : firstW ts = none) : firstW (ts ++ [giveT]) = none := by
  obtain ⟨h1, _⟩ := firstW_none h
  unfold firstW
  rw [List.length_append, List.length_singleton, fwA_snoc ts 0 h1]
  dsimp only
  rw [if_pos]
  unfold lastE
  rw [List.getLast?_append]
  show decide (("give" : Str) ∈ endsL) = true
  decide +kernel
theorem rows_of {ts : List Dt} (h : firstW ts = none) : ∀ j t, ts[j]? = some t → isRow t j ts.length = true := fun j t e => by
  have := fwA_none ts 0 (firstW_none h).1 j t e
  rwa [Nat.zero_add] at this
theorem noq_of {ts : List Dt} (h : firstW ts = none) : noqL ts = true := noqL_of fun t ht => by
  obtain ⟨j, hj, rfl⟩ := List.getElem_of_mem ht
  exact isRow_noq (rows_of h j _ (List.getElem?_eq_getElem hj))
def jumpP : PyData := .tuple [.str "jump", .int 1]
def giveP : PyData := .tuple [.str "give"]
theorem strEq (x y : Str) : (x == y) = decide (x = y) := by
  by_cases h : x = y
  · subst h; simp
  · rw [decide_eq_false h]
    exact beq_eq_false_iff_ne.mpr h
theorem bad_jump (c : Bool) (i n : Nat) : isRow (.tup [.str "jump", .bl c]) i n = false := by
  unfold isRow
  dsimp only
  rw [show rowF "jump" = some [("number" : Str)] by decide +kernel]
  dsimp only
  rw [Bool.and_eq_false_iff]
  refine .inr ?_
  rw [List.all_eq_false]
  refine ⟨0, List.mem_range.mpr (Nat.lt_succ_self 0), ?_⟩
  have e : fldC "number" i n (.bl c) = false := by
    unfold fldC
    rw [if_neg (by decide +kernel), if_neg (by decide +kernel), if_neg (by decide +kernel)]
  show ¬ fldC "number" i n (.bl c) = true
  rw [e]
  exact Bool.false_ne_true
theorem alk_jump {p : PyData} {i n : Nat} (h : isRow (ofP p) i n = true) : alkN 20 (ofP p) (ofP jumpP) = PyData.eqv p jumpP := by
  have eJ : ofP jumpP = .tup [.str "jump", .int 1] := by simp [jumpP, ofP, ofPL]
  rw [eJ]
  unfold jumpP
  cases p with
  | tuple ds =>
    match ds, h with
    | [], _ => simp [ofP, ofPL, alkN, PyData.eqv, PyData.eqvAll]
    | [a], _ => simp [ofP, ofPL, alkN, PyData.eqv, PyData.eqvAll]
    | [a, b], h =>
      simp only [ofP, ofPL, alkN, PyData.eqv, PyData.eqvAll, List.length_cons, List.length_nil, decide_true, Bool.true_and, Bool.and_true]
      have er : (List.range (0 + 1 + 1)) = [0, 1] := rfl
      rw [er]
      simp only [List.all_cons, List.all_nil, List.getD_cons_zero, List.getD_cons_succ, Bool.and_true]
      cases a with
      | str x =>
        simp only [ofP, alkN, PyData.eqv]
        rw [strEq]
        by_cases c : x = "jump"
        · subst c
          cases b with
          | int j => simp [ofP, alkN, PyData.eqv]; exact decide_eq_decide.mpr Iff.rfl
          | bool c =>
            simp only [ofP, ofPL] at h
            rw [bad_jump] at h
            cases h
          | _ => simp [ofP, alkN, PyData.eqv]
        · rw [decide_eq_false c, Bool.false_and, Bool.false_and]
      | _ => simp [ofP, alkN, PyData.eqv]
    | a :: b :: c :: r, _ => simp [ofP, ofPL, alkN, PyData.eqv, PyData.eqvAll]
  | _ => simp [ofP, alkN, PyData.eqv]
theorem alk_give {p : PyData} : alkN 20 (ofP p) (ofP giveP) = PyData.eqv p giveP := by
  have eG : ofP giveP = .tup [.str "give"] := by simp [giveP, ofP, ofPL]
  rw [eG]
  unfold giveP
  cases p with
  | tuple ds =>
    match ds with
    | [] => simp [ofP, ofPL, alkN, PyData.eqv, PyData.eqvAll]
    | [a] =>
      simp only [ofP, ofPL, alkN, PyData.eqv, PyData.eqvAll, List.length_cons, List.length_nil, decide_true, Bool.true_and, Bool.and_true]
      have er : (List.range (0 + 1)) = [0] := rfl
      rw [er]
      simp only [List.all_cons, List.all_nil, List.getD_cons_zero, Bool.and_true]
      cases a with
      | str x =>
        simp only [ofP, alkN, PyData.eqv]
        rw [strEq]
      | _ => simp [ofP, alkN, PyData.eqv]
    | a :: b :: r => simp [ofP, ofPL, alkN, PyData.eqv, PyData.eqvAll]
  | _ => simp [ofP, alkN, PyData.eqv]
theorem other_same {ps : List PyData} (h : firstW (ps.map ofP) = none) : alkN 21 (.tup (ps.map ofP)) (.tup [ofP jumpP, ofP giveP]) = PyData.eqv (.list ps) (.list [jumpP, giveP]) := by
  match ps, h with
  | [], _ => simp [alkN, PyData.eqv, PyData.eqvAll]
  | [a], _ => simp [alkN, PyData.eqv, PyData.eqvAll]
  | [a, b], h =>
    have ha := rows_of h 0 (ofP a) rfl
    simp only [List.map_cons, List.map_nil, alkN, PyData.eqv, PyData.eqvAll, List.length_cons, List.length_nil, decide_true, Bool.true_and, Bool.and_true]
    have er : (List.range (0 + 1 + 1)) = [0, 1] := rfl
    rw [er]
    simp only [List.all_cons, List.all_nil, List.getD_cons_zero, List.getD_cons_succ, Bool.and_true]
    rw [alk_jump ha, alk_give]
  | a :: b :: c :: r, _ => simp [alkN, PyData.eqv, PyData.eqvAll]
/-- many rows: their sizes -/
structure Rws (ps : List PyData) : Prop where
  rw : ∀ p ∈ ps, Rw p
theorem rws_lay {ps : List PyData} (h : ∀ p ∈ ps, Rw p) : PyData.canLayAll0 ps = true ∧ PyData.depthAll ps ≤ 12 := by
  induction ps with
  | nil => exact ⟨rfl, Nat.zero_le _⟩
  | cons p ps ih =>
    obtain ⟨a, b⟩ := ih fun q hq => h q (List.mem_cons_of_mem _ hq)
    have hp := h p List.mem_cons_self
    have := hp.dp
    simp only [PyData.canLayAll0, PyData.depthAll, hp.lay, a]
    exact ⟨rfl, by omega⟩
theorem rws_shL {ps : List PyData} (h : ∀ p ∈ ps, Rw p) : SeqAt.shaped (.list ps) = true := by
  obtain ⟨a, b⟩ := rws_lay h
  unfold SeqAt.shaped
  simp only [PyData.canLay0, PyData.depth, a, Bool.true_and]
  exact decide_eq_true (by omega)
theorem rws_shT {ps : List PyData} (h : ∀ p ∈ ps, Rw p) : SeqAt.shaped (.tuple ps) = true := by
  obtain ⟨a, b⟩ := rws_lay h
  unfold SeqAt.shaped
  simp only [PyData.canLay0, PyData.depth, a, Bool.true_and]
  exact decide_eq_true (by omega)
theorem rws_okR {ps : List PyData} (h : ∀ p ∈ ps, Rw p) : ∀ t ∈ ps.map ofP, okR t := fun t ht => by
  obtain ⟨p, hp, rfl⟩ := List.mem_map.mp ht
  exact (h p hp).ok
theorem rws_okd {ps : List PyData} (h : ∀ p ∈ ps, Rw p) (hl : ps.length ≤ 300) : okd 300 (.tup (ps.map ofP)) = true := by
  simp only [okd, List.length_map, Bool.and_eq_true, decide_eq_true_eq]
  refine ⟨hl, ?_⟩
  rw [okdL_all, List.all_eq_true]
  exact fun t ht => (rws_okR h t ht).1
theorem rws_dep {ps : List PyData} (h : ∀ p ∈ ps, Rw p) : dep (.tup (ps.map ofP)) < 21 := by
  simp only [dep]
  have := depL_le (l := ps.map ofP) (e := 12) fun t ht => by
    obtain ⟨p, hp, rfl⟩ := List.mem_map.mp ht
    exact (h p hp).dd
  omega
theorem rws_okP {ps : List PyData} (h : ∀ p ∈ ps, Rw p) : ∀ p ∈ ps, okP p := fun p hp => ⟨(h p hp).lay, (h p hp).dp⟩
end Toy


namespace L2
open PySem PySem.Spec PyProof.Rows PySem.W
theorem passX0 {P : Program} {w : World} {X : Cx} : Passes (L2.CX P w) X E0 := by
  intro pins σ H s e s' I h
  obtain ⟨a, B, H', cls, d, _, _, _, _, _, _, _, h⟩ := h
  exact h.elim
inductive LfD : V → PyData → Prop
  | non : LfD .non .none
  | bl (b : Bool) : LfD (.bl b) (.bool b)
  | int (i : Int) : LfD (.int i) (.int i)
  | str (x : Str) : LfD (.str x) (.str x)
def rRepF (xs : List V) (H : Hp) (Q : VK) : Prop := ∃ (v : V) (d : PyData), xs = [v] ∧ LfD v d ∧ d.showable = true ∧ d.shown.length ≤ sizeLine ∧ Q (.str d.shown) H
theorem call_repF {X : Cx} : CallR X (.builtin "repr") rRepF := by
  intro pins s σ H xs us Q I r h
  obtain ⟨v, d, rfl, hd, hs, hz, q⟩ := h
  obtain ⟨u, rfl, ru⟩ := vals1 r
  cases hd with
  | non => cases ru; exact PySem.P.repr_of_none ⟨.str _, H, I.tok _, ⟨_, rfl⟩, q⟩
  | bl b => cases ru; exact PySem.P.repr_of_bool ⟨.str _, H, I.tok _, ⟨_, rfl⟩, q⟩
  | int i =>
    obtain ⟨t, rfl⟩ := ru
    exact PySem.P.repr_of_int (of_decide_eq_true hs) ⟨.str _, H, I.tok _, ⟨_, rfl⟩, q⟩
  | str x =>
    obtain ⟨t, rfl⟩ := ru
    exact PySem.P.repr_of_str ⟨.str _, H, I.tok _, ⟨_, rfl⟩, q⟩ hz
end L2
namespace Toy
open PySem PySem.Spec L2 PyProof.Rows PySem.W
/-! ### the law's look at what is refused -/
theorem take0 {X : Cx} : Takes X (fun _ _ _ _ => False) := fun _ _ x => by
  obtain ⟨_, _, _, _, _, _, _, _, _, _, _, _, _, _, _, _, z⟩ := x
  exact z.elim
theorem seq_post {a rest : TS} {D : Ends} {σ : L2.St} {H : Hp} (Post : Hp → Prop) (h1 : ∀ r : TS, (∀ H3, Post H3 → r D σ H3) → tSeq a r D σ H) (h2 : ∀ H3, Post H3 → rest D σ H3) : tSeq a rest D σ H := h1 rest h2
theorem te_val {te : TE} {σ : L2.St} {H : Hp} {Q : VK} (v : V) (h : ∀ R' : VK, R' v H → te σ H R') (q : Q v H) : te σ H Q := h Q q
theorem made_same {H : Hp} {x dx : Addr} {H' : Hp} {u : HO} (nx : H x = none) (ndx : H dx = none) (h1 : ∀ b, b ≠ x → H' b = (upd (upd H dx (.own x)) x u) b) : Same H H' := by
  intro b o e
  have hb : b ≠ x := ne_of_none e nx
  have hd : b ≠ dx := ne_of_none e ndx
  rw [h1 b hb, upd_ne hb, upd_ne hd]
  exact e
def tLen (n : Nat) (t : TE) : TE := fun σ H Q => σ.length = n → t σ H Q
theorem pe_len {X : Cx} {e : Expr} {t : TE} (n : Nat) (h : PE X e t) (hn : X.N.length = n := by rfl) : PE X e (tLen n t) := ⟨fun pins s σ H Q I z => h.run pins s σ H Q I (z (hn ▸ I.len))⟩
structure ClsI (K : PySem.W.Frag) (c : Addr) : Prop where
  g : ClG K c
  x : XfC K c
  no : PySem.W.findIn K (.ref c) "index" = some none
  mt : PySem.W.exmOne K (.ref c) (.ref c) = some true
  kit : PySem.W.kitOne K (.ref c) (.type "ValueError") = some true
abbrev sRf : Stmt := top 62
abbrev NRf : List Str := ["_law_rows", "e"]
theorem scRf : FnScope NRf ["_law_rows"] (defScope sRf) := ⟨rfl, rfl, rfl, by decide +kernel, rfl, by decide +kernel, by decide +kernel⟩
def spRf (K : PySem.W.Frag) : Sp := fun vs H Q _ => ∃ (a : Addr) (us : List V) (ts : List Dt), vs = [.ref a] ∧ RowsAt K H a us ∧ DvL K H us ts ∧ (∀ t ∈ ts, okR t) ∧ ts.length ≤ 1000 ∧ ∀ H', Same H H' → Q (optI (firstW ts)) H'
section
variable {P : Program} {w : World} {K : PySem.W.Frag} {mg : Str → Option Value} {base : Heap} {CC CT fi : Addr}
/-- a code made of right rows -/
theorem code_made {H : Hp} {a : Addr} {us : List V} {ts : List Dt} {E : XK} {Q : Addr → VK} (ha : RowsAt K H a us) (hd : DvL K H us ts) (hok : ∀ t ∈ ts, okR t) (hl : ts.length ≤ 1000) (hf : firstW ts = none)
    (q : ∀ H' x, Same H H' → H x = none → CodeAt K CC H' x us → Q x .non H') : ∀ x dx, H x = none → H dx = none → dx ≠ x → spCi CC CT K (.ref x :: ([.ref a] ++ [])) (upd (upd H dx (.own x)) x (.ins CC dx [])) (Q x) E := by
  intro x dx nx ndx ne
  have s0 : Same H (upd (upd H dx (.own x)) x (.ins CC dx [])) := made_same nx ndx fun b _ => rfl
  refine ⟨x, dx, a, us, ts, rfl, upd_same, ha.same s0, dvLM s0 hd, hok, hl, ?_⟩
  rw [hf]
  intro H' hb hc
  exact q H' x (fun b o e => hb b o (ne_of_none e nx) (s0 _ _ e)) nx hc
theorem ok_rf {f fI : Addr} {fd dI : FuncData} (F : Fun K "_law_refused" "_law_refused" sRf f fd) (C : ClsI K CT) (mT : mg "InvalidCode" = some (.ref CT))
    (MK : Mk K CC fI) (mC : mg "Code" = some (.ref CC)) (GI : FnOk P w K mg base (L2.CX P w) 10 fI dI ["self", "rows"] (spCi CC CT K)) (bI : Binds K dI ["self", "rows"] [])
    (mI : mg "isinstance" = none) (mV : mg "ValueError" = none) : FnOk P w K mg base CX0 12 f fd ["_law_rows"] (spRf K) := by
  refine F.ok (k := 11) scRf (fun vs H Q E h => ?_) (fun cdv A outer s H vs Q E hr h => ?_)
  · obtain ⟨a, us, ts, rfl, _⟩ := h
    rfl
  · obtain ⟨a, us, ts, rfl, ha, hd, hok, hl, q⟩ := h
    refine ⟨_, pss_cons (ps_try_as (X := (cxOf CX0 P w K mg base NRf "_law_refused" (defScope sRf) f cdv A outer s H E).nox) (c := .ref CT) (i := 1)
      (tb := fun W D σ H => ∃ Ech : XK, (∀ cls d σ' H', Ech cls d H' → W cls d σ' H') ∧ tDrop (tMake CC (spCi CC CT K) [] Ech (tCons (tVar 0) tNil)) D σ H)
      rfl rfl scRf.nd rfl rfl ⟨rfl, by decide, .inl mT⟩ take0 (fun W pn xe tk _ => ?_)
      (fun a oe cls d pn hz hf => pss_one (ps_ret (pe_ifExp (pt_val (pe_callB (show CallR _ (.builtin "isinstance") (rIsS K a cls d) from call_isS hz hf) (by rfl) mI PyProof.Rows.boot_isinstance (pa_cons (pe_len 2 (pv 1)) (pa_cons (pe_bltn (v := .ty "ValueError") (by rfl) mV (by decide +kernel) rfl) pa_nil))))
        (pe_xf C.x C.no hz hf (pe_len 2 (pv 1))) pe_str))))
      (pss_one (ps_ret pe_non)), ?_⟩
    · refine ⟨fun pins s' σ H' D I h' => ?_⟩
      obtain ⟨Ech, hW, h3⟩ := h'
      exact (pss_one (ps_expr (pe_make (E := Ech) MK GI hr (by rfl) mC bI .nil (passes_call tk hW) (pa_cons (pv 0) pa_nil)))).run pins s' σ H' D I h3
    · refine ⟨fun cls d H' => ∃ (dd : Addr) (i : Nat), cls = .ref CT ∧ d = some dd ∧ H' dd = some (.xd [("index", .int (i : Int))]) ∧ Same H H' ∧ firstW ts = some i, fun cls d σ' H' hh => ?_, ?_⟩
      · obtain ⟨dd, i, rfl, rfl, e3, s1, e4⟩ := hh
        have sl : ∀ {a : Addr}, (σ'.set 1 (some (.ref a))).length = 2 → (σ'.set 1 (some (.ref a)))[1]? = some (some (.ref a)) := fun lz => List.getElem?_set_self (by rw [List.length_set] at lz; rw [lz]; decide)
        refine ⟨true, C.mt, fun _ a _ => fun lz => ⟨_, sl lz, CT, dd, _, .ty "ValueError", .type "ValueError", true, rfl, rfl, rfl, e3, C.g, .ty _, C.kit, _, rfl, iteT fun lz => ⟨_, sl lz, rfl, rfl, dd, _, _, rfl, e3, rfl, ?_⟩⟩, fun z => by cases z⟩
        have z := q _ s1
        rw [e4] at z
        exact z
      · refine ⟨_, rfl, ?_⟩
        cases hf : firstW ts with
        | none =>
          refine code_made ha hd hok hl hf fun H' x s1 _ _ => ⟨rfl, ?_⟩
          have z := q _ s1
          rw [hf] at z
          exact z
        | some i =>
          intro x dx nx ndx ne
          have s0 : Same H (upd (upd H dx (.own x)) x (.ins CC dx [])) := made_same nx ndx fun b _ => rfl
          refine ⟨x, dx, a, us, ts, rfl, upd_same, ha.same s0, dvLM s0 hd, hok, hl, ?_⟩
          rw [hf]
          exact fun H' dd s1 e => ⟨dd, i, rfl, rfl, e, s0.trans s1, rfl⟩
end
end Toy


namespace Toy
open PySem PySem.Spec L2 PyProof.Rows PySem.W
/-! ### what a turn keeps -/
theorem delH_put {H : Hp} {D d : Addr} {u : HO} (h : D ≠ d) : delH (upd H D u) d = upd (delH H d) D u := by
  funext b
  unfold delH upd
  by_cases c : b = d
  · subst c
    rw [if_pos rfl, if_neg (fun z => h z.symm)]
    show none = (if b = b then none else H b)
    rw [if_pos rfl]
  · rw [if_neg c]
    by_cases c2 : b = D
    · rw [if_pos c2, if_pos c2]
    · rw [if_neg c2, if_neg c2]
      show H b = if b = d then none else H b
      rw [if_neg c]
theorem delH_same {H : Hp} {d : Addr} : Same (delH H d) H := fun b o e => by
  unfold delH at e
  split at e
  · cases e
  · exact e
theorem sv_put {K : PySem.W.Frag} {d D : Addr} {S : PyData → Prop} {H : Hp} {v : V} {xs : List V} {u : HO} (h : Sv K d S H v) (hS : ∀ p, S p → noq (ofP p) = true) (hD : H D = some (.lst xs)) (hd : D ≠ d) : Sv K d S (upd H D u) v := by
  obtain ⟨p, a, c⟩ := h
  refine ⟨p, ?_, c⟩
  rw [delH_put hd]
  exact pv_put ((delH_ne hd).trans hD) a (hS p c)
theorem tape_put {H : Hp} {d D : Addr} {l : Tl} {n : Nat} {u : HO} (t : Tape H d l n) (h1 : D ≠ d) (h2 : D ≠ l.a) : Tape (upd H D u) d l n := by
  obtain ⟨ns, a, f, e1, e2, r⟩ := t
  exact ⟨ns, a, f, (upd_ne h1.symm).trans e1, (upd_ne h2.symm).trans e2, r⟩
theorem sv_pvl {K : PySem.W.Frag} {d : Addr} {S : PyData → Prop} {H : Hp} : ∀ {us : List V}, (∀ v ∈ us, Sv K d S H v) → ∃ ps, PvL K H us ps ∧ ∀ p ∈ ps, S p
  | [], _ => ⟨[], .nil, fun _ h => nomatch h⟩
  | v :: us, h => by
    obtain ⟨p, a, c⟩ := h v List.mem_cons_self
    obtain ⟨ps, b, e⟩ := sv_pvl (us := us) fun x hx => h x (List.mem_cons_of_mem _ hx)
    refine ⟨p :: ps, .cons (pvM delH_same a) b, fun q hq => ?_⟩
    rcases List.mem_cons.mp hq with rfl | hq
    · exact c
    · exact e q hq
theorem sqT_put2 {K : PySem.W.Frag} {H : Hp} {L T : Addr} {xs ys : List V} {u : HO} (hL : H L = some (.lst xs)) (h : SqT K H T ys) : SqT K (upd H L u) T ys := by
  rcases h with (h | ⟨o, h⟩) | h
  · exact .inl (.inl ((upd_ne fun z => by rw [z, hL] at h; cases h).trans h))
  · exact .inl (.inr ⟨o, (upd_ne fun z => by rw [z, hL] at h; cases h).trans h⟩)
  · exact .inr h
theorem seq_postS {a rest : TS} {D : Ends} {σ : L2.St} {H : Hp} (Post : L2.St → Hp → Prop) (h1 : ∀ r : TS, (∀ σ3 H3, Post σ3 H3 → r D σ3 H3) → tSeq a r D σ H) (h2 : ∀ σ3 H3, Post σ3 H3 → rest D σ3 H3) : tSeq a rest D σ H := h1 rest h2
theorem np_tape {H : Hp} {d T : Addr} {l : Tl} {n : Nat} (t : Tape H d l n) (h : H T = none) : T ≠ d ∧ T ≠ l.a := by
  obtain ⟨⟨o, ho⟩, o2, ho2⟩ := t.at
  exact ⟨(ne_of_none ho h).symm, (ne_of_none ho2 h).symm⟩
/-- what is written in a list of such a number, both for the program and for the law -/
theorem optI_shown (o : Option Nat) (h : ∀ i, o = some i → i ≤ 1000) : ∃ d, LfD (optI o) d ∧ d.showable = true ∧ d.shown.length ≤ sizeLine := by
  have e16 : sizeLine = 16777216 := by decide
  cases o with
  | none => exact ⟨.none, .non, by decide +kernel, by decide +kernel⟩
  | some i =>
    have hi := h i rfl
    have key : ∀ i : Fin 1001, (PyData.int (i.val : Int)).showable = true ∧ decide ((PyData.int (i.val : Int)).shown.length ≤ 16777216) = true := by decide +kernel
    have k := key ⟨i, by omega⟩
    exact ⟨.int (i : Int), .int _, k.1, by rw [e16]; exact of_decide_eq_true k.2⟩
theorem bool_shown (b : Bool) : (PyData.bool b).showable = true ∧ (PyData.bool b).shown.length ≤ sizeLine := by
  cases b <;> exact ⟨by decide +kernel, by decide +kernel⟩
theorem fwA_lt {n : Nat} : ∀ (ts : List Dt) (i k : Nat), fwA n i ts = some k → k < i + ts.length
  | [], i, k, h => by cases h
  | t :: ts, i, k, h => by
    unfold fwA at h
    split at h
    · have := fwA_lt ts (i + 1) k h
      rw [List.length_cons]
      omega
    · cases h
      rw [List.length_cons]
      omega
theorem firstW_le {ts : List Dt} {i : Nat} (h : firstW ts = some i) : i ≤ ts.length := by
  unfold firstW at h
  cases hf : fwA ts.length 0 ts with
  | some k =>
    rw [hf] at h
    cases h
    have := fwA_lt ts 0 i hf
    omega
  | none =>
    rw [hf] at h
    dsimp only at h
    split at h
    · cases h
    · cases h
      exact Nat.le_refl _
theorem mem_cut {xs : List V} {lo hi : Option Int} {v : V} (h : v ∈ cutV xs lo hi) : v ∈ xs := by
  unfold cutV at h
  exact List.mem_of_mem_drop (List.mem_of_mem_take h)
end Toy
namespace Toy
open PySem PySem.Spec L2 PyProof.Rows PySem.W
/-- a tuple's items in a new list -/
theorem lc_copy {K : PySem.W.Frag} {T : Addr} {us : List V} {σ : L2.St} {H : Hp} {j : Nat} {Qd : VK} (hw : ∀ v, wipe ((wipe σ [j]).set j (some v)) [j] = wipe σ [j]) (hg : ∀ v : V, ((wipe σ [j]).set j (some v))[j]? = some (some v)) (hT : SqT K H T us) (hl : us.length ≤ 1000)
    (q : ∀ H' D, Same H H' → H D = none → H' D = some (.lst us) → Qd (.ref D) H') : tLc (fun _ H R => R (Itt K T) H) (gName j) tYes (tVar j) [j] σ H Qd := by
  have e16 : sizeLine = 16777216 := by decide
  intro D nD
  refine lc_tup (xs := us) (fun i H' => H' D = some (.lst (us.take i)) ∧ Same H H') ⟨by rw [List.take_zero]; exact upd_same, same_new same_id nD⟩ (fun i H' _ h => same_seqT h.2 hT) ?_ ?_
  · rintro i x H' hx ⟨hD, s⟩
    refine ⟨hw x, x, hg x, us.take i, hD, by rw [List.length_take]; omega, ?_, fun b o e => ?_⟩
    · rw [upd_same]
      have hi := (List.getElem?_eq_some_iff.mp hx)
      obtain ⟨h1, h2⟩ := hi
      rw [List.take_add_one, hx]
      rfl
    · rw [upd_ne (ne_of_none e nD)]
      exact s _ _ e
  · rintro H' ⟨hD, s⟩
    rw [List.take_length] at hD
    exact q H' D s nD hD
end Toy
namespace Toy
open PySem PySem.Spec L2 PyProof.Rows PySem.W
theorem tst_run {te : TE} {σ : L2.St} {H : Hp} {Q : Bool → Hp → Prop} (h : te σ H fun x H' => ∃ k, x = .bl k ∧ Q k H') : tTest te σ H Q := h
theorem op_run {r : R2} {ta tb : TE} {σ : L2.St} {H : Hp} {Q : VK} (h : ta σ H fun x H1 => tb σ H1 fun y H2 => r x y H2 Q) : tOp r ta tb σ H Q := h
/-- the rows of a code in a new list -/
theorem lc_own {K : PySem.W.Frag} {C x dx T : Addr} {fs : List (Str × V)} {G : Addr → Hp → Addr → Prop} {us : List V} {σ : L2.St} {H : Hp} {i j : Nat} {Qd : VK} (hi : σ[i]? = some (some (.ref x))) (hx : H x = some (.ins C dx fs)) (hG : G x H T)
    (hw : ∀ v, wipe ((wipe σ [j]).set j (some v)) [j] = wipe σ [j]) (hg : ∀ v : V, ((wipe σ [j]).set j (some v))[j]? = some (some v)) (hT : SqT K H T us) (hl : us.length ≤ 1000)
    (q : ∀ H' D, Same H H' → H D = none → H' D = some (.lst us) → Qd (.ref D) H') : tLc (iOwn K C G (tVar i)) (gName j) tYes (tVar j) [j] σ H Qd :=
  ⟨_, hi, x, dx, fs, T, rfl, hx, hG, lc_copy (K := K) (T := T) (us := us) (σ := σ) (H := H) (j := j) (Qd := Qd) hw hg hT hl q⟩
end Toy
namespace Toy
open PySem PySem.Spec L2 PyProof.Rows PySem.W
/-! ### twins, odd values -/
def twP (p : PyData) : PyData := .tuple [.str "test", .tuple [.str "equal", p], .int 1]
def twos : List PyData := [.int 0, .int 1, .bool true, .bool false]
theorem tw_ok : ∀ p ∈ twos, (okRB (twP p) && (okRB (PyData.tuple [.str "give"]) && ((firstW (ofPL [twP p, .tuple [.str "give"]])).isNone && (okd 300 (.tup (ofPL [twP p, .tuple [.str "give"]])) && (decide (dep (.tup (ofPL [twP p, .tuple [.str "give"]])) < 21) && noqL (ofPL [twP p, .tuple [.str "give"]])))))) = true := by decide +kernel
theorem tw_alk : ∀ p ∈ [PyData.int 0, .int 1], ∀ q ∈ [PyData.bool true, .bool false], alkN 21 (.tup (ofPL [twP p, .tuple [.str "give"]])) (.tup (ofPL [twP q, .tuple [.str "give"]])) = false := by decide +kernel
structure TwOk (p : PyData) : Prop where
  okr : ∀ t ∈ ofPL [twP p, .tuple [.str "give"]], okR t
  fw : firstW (ofPL [twP p, .tuple [.str "give"]]) = none
  od : okd 300 (.tup (ofPL [twP p, .tuple [.str "give"]])) = true
  dp : dep (.tup (ofPL [twP p, .tuple [.str "give"]])) < 21
  nq : noqL (ofPL [twP p, .tuple [.str "give"]]) = true
theorem twok {p : PyData} (h : p ∈ twos) : TwOk p := by
  have := tw_ok p h
  simp only [Bool.and_eq_true, decide_eq_true_eq] at this
  obtain ⟨h1, h2, h3, h4, h5, h6⟩ := this
  refine ⟨fun t ht => ?_, ?_, h4, h5, h6⟩
  · rw [ofPL_map] at ht
    obtain ⟨q, hq, rfl⟩ := List.mem_map.mp ht
    simp only [List.mem_cons, List.not_mem_nil, or_false] at hq
    rcases hq with rfl | rfl
    · exact okRB_ok h1
    · exact okRB_ok h2
  · revert h3
    cases firstW (ofPL [twP p, .tuple [.str "give"]]) with
    | none => intro _; rfl
    | some i => intro z; cases z
/-- a value that is no code -/
def Oc (K : PySem.W.Frag) (H : Hp) (v : V) : Prop := (∃ (a : Addr) (us : List V) (ts : List Dt), v = .ref a ∧ RowsAt K H a us ∧ DvL K H us ts ∧ (∀ t ∈ ts, okR t) ∧ ts.length ≤ 1000 ∧ (firstW ts).isNone = false) ∨
  ∃ t : Value, (∀ H', Same H H' → TyX K H' v t) ∧ PySem.W.kitOne K t (.type "list") = some false ∧ PySem.W.kitOne K t (.type "tuple") = some false
theorem Oc.same {K : PySem.W.Frag} {H H' : Hp} {v : V} (h : Oc K H v) (s : Same H H') : Oc K H' v := by
  rcases h with ⟨a, us, ts, e, h1, h2, h3⟩ | ⟨t, h1, h2⟩
  · exact .inl ⟨a, us, ts, e, h1.same s, dvLM s h2, h3⟩
  · exact .inr ⟨t, fun H2 s2 => h1 H2 (s.trans s2), h2⟩
theorem Oc.sp {K : PySem.W.Frag} {H : Hp} {v : V} {Q : VK} {E : XK} (h : Oc K H v) (q : ∀ H', Same H H' → Q (.bl false) H') : spIc K [v] H Q E := by
  rcases h with ⟨a, us, ts, rfl, h1, h2, h3, h4, h5⟩ | ⟨t, h1, h2, h3⟩
  · refine .inl ⟨a, us, ts, rfl, h1, h2, h3, h4, fun H' s => ?_⟩
    rw [h5]
    exact q H' s
  · exact .inr ⟨v, t, rfl, h1, h2, h3, q⟩
theorem oc_non {K : PySem.W.Frag} {H : Hp} : Oc K H .non := .inr ⟨_, fun _ _ => .base .non, kit_ty (by decide +kernel), kit_ty (by decide +kernel)⟩
theorem oc_int {K : PySem.W.Frag} {H : Hp} {i : Int} : Oc K H (.int i) := .inr ⟨_, fun _ _ => .base (.int i), kit_ty (by decide +kernel), kit_ty (by decide +kernel)⟩
theorem oc_str {K : PySem.W.Frag} {H : Hp} {x : Str} : Oc K H (.str x) := .inr ⟨_, fun _ _ => .base (.str x), kit_ty (by decide +kernel), kit_ty (by decide +kernel)⟩
theorem oc_bl {K : PySem.W.Frag} {H : Hp} {x : Bool} : Oc K H (.bl x) := .inr ⟨_, fun _ _ => .base (.bl x), kit_ty (by decide +kernel), kit_ty (by decide +kernel)⟩
theorem oc_dct {K : PySem.W.Frag} {H : Hp} {a : Addr} {kvs : List (Key × V)} (h : H a = some (.dK kvs)) : Oc K H (.ref a) := .inr ⟨_, fun _ s => .base (.dK (s _ _ h)), kit_ty (by decide +kernel), kit_ty (by decide +kernel)⟩
def oddRows : List (List Dt) := [[], [.str "give"], [giveT, .non]]
theorem oddRows_ok : ∀ ts ∈ oddRows, (firstW ts).isNone = false := by decide +kernel
theorem okR_give : okR giveT := by
  have := (rw_conc giveP (by simp [conc, giveP])).ok
  rw [show ofP giveP = giveT by simp [giveP, giveT, ofP, ofPL]] at this
  exact this
theorem oc_row {K : PySem.W.Frag} {H : Hp} {a : Addr} {us : List V} {ts : List Dt} (h : RowsAt K H a us) (h2 : DvL K H us ts) (h3 : ts ∈ oddRows) : Oc K H (.ref a) := by
  refine .inl ⟨a, us, ts, rfl, h, h2, fun t ht => ?_, ?_, oddRows_ok ts h3⟩
  · have h3 : ts ∈ [[], [.str "give"], [giveT, .non]] := h3
    simp only [List.mem_cons, List.not_mem_nil, or_false] at h3
    rcases h3 with rfl | rfl | rfl
    · cases ht
    · rw [List.mem_singleton.mp ht]
      exact ⟨by decide +kernel, fun fs e => by cases e⟩
    · simp only [List.mem_cons, List.not_mem_nil, or_false] at ht
      rcases ht with rfl | rfl
      · exact okR_give
      · exact ⟨by decide +kernel, fun fs e => by cases e⟩
  · have h3 : ts ∈ [[], [.str "give"], [giveT, .non]] := h3
    simp only [List.mem_cons, List.not_mem_nil, or_false] at h3
    rcases h3 with rfl | rfl | rfl <;> decide
end Toy


namespace Toy
open PySem PySem.Spec L2 PyProof.Rows PySem.W
/-! ### the law -/
abbrev sLaw : Stmt := top 63
abbrev NLw : List Str := ["_law_script", "_law_tape", "_law_turn", "_law_many", "_law_rows", "_law_k", "_law_at", "_law_due", "_law_code", "_law_row_here", "_law_again", "_law_other", "_law_leaf_here", "_law_twins", "_law_one", "_law_odd"]
theorem scLw : FnScope NLw ["_law_script"] (defScope sLaw) := ⟨rfl, rfl, rfl, by decide +kernel, rfl, by decide +kernel, by decide +kernel⟩
def spLaw (K : PySem.W.Frag) : Sp := fun vs H Q _ => ∃ (a : Addr) (ns : List Int), vs = [.ref a] ∧ SqL K H a (ns.map V.int) ∧ ns.length ≤ 63 ∧ ∀ H', Q (.bl true) H'
structure LawT (mg : Str → Option Value) : Prop where
  len : mg "len" = none
  range : mg "range" = none
  min : mg "min" = none
  repr : mg "repr" = none
  tuple : mg "tuple" = none
  list : mg "list" = none
structure CodeF (P : Program) (w : World) (K : PySem.W.Frag) (mg : Str → Option Value) (base : Heap) (CC CT fI fR fL fT fE pR : Addr) (dI dR dL dT dE : FuncData) : Prop where
  C : CodeC K CC fI
  mC : mg "Code" = some (.ref CC)
  GI : FnOk P w K mg base (L2.CX P w) 10 fI dI ["self", "rows"] (spCi CC CT K)
  bI : Binds K dI ["self", "rows"] []
  pr : PropOf K CC "rows" pR fR
  GR : FnOk P w K mg base CX0 1 fR dR ["self"] (spCr K CC)
  bR : Binds K dR ["self"] []
  fl : PySem.W.findIn K (.ref CC) "__len__" = some (some (.ref fL))
  nl : PySem.W.isFn K (.ref fL) = true
  GL : FnOk P w K mg base CX0 1 fL dL ["self"] (spCl K CC)
  bL : Binds K dL ["self"] []
  ft : PySem.W.findIn K (.ref CC) "__iter__" = some (some (.ref fT))
  nt : PySem.W.isFn K (.ref fT) = true
  GT : FnN P w K mg base 1 fT dT ["self"] (spIterN (GCode K CC))
  bT : Binds K dT ["self"] []
  fe : PySem.W.findIn K (.ref CC) "__eq__" = some (some (.ref fE))
  ne : PySem.W.isFn K (.ref fE) = true
  GE : FnOk P w K mg base CX0 23 fE dE ["self", "other"] (spCe K CC)
  bE : Binds K dE ["self", "other"] []
  hn : NeC K CC fE
section
variable {P : Program} {w : World} {K : PySem.W.Frag} {mg : Str → Option Value} {base : Heap}
theorem body_law {f fB fD fPi fSt fRow fWr fIx fRf fIc CC CT fI fR fL fT fE pR : Addr} {dB dD dPi dSt dRow dWr dIx dRf dIc dI dR dL dT dE : FuncData} (L : LawT mg) (Y : CodeF P w K mg base CC CT fI fR fL fT fE pR dI dR dL dT dE)
    (GB : FnOk P w K mg base CX0 1 fB dB ["_law_script"] (spBegin K)) (mB : mg "_law_begin" = some (.ref fB)) (kB : PySem.W.keepIn K (.ref fB) = true) (bB : Binds K dB ["_law_script"] [])
    (GD : FnOk P w K mg base CX0 1 fD dD ["_law_tape", "_law_many"] spDraw) (mD : mg "_law_draw" = some (.ref fD)) (kD : PySem.W.keepIn K (.ref fD) = true) (bD : Binds K dD ["_law_tape", "_law_many"] [])
    (GPi : FnOk P w K mg base CX0 2 fPi dPi ["_law_tape", "_law_items"] spPick) (mPi : mg "_law_pick" = some (.ref fPi)) (kPi : PySem.W.keepIn K (.ref fPi) = true) (bPi : Binds K dPi ["_law_tape", "_law_items"] [])
    (GSt : FnOk P w K mg base CX0 3 fSt dSt ["_law_tape"] spSt) (mSt : mg "_law_start" = some (.ref fSt)) (kSt : PySem.W.keepIn K (.ref fSt) = true) (bSt : Binds K dSt ["_law_tape"] [])
    (GRow : FnOk P w K mg base CX0 10 fRow dRow ["_law_tape", "_law_at", "_law_many"] (spRow K)) (mRow : mg "_law_row" = some (.ref fRow)) (kRow : PySem.W.keepIn K (.ref fRow) = true) (bRow : Binds K dRow ["_law_tape", "_law_at", "_law_many"] [])
    (GWr : FnOk P w K mg base CX0 3 fWr dWr ["_law_tape", "_law_at", "_law_many"] (spWr K)) (mWr : mg "_law_wrong" = some (.ref fWr)) (kWr : PySem.W.keepIn K (.ref fWr) = true) (bWr : Binds K dWr ["_law_tape", "_law_at", "_law_many"] [])
    (GIx : FnOk P w K mg base CX0 2 fIx dIx ["_law_rows"] (spIx K)) (mIx : mg "_law_index" = some (.ref fIx)) (kIx : PySem.W.keepIn K (.ref fIx) = true) (bIx : Binds K dIx ["_law_rows"] [])
    (GRf : FnOk P w K mg base CX0 12 fRf dRf ["_law_rows"] (spRf K)) (mRf : mg "_law_refused" = some (.ref fRf)) (kRf : PySem.W.keepIn K (.ref fRf) = true) (bRf : Binds K dRf ["_law_rows"] [])
    (GIc : FnOk P w K mg base CX0 10 fIc dIc ["value"] (spIc K)) (mIc : mg "is_code" = some (.ref fIc)) (kIc : PySem.W.keepIn K (.ref fIc) = true) (bIc : Binds K dIc ["value"] []) :
    BodyOk P w K mg base 127 NLw "law" (defScope sLaw) (defBody sLaw) f (spLaw K) := by
  intro cdv s H vs Q E hr h
  obtain ⟨a, ns, rfl, hS, hlen, q⟩ := h
  have hr1 := hr.mono (show 1 ≤ 127 by decide)
  have hr2 := hr.mono (show 2 ≤ 127 by decide)
  have hr3 := hr.mono (show 3 ≤ 127 by decide)
  have hr6 := hr.mono (show 6 ≤ 127 by decide)
  have hr10 := hr.mono (show 10 ≤ 127 by decide)
  have hr11 := hr.mono (show 11 ≤ 127 by decide)
  have hr12 := hr.mono (show 12 ≤ 127 by decide)
  have hr23 := hr.mono (show 23 ≤ 127 by decide)
  have hr24 := hr.mono (show 24 ≤ 127 by decide)
  have hu := hr.units
  have hu1 := show _ + 1 < cLine from Nat.lt_of_le_of_lt (Nat.add_le_add_left (show 1 ≤ 64 by decide) _) hu
  refine ⟨_, PSs.nox (pss_cons (ps_set (i := 1) scLw.nd rfl (Or.inr rfl) (pe_call GB hr1 (by rfl) mB kB bB .nil pass0 (pa_cons (pv 0) pa_nil)))
      (pss_cons (ps_for PassesOwn.never rfl (pi_range1 (by rfl) L.range (pa_cons (pe_op op_add pe_int (pe_callB (call_min2 rfl) (by rfl) L.min (by decide +kernel) (pa_cons pe_int (pa_cons (pe_callB call_len_seq (by rfl) L.len PySem.boot_len (pa_cons (pv 0) pa_nil)) pa_nil)))) pa_nil)) (pg_name (i := 2) scLw.nd rfl (Or.inl rfl))
     (pss_cons (ps_expr (pe_call GSt hr3 (by rfl) mSt kSt bSt .nil pass0 (pa_cons (pv 1) pa_nil)))
      (pss_cons (ps_set (i := 3) scLw.nd rfl (Or.inr rfl) (pe_op op_add pe_int (pe_call GD hr1 (by rfl) mD kD bD .nil pass0 (pa_cons (pv 1) (pa_cons pe_int pa_nil)))))
      (pss_cons (ps_setLc (i := 4) (own := [("_law_k", 5)]) (g := gName 5) (te := tCall (spRow K) [] E0 (tCons (tVar 1) (tCons (tVar 5) (tCons (tVar 3) tNil)))) rfl scLw.nd rfl rfl (sw_true rfl rfl rfl (by decide +kernel)) (pi_range1 (by rfl) L.range (pa_cons (pv 3) pa_nil)) (blkOk_by (own := [("_law_k", 5)]) (N := NLw) (sc := defScope sLaw) (by decide +kernel)) (fun _ _ _ _ _ => by exact (pg_name (i := 5) scLw.nd rfl (Or.inl rfl))) (fun _ _ _ _ _ => pts_nil) (fun _ _ _ _ _ => (pe_call GRow hr10 (by rfl) mRow kRow bRow .nil pass0 (pa_cons (pv 1) (pa_cons (pv 5) (pa_cons (pv 3) pa_nil))))))
      (pss_cons (ps_set (i := 6) scLw.nd rfl (Or.inl rfl) (pe_call GD hr1 (by rfl) mD kD bD .nil pass0 (pa_cons (pv 1) (pa_cons (pv 3) pa_nil))))
      (pss_cons (ps_if (pt_cmpR op_gt (pe_call GD hr1 (by rfl) mD kD bD .nil pass0 (pa_cons (pv 1) (pa_cons pe_int pa_nil))) pe_int (nomark _)) (pss_one (ps_set (i := 4) scLw.nd rfl (Or.inl rfl) (pe_op op_cat (pe_op op_cat (pe_slice sl_list (pv 4) po_none (po_some (pv 6))) (pe_lst (pa_cons (pe_call GWr hr3 (by rfl) mWr kWr bWr .nil pass0 (pa_cons (pv 1) (pa_cons (pv 6) (pa_cons (pv 3) pa_nil)))) pa_nil))) (pe_slice sl_list (pv 4) (po_some (pe_op op_add (pv 6) pe_int)) po_none)))) pss_nil)
      (pss_cons (ps_if (pt_cmpR op_eq (pe_call GD hr1 (by rfl) mD kD bD .nil pass0 (pa_cons (pv 1) (pa_cons pe_int pa_nil))) pe_int (nomark _)) (pss_one (ps_set (i := 4) scLw.nd rfl (Or.inl rfl) (pe_slice sl_list (pv 4) po_none (po_some (pe_call GD hr1 (by rfl) mD kD bD .nil pass0 (pa_cons (pv 1) (pa_cons (pe_op op_add (pv 3) pe_int) pa_nil))))))) pss_nil)
      (pss_cons (ps_set (i := 7) scLw.nd rfl (Or.inl rfl) (pe_call GIx hr2 (by rfl) mIx kIx bIx .nil pass0 (pa_cons (pv 4) pa_nil)))
      (pss_cons (ps_if (PW.pt (pw_or (pt_cmpR op_ne (pe_callB call_repF (by rfl) L.repr (by decide +kernel) (pa_cons (pe_call GRf hr12 (by rfl) mRf kRf bRf .nil pass0 (pa_cons (pv 4) pa_nil)) pa_nil)) (pe_callB call_repF (by rfl) L.repr (by decide +kernel) (pa_cons (pv 7) pa_nil)) (nomark _)) (pw_or1 (pt_cmpR op_ne (pe_callB call_repF (by rfl) L.repr (by decide +kernel) (pa_cons (pe_call GIc hr10 (by rfl) mIc kIc bIc .nil pass0 (pa_cons (pe_callTy call_tuple_of (by rfl) L.tuple (by decide +kernel) (pa_cons (pv 4) pa_nil)) pa_nil)) pa_nil)) (pe_callB call_repF (by rfl) L.repr (by decide +kernel) (pa_cons (pe_cmpR op_isN (pv 7) pe_non (nomark _)) pa_nil)) (nomark _))))) (pss_one (ps_ret pe_bl)) pss_nil)
      (pss_one (ps_if (pt_cmpR op_isN (pv 7) pe_non (nomark _)) (pss_cons (ps_set (i := 8) scLw.nd rfl (Or.inl rfl) (pe_make (E := E0) Y.C.mk' Y.GI hr11 (by rfl) Y.mC Y.bI .nil passX0 (pa_cons (pe_callTy call_tuple_of (by rfl) L.tuple (by decide +kernel) (pa_cons (pv 4) pa_nil)) pa_nil)))
      (pss_cons (ps_if (PW.pt (pw_or (pt_cmpR (op_neD hr.units) (pe_prop (E := E0) (pv 8) Y.C.cl Y.pr Y.GR hr2 Y.bR .nil pass0 (by rfl)) (pe_callTy call_tuple_of (by rfl) L.tuple (by decide +kernel) (pa_cons (pv 4) pa_nil)) (nomark _)) (pw_or1 (pt_cmpR op_ne (pe_callB (call_lenOwn (E := E0) Y.fl Y.nl Y.GL Y.bL pass0 hr2) (by rfl) L.len PySem.boot_len (pa_cons (pv 8) pa_nil)) (pe_callB call_len_seq (by rfl) L.len PySem.boot_len (pa_cons (pv 4) pa_nil)) (nomark _))))) (pss_one (ps_ret pe_bl)) pss_nil)
      (pss_cons (ps_for PassesOwn.never rfl (pi_own (pv 8) Y.ft Y.nt Y.GT Y.bT hr1) (pg_name (i := 9) scLw.nd rfl (Or.inl rfl))
     (pss_cons (ps_if (PW.pt (pw_or (pt_cmpR (op_neD hr.units) (pv 9) (pe_ix ix_list (pv 4) pe_int (fun _ _ => rfl)) (nomark _)) (pw_or1 (pt_cmpR (op_neD hr.units) (pe_lc (own := [("_law_again", 10)]) (g := gName 10) (by rfl) scLw.nd (pi_own (pv 8) Y.ft Y.nt Y.GT Y.bT hr1) (blkOk_by (own := [("_law_again", 10)]) (N := NLw) (sc := defScope sLaw) (by decide +kernel)) (fun _ _ _ _ _ => by exact (pg_name (i := 10) scLw.nd rfl (Or.inl rfl))) (fun _ _ _ _ _ => pts_nil) (fun _ _ _ _ _ => (pv 10))) (pv 4) (nomark _))))) (pss_one (ps_ret pe_bl)) pss_nil)
      (pss_one ps_break)))
      (pss_cons (ps_if (pt_cmpR (op_neD hr.units) (pe_op op_cat (pe_lc (own := [("_law_row_here", 9)]) (g := gName 9) (by rfl) scLw.nd (pi_own (pv 8) Y.ft Y.nt Y.GT Y.bT hr1) (blkOk_by (own := [("_law_row_here", 9)]) (N := NLw) (sc := defScope sLaw) (by decide +kernel)) (fun _ _ _ _ _ => by exact (pg_name (i := 9) scLw.nd rfl (Or.inl rfl))) (fun _ _ _ _ _ => pts_nil) (fun _ _ _ _ _ => (pv 9))) (pe_callTy (call_listOwnT (k := 0) rfl Y.ft Y.nt Y.GT Y.bT Y.fl Y.nl Y.GL Y.bL hr6) (by rfl) L.list (by decide +kernel) (pa_cons (pv 8) pa_nil))) (pe_op op_rep (pv 4) pe_int) (nomark _)) (pss_one (ps_ret pe_bl)) pss_nil)
      (pss_cons (ps_set (i := 11) scLw.nd rfl (Or.inl rfl) (pe_lst (pa_cons (pe_tup (pa_cons pe_str (pa_cons pe_int pa_nil))) (pa_cons (pe_tup (pa_cons pe_str pa_nil)) pa_nil))))
      (pss_cons (ps_if (PW.pt (pw_or (pt_cmpR (op_neOwn (E := E0) Y.hn Y.GE Y.bE pass0 hr24 hu1) (pv 8) (pe_make (E := E0) Y.C.mk' Y.GI hr11 (by rfl) Y.mC Y.bI .nil passX0 (pa_cons (pv 4) pa_nil)) (nomark _)) (pw_or (pt_cmpR op_ne (pe_cmpR (op_eqOwn (E := E0) Y.fe Y.ne Y.GE Y.bE pass0 hr23) (pv 8) (pe_make (E := E0) Y.C.mk' Y.GI hr11 (by rfl) Y.mC Y.bI .nil passX0 (pa_cons (pv 11) pa_nil)) (nomark _)) (pe_cmpR (op_eqD hr.units) (pv 4) (pv 11) (nomark _)) (nomark _)) (pw_or1 (pt_cmpR (op_eqOwn (E := E0) Y.fe Y.ne Y.GE Y.bE pass0 hr23) (pv 8) (pe_callTy call_tuple_of (by rfl) L.tuple (by decide +kernel) (pa_cons (pv 4) pa_nil)) (nomark _)))))) (pss_one (ps_ret pe_bl)) pss_nil)
      (pss_cons (ps_expr (pe_bm PySem.F.plainAttrs_list PySem.F.slot_list_append PySem.F.type_list_append mt_append (pv 4) (pa_cons (pe_tup (pa_cons pe_str pa_nil)) pa_nil)))
      (pss_one (ps_if (PW.pt (pw_or (pt_cmpR op_eq (pe_callB (call_lenOwn (E := E0) Y.fl Y.nl Y.GL Y.bL pass0 hr2) (by rfl) L.len PySem.boot_len (pa_cons (pv 8) pa_nil)) (pe_callB call_len_seq (by rfl) L.len PySem.boot_len (pa_cons (pv 4) pa_nil)) (nomark _)) (pw_or (pt_cmpR (op_eqOwn (E := E0) Y.fe Y.ne Y.GE Y.bE pass0 hr23) (pv 8) (pe_make (E := E0) Y.C.mk' Y.GI hr11 (by rfl) Y.mC Y.bI .nil passX0 (pa_cons (pv 4) pa_nil)) (nomark _)) (pw_or1 (pt_not (pt_val (pe_call GIc hr10 (by rfl) mIc kIc bIc .nil pass0 (pa_cons (pv 4) pa_nil)))))))) (pss_one (ps_ret pe_bl)) pss_nil))))))))) pss_nil)))))))))))
      (pss_cons (ps_set (i := 12) scLw.nd rfl (Or.inl rfl) (pe_call GPi hr2 (by rfl) mPi kPi bPi .nil pass0 (pa_cons (pv 1) (pa_cons (pe_lst (pa_cons pe_int (pa_cons pe_int pa_nil))) pa_nil))))
      (pss_cons (ps_setLc (i := 13) (own := [("_law_one", 14)]) (g := gName 14) (te := tMake CC (spCi CC CT K) [] E0 (tCons (tLst (tCons (tTup (tCons (tC (.str "test")) (tCons (tTup (tCons (tC (.str "equal")) (tCons (tVar 14) tNil))) (tCons (tC (.int 1)) tNil)))) (tCons (tTup (tCons (tC (.str "give")) tNil)) tNil))) tNil)) rfl scLw.nd rfl rfl (sw_true rfl rfl rfl (by decide +kernel)) (pi_tup (pe_tup (pa_cons (pv 12) (pa_cons (pe_cmpR op_eq (pv 12) pe_int (nomark _)) pa_nil)))) (blkOk_by (own := [("_law_one", 14)]) (N := NLw) (sc := defScope sLaw) (by decide +kernel)) (fun _ _ _ _ _ => by exact (pg_name (i := 14) scLw.nd rfl (Or.inl rfl))) (fun _ _ _ _ _ => pts_nil) (fun _ _ _ _ _ => (pe_make (E := E0) Y.C.mk' Y.GI hr11 (by rfl) Y.mC Y.bI .nil passX0 (pa_cons (pe_lst (pa_cons (pe_tup (pa_cons pe_str (pa_cons (pe_tup (pa_cons pe_str (pa_cons (pv 14) pa_nil))) (pa_cons pe_int pa_nil)))) (pa_cons (pe_tup (pa_cons pe_str pa_nil)) pa_nil))) pa_nil))))
      (pss_cons (ps_if (PW.pt (pw_or (pt_cmpR (op_eqOwn (E := E0) Y.fe Y.ne Y.GE Y.bE pass0 hr23) (pe_ix ix_list (pv 13) pe_int (fun _ _ => rfl)) (pe_ix ix_list (pv 13) pe_int (fun _ _ => rfl)) (nomark _)) (pw_or1 (pt_not (pt_cmpR (op_neOwn (E := E0) Y.hn Y.GE Y.bE pass0 hr24 hu1) (pe_ix ix_list (pv 13) pe_int (fun _ _ => rfl)) (pe_ix ix_list (pv 13) pe_int (fun _ _ => rfl)) (nomark _)))))) (pss_one (ps_ret pe_bl)) pss_nil)
      (pss_cons (ps_set (i := 15) scLw.nd rfl (Or.inl rfl) (pe_call GPi hr2 (by rfl) mPi kPi bPi .nil pass0 (pa_cons (pv 1) (pa_cons (pe_lst (pa_cons pe_non (pa_cons pe_int (pa_cons pe_str (pa_cons pe_dnewK (pa_cons pe_bl (pa_cons (pe_tup pa_nil) (pa_cons (pe_lst pa_nil) (pa_cons (pe_tup (pa_cons pe_str pa_nil)) (pa_cons (pe_lst (pa_cons (pe_tup (pa_cons pe_str pa_nil)) (pa_cons pe_non pa_nil))) (pa_cons (pe_disp (pps_cons pe_str pe_int pps_nil) (by rfl) (by rfl) (fun z => by cases z) (by decide)) pa_nil))))))))))) pa_nil))))
      (pss_one (ps_ret (pe_and (pe_cmpR op_eq (pe_callB call_repF (by rfl) L.repr (by decide +kernel) (pa_cons (pe_call GIc hr10 (by rfl) mIc kIc bIc .nil pass0 (pa_cons (pv 15) pa_nil)) pa_nil)) pe_str (nomark _)) (pe_one (pe_cmpR (op_eqD hr.units) (pe_prop (E := E0) (pe_make (E := E0) Y.C.mk' Y.GI hr11 (by rfl) Y.mC Y.bI .nil passX0 (pa_cons (pe_lst (pa_cons (pe_tup (pa_cons pe_str pa_nil)) pa_nil)) pa_nil)) Y.C.cl Y.pr Y.GR hr2 Y.bR .nil pass0 (by rfl)) (pe_tup (pa_cons (pe_tup (pa_cons pe_str pa_nil)) pa_nil)) (nomark _))))))))))))
    , ?_⟩
  have e16 : sizeLine = 16777216 := by decide
  refine ⟨_, rfl, a, ns, rfl, hS, hlen, fun H1 d l s1 nd nl nld hT => ?_⟩
  have hS1 := s1.seq hS
  refine ⟨_, rfl, _, _, rfl, .inl hS1, _, _, rfl, _, _, rfl, rfl, _, rfl, ?_, ?_, ?_⟩
  · have e : (List.map V.int ns).length = ns.length := List.length_map _
    split <;> omega
  · have e : (List.map V.int ns).length = ns.length := List.length_map _
    split <;> omega
  generalize hn : (12 + (if (((List.map V.int ns).length : Nat) : Int) < 12 then (((List.map V.int ns).length : Nat) : Int) else 12) : Int).toNat = n
  have hn24 : n ≤ 24 := by
    rw [← hn]
    split <;> omega
  refine for_range (lo := 0) (n := n) (fun i σ H' => ∃ (o2 o3 o4 o5 o6 o7 o8 o9 o10 o11 o12 o13 o14 o15 : Option V) (l' : Tl), σ = [some (.ref a), some (.ref d), o2, o3, o4, o5, o6, o7, o8, o9, o10, o11, o12, o13, o14, o15] ∧ Tape H' d l' (400 * i) ∧ Std l') ⟨_, _, _, _, _, _, _, _, _, _, _, _, _, _, _, rfl, hT, .inl rfl⟩ ?_ ?_
  · rintro tn σ H2 htn ⟨o2, o3, o4, o5, o6, o7, o8, o9, o10, o11, o12, o13, o14, o15, l2, rfl, t2, std2⟩
    refine ⟨_, rfl, d, l2, 400 * tn, rfl, t2, std2, by omega, fun H3 l3 p ks b3 t3 std3 hl3 hp3 hk3 => ?_⟩
    dsimp only
    refine asg_run ⟨_, rfl, d, l3, 400 * tn + 10, 9, rfl, t3, by omega, by decide, by decide, fun H4 r b4 t4 r0 r9 => ⟨_, _, rfl, rfl, ?_⟩⟩
    obtain ⟨m, hm⟩ : ∃ m : Nat, (1 : Int) + r = (m : Int) := ⟨(1 + r).toNat, by omega⟩
    dsimp only
    rw [hm]
    have hm1 : 1 ≤ m := by omega
    have hm9 : m ≤ 9 := by omega
    have npd : p ≠ d := np_of t3 hp3
    have hp4 := b4 _ _ npd hp3
    refine asg_run ⟨_, rfl, (m : Int), rfl, by omega, by omega, fun D nD => ?_⟩
    obtain ⟨nDd, nDl⟩ := np_tape t4 nD
    have npD : p ≠ D := ne_of_none hp4 nD
    rw [Int.toNat_natCast]
    refine lc_range (lo := 0) (n := m) (fun i H' => ∃ us : List V, H' D = some (.lst us) ∧ us.length = i ∧ (∀ v ∈ us, Sv K d RwN H' v) ∧ Tape H' d l3 (400 * tn + 11 + 30 * i) ∧ H' p = some (.lst (ks.map V.str))) ⟨[], upd_same, rfl, (fun v h => nomatch h), tape_put t4 nDd nDl, (upd_ne npD).trans hp4⟩ ?_ ?_
    · rintro i H5 hi ⟨us, hD, lu, hv, t5, hp5⟩
      refine ⟨rfl, _, rfl, _, rfl, _, rfl, d, l3, p, 400 * tn + 11 + 30 * i, i, m, ks, hi, by omega, by rw [Int.zero_add]; rfl, t5, by omega, hl3, hp5, hk3, fun H6 v b6 t6 hv6 => ?_⟩
      have hD6 := b6 _ _ nDd hD
      refine ⟨us, hD6, by omega, us ++ [v], upd_same, by rw [List.length_append, lu]; rfl, fun x hx => ?_, tape_put t6 nDd nDl |>.more (by omega), (upd_ne npD).trans (b6 _ _ npd hp5)⟩
      refine sv_put ?_ (fun p hp => hp.2) hD6 nDd
      rcases List.mem_append.mp hx with hx | hx
      · exact (hv x hx).but b6
      · rw [List.mem_singleton.mp hx]
        exact hv6
    · rintro H5 ⟨us, hD, lu, hv, t5, hp5⟩
      dsimp only [gName]
      refine asg_run ⟨_, rfl, _, rfl, d, l3, 400 * tn + 11 + 30 * m, (m : Int), rfl, t5, by omega, by omega, by omega, fun H6 r2 b6 t6 r20 r2m => ?_⟩
      dsimp only [gName]
      obtain ⟨k, rfl⟩ : ∃ k : Nat, r2 = (k : Int) := ⟨r2.toNat, by omega⟩
      have hD6 := b6 _ _ nDd hD
      have hv6 : ∀ v ∈ us, Sv K d RwN H6 v := fun v h => (hv v h).but b6
      refine seq_postS (fun σ' H' => ∃ (Lr : Addr) (us : List V), σ' = [some (.ref a), some (.ref d), some (.int (0 + (tn : Nat))), some (.int (m : Int)), some (.ref Lr), o5, some (.int (k : Int)), o7, o8, o9, o10, o11, o12, o13, o14, o15] ∧ Tape H' d l3 (400 * tn + 320) ∧ H' Lr = some (.lst us) ∧ Lr ≠ d ∧ Lr ≠ l3.a ∧ us.length ≤ 20 ∧ ∀ v ∈ us, Sv K d Rw H' v) (fun rr kk => ?_) (fun σ' H7 hh => ?_)
      · refine ⟨_, rfl, d, l3, 400 * tn + 11 + 30 * m + 1, 3, rfl, t6, by omega, by decide, by decide, fun H7 r3 b7 t7 r30 r33 => ⟨_, _, rfl, rfl, _, rfl, ite2 (fun _ => ?_) (fun _ => ?_)⟩⟩
        · have hD7 := b7 _ _ nDd hD6
          refine ⟨_, rfl, _, rfl, _, rfl, D, us, rfl, SqL.of hD7, fun p1 n1 => ?_⟩
          have s8 := same_new (u := .lst (cutV us none (some (k : Int)))) (same_id (H := H7)) n1
          have h81 : (upd H7 p1 (.lst (cutV us none (some (k : Int))))) p1 = some (.lst (cutV us none (some (k : Int)))) := upd_same
          have t8 := t7.same s8
          have hD8 := s8 _ _ hD7
          have n1d := (np_tape t7 n1).1
          generalize upd H7 p1 (.lst (cutV us none (some (k : Int)))) = H8 at s8 h81 t8 hD8 ⊢
          refine ⟨_, rfl, _, rfl, _, rfl, d, l3, 400 * tn + 11 + 30 * m + 1 + 1, (k : Int), (m : Int), rfl, t8, by omega, fun H9 v9 b9 t9 hv9 => ⟨few (by show 1 ≤ 1000; decide), fun p2 n2 => ?_⟩⟩
          have l1 := cutV_length us none (some (k : Int))
          have l2 := cutV_length us (some ((k : Int) + 1)) none
          have s10 := same_new (u := .lst [v9]) (same_id (H := H9)) n2
          refine ⟨p1, p2, _, _, rfl, rfl, s10 _ _ (b9 _ _ n1d h81), upd_same, few (by show _ + 1 ≤ 1000; omega), fun p3 n3 => ?_⟩
          have s11 := same_new (u := .lst (cutV us none (some (k : Int)) ++ [v9])) s10 n3
          have h33 : (upd (upd H9 p2 (.lst [v9])) p3 (.lst (cutV us none (some (k : Int)) ++ [v9]))) p3 = some (.lst (cutV us none (some (k : Int)) ++ [v9])) := upd_same
          generalize upd (upd H9 p2 (.lst [v9])) p3 (.lst (cutV us none (some (k : Int)) ++ [v9])) = H10 at s11 h33 ⊢
          refine ⟨_, rfl, _, rfl, _, _, rfl, rfl, _, rfl, D, us, rfl, SqL.of (s11 _ _ (b9 _ _ nDd hD8)), fun p4 n4 => ?_⟩
          have s12 := same_new (u := .lst (cutV us (some ((k : Int) + 1)) none)) s11 n4
          refine ⟨p3, p4, _, _, rfl, rfl, (same_new same_id n4) _ _ h33, upd_same, few (by rw [List.length_append, List.length_singleton]; omega), fun p5 n5 => ?_⟩
          have s13 := same_new (u := .lst (cutV us none (some (k : Int)) ++ [v9] ++ cutV us (some ((k : Int) + 1)) none)) s12 n5
          have t13 := t9.same s12
          obtain ⟨n5d, n5l⟩ := np_tape t13 n5
          refine kk _ _ ⟨p5, _, rfl, (t9.same s13).more (by omega), upd_same, n5d, n5l, by rw [List.length_append, List.length_append, List.length_singleton]; omega, fun v hv => ?_⟩
          have old : ∀ v ∈ us, Sv K d Rw (upd (upd H10 p4 (.lst (cutV us (some ((k : Int) + 1)) none))) p5 (.lst (cutV us none (some (k : Int)) ++ [v9] ++ cutV us (some ((k : Int) + 1)) none))) v := fun v hv => ((hv6 v hv).but (b7.trans ((Same.but s8 d).trans (b9.trans (Same.but s13 d))))).imp fun p hp => hp.1
          rcases List.mem_append.mp hv with hv | hv
          · rcases List.mem_append.mp hv with hv | hv
            · exact old v (mem_cut hv)
            · rw [List.mem_singleton.mp hv]
              exact hv9.but (Same.but s13 d)
          · exact old v (mem_cut hv)
        · refine nx_run (kk _ _ ⟨D, us, rfl, t7.more (by omega), b7 _ _ nDd hD6, nDd, nDl, by omega, fun v h => ((hv6 v h).but b7).imp fun p hp => hp.1⟩)
      · clear hD6 hv6 hD lu hv t5 t6 us
        obtain ⟨Lr, us, rfl, t7, hL, nLd, nLl, l20, hv⟩ := hh
        refine seq_postS (fun σ' H' => ∃ (Lr : Addr) (us : List V), σ' = [some (.ref a), some (.ref d), some (.int (0 + (tn : Nat))), some (.int (m : Int)), some (.ref Lr), o5, some (.int (k : Int)), o7, o8, o9, o10, o11, o12, o13, o14, o15] ∧ Tape H' d l3 (400 * tn + 330) ∧ H' Lr = some (.lst us) ∧ Lr ≠ d ∧ Lr ≠ l3.a ∧ us.length ≤ 20 ∧ ∀ v ∈ us, Sv K d Rw H' v) (fun rr kk => ?_) (fun σ' H8 hh => ?_)
        · refine ⟨_, rfl, d, l3, 400 * tn + 320, 4, rfl, t7, by omega, by decide, by decide, fun H8 r4 b8 t8 _ _ => ⟨rfl, _, rfl, ite2 (fun _ => ?_) (fun _ => ?_)⟩⟩
          · refine ⟨_, rfl, _, rfl, _, rfl, _, _, rfl, rfl, d, l3, 400 * tn + 320 + 1, (m : Int) + 1, rfl, t8, by omega, by omega, by omega, fun H9 r5 b9 t9 _ _ => ⟨_, rfl, Lr, us, rfl, SqL.of (b9 _ _ nLd (b8 _ _ nLd hL)), fun p1 n1 => ?_⟩⟩
            obtain ⟨n1d, n1l⟩ := np_tape t9 n1
            have s10 := same_new (u := .lst (cutV us none (some r5))) (same_id (H := H9)) n1
            have l1 := cutV_length us none (some r5)
            exact kk _ _ ⟨p1, _, rfl, (t9.same s10).more (by omega), upd_same, n1d, n1l, by omega, fun v h => (hv v (mem_cut h)).but (b8.trans (b9.trans (Same.but s10 d)))⟩
          · exact nx_run (kk _ _ ⟨Lr, us, rfl, t8.more (by omega), b8 _ _ nLd hL, nLd, nLl, l20, fun v h => (hv v h).but b8⟩)
        · clear hv l20 nLl nLd hL t7 us Lr
          obtain ⟨Lr, us, rfl, t8, hL, nLd, nLl, l20, hv⟩ := hh
          obtain ⟨ps, hps, hrw⟩ := sv_pvl hv
          have hpl := pvl_len hps
          have hlaw := law_same hrw
          have hdv := pv_dvL hps
          rw [ofPL_map] at hdv
          have hokR := rws_okR hrw
          have hlT : (ps.map ofP).length ≤ 20 := by rw [List.length_map]; omega
          refine asg_run ⟨_, rfl, Lr, us, ps, rfl, hL, hps, rws_okP hrw, by omega, fun H9 s9 => ?_⟩
          rw [hlaw]
          dsimp only [gName]
          obtain ⟨dd, lf, sh1, sh2⟩ := optI_shown (firstW (ps.map ofP)) (fun i e => by have := firstW_le e; omega)
          refine ifl_valS (v := false) (fun Q' kk => tor_valS (b := false) (c := false) (fun Q' kk => ?_) (fun _ H10 s10 Q' kk => ?_) kk) (fun hb => nomatch hb) (fun _ H11 s11 => ?_)
          · refine ⟨_, rfl, Lr, us, _, rfl, .inl (s9 _ _ hL), dvLM s9 hdv, hokR, by omega, fun H10 s10 => ⟨_, dd, rfl, lf, sh1, sh2, _, rfl, _, dd, rfl, lf, sh1, sh2, rfl, _, rfl, ?_⟩⟩
            rw [decide_eq_true rfl]
            exact kk _ s10
          · have s910 := s9.trans s10
            refine ⟨_, rfl, Lr, us, rfl, .inl ⟨SqL.of (s910 _ _ hL), fun T nT => ?_⟩⟩
            have sT := same_new (u := .tup us) (same_id (H := H10)) nT
            have e3 : decide (optI (firstW (ps.map ofP)) = V.non) = (firstW (ps.map ofP)).isNone := by
              cases firstW (ps.map ofP) with
              | none => rfl
              | some i => exact decide_eq_false fun z => by cases z
            refine .inl ⟨T, us, _, rfl, .inr (SqT.of upd_same), dvLM (s910.trans sT) hdv, hokR, by omega, fun H11 s11 => ?_⟩
            refine ⟨_, .bool (firstW (ps.map ofP)).isNone, rfl, .bl _, (bool_shown _).1, (bool_shown _).2, _, rfl, rfl, _, .bool (firstW (ps.map ofP)).isNone, rfl, by rw [e3]; exact .bl _, (bool_shown _).1, (bool_shown _).2, rfl, _, rfl, ?_⟩
            rw [decide_eq_true rfl]
            exact kk _ (sT.trans s11)
          · have s1 := s9.trans s11
            have t11 := (t8.same s1)
            have fin : ∀ (o7 o8 o9 o10 o11 : Option V) (H' : Hp), Tape H' d l3 (400 * tn + 330 + 2) → ∃ (p2 p3 p4 p5 p6 p7 p8 p9 p10 p11 p12 p13 p14 p15 : Option V) (l' : Tl), [some (.ref a), some (.ref d), some (.int (0 + (tn : Nat))), some (.int (m : Int)), some (.ref Lr), o5, some (.int (k : Int)), o7, o8, o9, o10, o11, o12, o13, o14, o15] = [some (V.ref a), some (.ref d), p2, p3, p4, p5, p6, p7, p8, p9, p10, p11, p12, p13, p14, p15] ∧ Tape H' d l' (400 * (tn + 1)) ∧ Std l' := fun o7 o8 o9 o10 o11 H' t => ⟨_, _, _, _, _, _, _, _, _, _, _, _, _, _, l3, rfl, t.more (by omega), std3⟩
            have hL11 := s1 _ _ hL
            have hps11 := pvLM s1 hps
            have hdv11 := dvLM s1 hdv
            clear hv t8 hL hps hdv b3 t3 hl3 hp3 hk3 b4 t4 hp4 nD nDd nDl npD b6 H9 s9 s11 npd
            refine nx_run ?_
            dsimp only
            refine ⟨_, rfl, rfl, _, rfl, ?_⟩
            have hok2 := rws_okd hrw (by omega)
            have hdep := rws_dep hrw
            cases hf : firstW (ps.map ofP) with
            | some i => exact iteF (nx_run (fin _ _ _ _ _ _ (t11.more (by omega))))
            | none =>
              refine iteT ?_
              have hnq := noq_of hf
              refine asg_run ⟨_, rfl, Lr, us, rfl, .inl ⟨SqL.of hL11, fun T nT => ?_⟩⟩
              have sT := same_new (u := .tup us) (same_id (H := H11)) nT
              refine code_made (.inr (SqT.of upd_same)) (dvLM sT hdv11) hokR (by omega) hf fun H12 x s12 nx hc => ⟨rfl, ?_⟩
              obtain ⟨dx, TT, hx, hTT⟩ := hc
              have sT12 := sT.trans s12
              have hL := sT12 _ _ hL11
              have hps := pvLM sT12 hps11
              have hdv := dvLM sT12 hdv11
              have t12 := t11.same sT12
              clear hL11 hps11 hdv11 t11 sT12 s12 sT nT nx s1
              dsimp only [gName]
              have hC : ∀ {H' : Hp}, Same H12 H' → CodeAt K CC H' x us := fun z => ⟨dx, TT, z _ _ hx, same_seqT z hTT⟩
              have hG : ∀ {H' : Hp}, Same H12 H' → GCode K CC x H' TT := fun z => ⟨dx, us, z _ _ hx, same_seqT z hTT⟩
              have shL := rws_shL hrw
              have shT := rws_shT hrw
              have hlu : us.length ≤ 1000 := by omega
              refine ifl_valS (v := false) (fun Q' kk => tor_valS (b := false) (c := false) (fun Q' kk => ?_) (fun _ H13 s13 Q' kk => ?_) kk) (fun hb => nomatch hb) (fun _ H13 s13 => ?_)
              · refine ⟨_, rfl, x, dx, _, rfl, hx, x, us, rfl, ⟨dx, TT, hx, hTT⟩, fun T2 hT2 => ⟨_, rfl, Lr, us, rfl, .inl ⟨SqL.of hL, fun T3 n3 => ?_⟩⟩⟩
                have s3 := same_new (u := .tup us) (same_id (H := H12)) n3
                refine ⟨.tuple ps, .tuple ps, .tup (same_seqT s3 hT2) (pv_dpL (pvLM s3 hps)), .tup (SqT.of upd_same) (pv_dpL (pvLM s3 hps)), shT, shT, _, rfl, ?_⟩
                rw [SeqAt.eqv_refl _ (SeqAt.canLay_of_shaped shT)]
                exact kk _ s3
              · refine ⟨_, rfl, x, dx, _, rfl, s13 _ _ hx, x, us, rfl, hC s13, us.length, rfl, by omega, _, rfl, Lr, us, rfl, .inl (SqL.of (s13 _ _ hL)), rfl, _, rfl, ?_⟩
                rw [decide_eq_true rfl]
                exact kk _ same_id
              refine nx_run ?_
              dsimp only
              refine seq_postS (fun σ' H' => ∃ o9 : Option V, σ' = [some (.ref a), some (.ref d), some (.int (0 + (tn : Nat))), some (.int (m : Int)), some (.ref Lr), o5, some (.int (k : Int)), some .non, some (.ref x), o9, o10, o11, o12, o13, o14, o15] ∧ Same H12 H') (fun rr kk => ?_) (fun σ' H14 hh => ?_)
              · refine ⟨_, rfl, x, dx, _, TT, rfl, s13 _ _ hx, hG s13, ?_⟩
                refine for_tup (K := K) (a := TT) (xs := us) (fun i σ' H' => (∃ o9 : Option V, σ' = [some (.ref a), some (.ref d), some (.int (0 + (tn : Nat))), some (.int (m : Int)), some (.ref Lr), o5, some (.int (k : Int)), some .non, some (.ref x), o9, o10, o11, o12, o13, o14, o15] ∧ Same H12 H') ∧ i = 0) ⟨⟨_, rfl, s13⟩, rfl⟩ (fun i σ' H' _ h => by obtain ⟨⟨_, _, z⟩, _⟩ := h; exact same_seqT z hTT) ?_ (fun σ' H' h => kk _ _ h.1)
                rintro i v σ' H14 hv ⟨⟨o9, rfl, s14⟩, rfl⟩
                obtain ⟨p0, hp0, hv0⟩ := pvl_get hps hv
                have sh0 : SeqAt.shaped p0 = true := (rws_okP hrw p0 (List.mem_of_getElem? hp0)).sh
                refine ifl_valS (v := false) (fun Q' kk => tor_valS (b := false) (c := false) (fun Q' kk => ?_) (fun _ H15 s15 Q' kk => ?_) kk) (fun hb => nomatch hb) (fun _ H15 s15 => ?_)
                · refine ⟨_, rfl, _, rfl, Lr, us, _, v, rfl, rfl, SqL.of (s14 _ _ hL), atI_nat (j := 0) hv, p0, p0, pv_dp (pvM s14 hv0), pv_dp (pvM s14 hv0), sh0, sh0, _, rfl, ?_⟩
                  rw [SeqAt.eqv_refl _ (SeqAt.canLay_of_shaped sh0)]
                  exact kk _ same_id
                · have s145 := s14.trans s15
                  refine tst_run (op_run (lc_own (K := K) (us := us) (j := 10) rfl (s145 _ _ hx) (hG s145) (fun _ => rfl) (fun _ => rfl) (same_seqT s145 hTT) hlu fun H' D sD nD hD => ?_))
                  have s16 := s145.trans sD
                  refine ⟨_, rfl, .list ps, .list ps, .lst (SqL.of hD) (pv_dpL (pvLM s16 hps)), .lst (SqL.of (s16 _ _ hL)) (pv_dpL (pvLM s16 hps)), shL, shL, _, rfl, ?_⟩
                  rw [SeqAt.eqv_refl _ (SeqAt.canLay_of_shaped shL)]
                  exact kk _ sD
                · exact nx_run (kk _ _ ⟨_, rfl, s14.trans s15⟩)
              obtain ⟨o9, rfl, s14⟩ := hh
              refine ifl_valS (v := false) (fun Q' kk => ?_) (fun hb => nomatch hb) (fun _ H15 s15 => ?_)
              · refine tst_run (op_run (op_run (lc_own (K := K) (us := us) (j := 9) rfl (s14 _ _ hx) (hG s14) (fun _ => rfl) (fun _ => rfl) (same_seqT s14 hTT) hlu fun H' D sD nD hD => ?_)))
                have s15 := s14.trans sD
                refine ⟨_, rfl, x, dx, _, TT, us, rfl, s15 _ _ hx, same_seqT s15 hTT, fun H'' z => hG (s15.trans z), fun H'' R z r => ⟨x, us, rfl, hC (s15.trans z), r⟩, fun q2 nq => ?_⟩
                have s16 := same_new (u := .lst us) (same_id (H := H')) nq
                refine ⟨D, q2, us, us, rfl, rfl, s16 _ _ hD, upd_same, few (by omega), fun p3 n3 => ?_⟩
                have s17 := same_new (u := .lst (us ++ us)) s16 n3
                have h3 : (upd (upd H' q2 (.lst us)) p3 (.lst (us ++ us))) p3 = some (.lst (us ++ us)) := upd_same
                generalize upd (upd H' q2 (.lst us)) p3 (.lst (us ++ us)) = H17 at s17 h3 ⊢
                have s18 := s15.trans s17
                refine ⟨_, rfl, Lr, 2, us, rfl, rfl, s18 _ _ hL, by decide, by decide, by show us.length * 2 ≤ _; omega, fun p4 n4 => ?_⟩
                have s19 := same_new (u := .lst (us ++ (us ++ []))) (same_id (H := H17)) n4
                have s20 := s18.trans s19
                have hp2 := pvM s20 (K := K) (v := .non) .non
                have pp := pvLM s20 hps
                have hrw2 : ∀ p ∈ ps ++ ps, Rw p := fun p hp => by
                  rcases List.mem_append.mp hp with hp | hp <;> exact hrw p hp
                have sh2 := rws_shL hrw2
                have e2 : ps ++ (ps ++ []) = ps ++ ps := by rw [List.append_nil]
                refine ⟨.list (ps ++ ps), .list (ps ++ (ps ++ [])), .lst (SqL.of (s19 _ _ h3)) (pv_dpL (pvl_app pp pp)), .lst (SqL.of upd_same) (pv_dpL (pvl_app pp (pvl_app pp .nil))), sh2, by rw [e2]; exact sh2, _, rfl, ?_⟩
                rw [e2, SeqAt.eqv_refl _ (SeqAt.canLay_of_shaped sh2)]
                exact kk _ ((sD.trans s17).trans s19)
              refine nx_run ?_
              dsimp only
              have s15 := s14.trans s15
              clear s13 s14
              refine asg_run ⟨few (by show 2 ≤ 1000; decide), fun q1 n1 => ⟨few (by show 1 ≤ 1000; decide), fun q2 n2 => ⟨few (by show 2 ≤ 1000; decide), fun LO nO => ?_⟩⟩⟩
              have u2 := same_new (u := .lst [.ref q1, .ref q2]) (same_id (H := _)) nO
              have u1 := same_new (u := .tup [.str "give"]) (same_id (H := _)) n2
              have u0 := same_new (u := .tup [.str "jump", .int 1]) (same_id (H := H15)) n1
              have w1 := (u1.trans u2) _ _ upd_same
              have w2 := u2 _ _ upd_same
              have w3 : (upd (upd (upd H15 q1 (.tup [.str "jump", .int 1])) q2 (.tup [.str "give"])) LO (.lst [.ref q1, .ref q2])) LO = some (.lst [.ref q1, .ref q2]) := upd_same
              have s18 := s15.trans (u0.trans (u1.trans u2))
              generalize upd (upd (upd H15 q1 (.tup [V.str "jump", .int 1])) q2 (.tup [V.str "give"])) LO (.lst [V.ref q1, .ref q2]) = H18 at w1 w2 w3 s18 ⊢
              clear u0 u1 u2 n1 n2 nO s15
              have hpo : PvL K H18 [.ref q1, .ref q2] [jumpP, giveP] := .cons (.tup (SqT.of w1) (.cons (.str _) (.cons (.int _) .nil))) (.cons (.tup (SqT.of w2) (.cons (.str _) .nil)) .nil)
              have hdo := pv_dvL hpo
              have hfo : firstW (ofPL [jumpP, giveP]) = none := by decide +kernel
              dsimp only [gName]
              have okO : ∀ t ∈ ofPL [jumpP, giveP], okR t := by
                rw [ofPL_map]
                exact rws_okR (fun p hp => by
                  simp only [List.mem_cons, List.not_mem_nil, or_false] at hp
                  rcases hp with rfl | rfl
                  · exact rw_lead (by decide +kernel) (nm_int 1)
                  · exact rw_conc _ (by simp [conc, giveP]))
              refine ifl_valS (v := false) (fun Q' kk => tor_valS (b := false) (c := false) (fun Q' kk => ?_) (fun _ H19 s19 Q' kk => tor_valS (b := false) (c := false) (fun Q' kk => ?_) (fun _ H20 s20 Q' kk => ?_) kk) kk) (fun hb => nomatch hb) (fun _ H19 s19 => ?_)
              · refine ⟨_, rfl, _, rfl, code_made (.inl (s18 _ _ hL)) (dvLM s18 hdv) hokR (by omega) hf fun H' y sy ny hy => ⟨rfl, ?_⟩⟩
                obtain ⟨dy, Ty, hy1, hy2⟩ := hy
                have s19 := s18.trans sy
                refine ⟨x, dx, _, y, dy, _, rfl, s19 _ _ hx, rfl, hy1, x, us, _, _, rfl, hC s19, dvLM s19 hdv, hok2, .inl ⟨y, us, _, rfl, ⟨dy, Ty, hy1, hy2⟩, dvLM s19 hdv, hok2, hdep, fun H'' z => ⟨_, rfl, _, rfl, ?_⟩⟩⟩
                rw [alk_refl 21 _ (by simp only [noq]; exact hnq) hdep]
                exact kk _ (sy.trans z)
              · have s20 := s18.trans s19
                refine ⟨_, rfl, _, rfl, code_made (.inl (s19 _ _ w3)) (dvLM s19 hdo) okO (by decide +kernel) hfo fun H' y sy ny hy => ⟨rfl, ?_⟩⟩
                obtain ⟨dy, Ty, hy1, hy2⟩ := hy
                have s21 := s20.trans sy
                refine ⟨x, dx, _, rfl, s21 _ _ hx, .inl ⟨y, dy, _, rfl, hy1⟩, x, us, _, _, rfl, hC s21, dvLM s21 hdv, hok2, .inl ⟨y, _, _, rfl, ⟨dy, Ty, hy1, hy2⟩, dvLM (s19.trans sy) hdo, by decide +kernel, by decide +kernel, fun H'' z => ⟨_, rfl, ?_⟩⟩⟩
                have s22 := s21.trans z
                have shO : SeqAt.shaped (.list [jumpP, giveP]) = true := by decide +kernel
                refine ⟨_, rfl, _, rfl, .list ps, .list [jumpP, giveP], .lst (SqL.of (s22 _ _ hL)) (pv_dpL (pvLM s22 hps)), .lst (SqL.of ((s19.trans (sy.trans z)) _ _ w3)) (pv_dpL (pvLM (s19.trans (sy.trans z)) hpo)), shL, shO, rfl, _, rfl, ?_⟩
                have eo := other_same hf
                rw [ofPL_map]
                rw [show List.map ofP [jumpP, giveP] = [ofP jumpP, ofP giveP] from rfl, eo, decide_eq_true rfl]
                exact kk _ (sy.trans z)
              · have s21 := s18.trans (s19.trans s20)
                refine ⟨_, rfl, _, rfl, Lr, us, rfl, .inl ⟨SqL.of (s21 _ _ hL), fun T3 n3 => ?_⟩⟩
                have s3 := same_new (u := .tup us) (same_id (H := H20)) n3
                have s22 := s21.trans s3
                exact ⟨x, dx, _, rfl, s22 _ _ hx, .inr ⟨T3, us, rfl, SqT.of upd_same, Y.C.k3⟩, x, us, _, _, rfl, hC s22, dvLM s22 hdv, hok2, .inr ⟨T3, us, rfl, SqT.of upd_same, _, rfl, _, rfl, kk _ s3⟩⟩
              refine nx_run ?_
              dsimp only
              have s20 := s18.trans s19
              clear s18 s19 w1 w2 w3 hpo hdo
              refine ⟨_, rfl, .inl ⟨rfl, us, SqL.of (s20 _ _ hL)⟩, few (by show 1 ≤ 1000; decide), fun g ng => ?_⟩
              have sg := same_new (u := .tup [.str "give"]) (same_id (H := H19)) ng
              have hg : (upd H19 g (.tup [.str "give"])) g = some (.tup [.str "give"]) := upd_same
              generalize upd H19 g (.tup [V.str "give"]) = H21 at sg hg ⊢
              have s21 := s20.trans sg
              have hL21 := s21 _ _ hL
              refine ⟨Lr, us, .ref g, rfl, rfl, hL21, by omega, ?_⟩
              have nxL : x ≠ Lr := ne_of (s21 _ _ hx) hL21 (by intro z; cases z)
              have ngL : g ≠ Lr := ne_of hg hL21 (by intro z; cases z)
              have hx22 : (upd H21 Lr (.lst (us ++ [.ref g]))) x = some (.ins CC dx [("_rows", .ref TT)]) := (upd_ne nxL).trans (s21 _ _ hx)
              have hT22 : SqT K (upd H21 Lr (.lst (us ++ [.ref g]))) TT us := sqT_put2 hL21 (same_seqT s21 hTT)
              have hL22 : (upd H21 Lr (.lst (us ++ [.ref g]))) Lr = some (.lst (us ++ [.ref g])) := upd_same
              have hps22 : PvL K (upd H21 Lr (.lst (us ++ [.ref g]))) us ps := pvl_put hL21 (pvLM s21 hps) (by rw [ofPL_map]; exact hnq)
              have hdv22 := pv_dvL hps22
              rw [ofPL_map] at hdv22
              have hg22 : (upd H21 Lr (.lst (us ++ [.ref g]))) g = some (.tup [.str "give"]) := (upd_ne ngL).trans hg
              have hdg : DvL K (upd H21 Lr (.lst (us ++ [.ref g]))) (us ++ [.ref g]) (ps.map ofP ++ [giveT]) := dvl_app hdv22 (.cons (.tup (SqT.of hg22) (.cons (.str _) .nil)) .nil)
              have t22 : Tape (upd H21 Lr (.lst (us ++ [.ref g]))) d l3 (400 * tn + 330) := tape_put (t12.same s21) nLd nLl
              have hf2 := firstW_snoc hf
              have okG : ∀ t ∈ ps.map ofP ++ [giveT], okR t := fun t ht => by
                rcases List.mem_append.mp ht with ht | ht
                · exact hokR t ht
                · rw [List.mem_singleton.mp ht]
                  have := (rw_conc giveP (by simp [conc, giveP])).ok
                  rw [show ofP giveP = giveT by simp [giveP, giveT, ofP, ofPL]] at this
                  exact this
              have lG : (ps.map ofP ++ [giveT]).length ≤ 1000 := by rw [List.length_append, List.length_singleton]; omega
              generalize upd H21 Lr (.lst (us ++ [V.ref g])) = H22 at hx22 hT22 hL22 hdv22 hdg t22 ⊢
              clear hps22 hg22 hps hdv hL hx hTT hC hG hL21 sg hg s21 s20 ng t12
              have hC22 : ∀ {H' : Hp}, Same H22 H' → CodeAt K CC H' x us := fun z => ⟨dx, TT, z _ _ hx22, same_seqT z hT22⟩
              dsimp only
              have ul : (us ++ [V.ref g]).length = us.length + 1 := by rw [List.length_append, List.length_singleton]
              refine ifl_valS (v := false) (fun Q' kk => tor_valS (b := false) (c := false) (fun Q' kk => ?_) (fun _ H19 s19 Q' kk => tor_valS (b := false) (c := false) (fun Q' kk => ?_) (fun _ H20 s20 Q' kk => ?_) kk) kk) (fun hb => nomatch hb) (fun _ H19 s19 => ?_)
              · refine ⟨_, rfl, x, dx, _, rfl, hx22, x, us, rfl, hC22 same_id, us.length, rfl, by omega, _, rfl, Lr, _, rfl, .inl (SqL.of hL22), rfl, _, rfl, ?_⟩
                rw [decide_eq_false (show ¬ V.int (us.length : Int) = V.int ((us ++ [V.ref g]).length : Int) from fun z => by
                  have z := V.int.inj z
                  rw [ul] at z
                  omega)]
                exact kk _ same_id
              · refine ⟨_, rfl, _, rfl, code_made (.inl (s19 _ _ hL22)) (dvLM s19 hdg) okG lG hf2 fun H' y sy ny hy => ⟨rfl, ?_⟩⟩
                obtain ⟨dy, Ty, hy1, hy2⟩ := hy
                have s21 := s19.trans sy
                have okd2 : okd 300 (.tup (ps.map ofP ++ [giveT])) = true := by
                  have := rws_okd (ps := ps ++ [giveP]) (fun p hp => by
                    rcases List.mem_append.mp hp with hp | hp
                    · exact hrw p hp
                    · rw [List.mem_singleton.mp hp]
                      exact rw_conc _ (by simp [conc, giveP])) (by rw [List.length_append, List.length_singleton]; omega)
                  rw [List.map_append] at this
                  exact this
                have dep2 : dep (.tup (ps.map ofP ++ [giveT])) < 21 := by
                  have := rws_dep (ps := ps ++ [giveP]) (fun p hp => by
                    rcases List.mem_append.mp hp with hp | hp
                    · exact hrw p hp
                    · rw [List.mem_singleton.mp hp]
                      exact rw_conc _ (by simp [conc, giveP]))
                  rw [List.map_append] at this
                  exact this
                refine ⟨x, dx, _, rfl, s21 _ _ hx22, .inl ⟨y, dy, _, rfl, hy1⟩, x, us, _, _, rfl, hC22 s21, dvLM s21 hdv22, hok2, .inl ⟨y, _, _, rfl, ⟨dy, Ty, hy1, hy2⟩, dvLM s21 hdg, okd2, dep2, fun H'' z => ⟨_, rfl, _, rfl, ?_⟩⟩⟩
                rw [alk_len (by rw [List.length_append, List.length_singleton]; omega)]
                exact kk _ (sy.trans z)
              · have s21 := s19.trans s20
                refine ⟨_, rfl, .inl ⟨Lr, _, _, rfl, .inl (s21 _ _ hL22), dvLM s21 hdg, okG, lG, fun H' z => ⟨_, rfl, ?_⟩⟩⟩
                rw [hf2]
                exact kk _ z
              exact nx_run (fin _ _ _ _ _ _ ((t22.same s19).more (by omega)))
  · rintro σ H2 ⟨o2, o3, o4, o5, o6, o7, o8, o9, o10, o11, o12, o13, o14, o15, l2, rfl, t2, std2⟩
    dsimp only
    refine asg_run ⟨_, rfl, few (by show 2 ≤ 1000; decide), fun q1 n1 => ?_⟩
    have t3 := t2.same (same_new (u := .lst [.int 0, .int 1]) same_id n1)
    refine ⟨d, l2, q1, 400 * n, _, rfl, t3, by omega, upd_same, by simp, by show 2 < 1000000; decide, fun H4 v b4 t4 hv => ?_⟩
    obtain ⟨w0, rfl, hw⟩ : ∃ w0 : Int, v = .int w0 ∧ PyData.int w0 ∈ [PyData.int 0, .int 1] := by
      simp only [List.mem_cons, List.not_mem_nil, or_false] at hv
      rcases hv with rfl | rfl
      · exact ⟨0, rfl, by simp⟩
      · exact ⟨1, rfl, by simp⟩
    clear hv t3 n1 t2 b4 q1
    dsimp only [gName]
    refine asg_run ⟨_, rfl, _, rfl, rfl, few (by show 2 ≤ 1000; decide), fun T nT => ⟨T, rfl, ⟨_, SqT.of upd_same⟩, fun D nD => ?_⟩⟩
    have s5 := same_new (u := .tup [.int w0, .bl (decide (V.int w0 = V.int 1))]) (same_id (H := H4)) nT
    have hT5 : (upd H4 T (.tup [.int w0, .bl (decide (V.int w0 = V.int 1))])) T = some (.tup [.int w0, .bl (decide (V.int w0 = V.int 1))]) := upd_same
    generalize hcc : decide (V.int w0 = V.int 1) = cc at s5 hT5 nD ⊢
    have t5 := t4.same s5
    generalize upd H4 T (.tup [V.int w0, .bl cc]) = H5 at s5 hT5 nD t5 ⊢
    clear s5 t4 nT hcc
    obtain ⟨nDd, nDl⟩ := np_tape t5 nD
    have hcb : PyData.bool cc ∈ [PyData.bool true, .bool false] := by cases cc <;> simp
    have tw2 : ∀ p ∈ [PyData.int w0, .bool cc], p ∈ twos := fun p hp => by
      simp only [List.mem_cons, List.not_mem_nil, or_false] at hp hw hcb
      rcases hp with rfl | rfl
      · rcases hw with e | e <;> rw [e] <;> simp [twos]
      · rcases hcb with e | e <;> rw [e] <;> simp [twos]
    refine lc_tup (K := K) (a := T) (xs := [.int w0, .bl cc]) (fun i H' => ∃ zs : List Addr, H' D = some (.lst (zs.map V.ref)) ∧ zs.length = i ∧ Same H5 H' ∧ Tape H' d l2 (400 * n + 1) ∧ ∀ (j : Nat) (z : Addr), zs[j]? = some z → ∃ (us : List V) (px : PyData) (dx TT : Addr), [PyData.int w0, .bool cc][j]? = some px ∧ H' z = some (.ins CC dx [("_rows", .ref TT)]) ∧ SqT K H' TT us ∧ PvL K H' us [twP px, .tuple [.str "give"]])
      (by
        refine ⟨[], upd_same, rfl, same_new same_id nD, tape_put t5 nDd nDl, fun j z h => ?_⟩
        cases h) (fun i H' _ h => by obtain ⟨_, _, _, z, _⟩ := h; exact SqT.of (z _ _ hT5)) ?_ ?_
    · rintro i xv H6 hxv ⟨zs, hD, lz, s6, t6, hz⟩
      have hpv : PvL K H6 [.int w0, .bl cc] [PyData.int w0, .bool cc] := .cons (.int _) (.cons (.bl _) .nil)
      obtain ⟨px, hpx, hvx⟩ := pvl_get hpv hxv
      have tk := twok (tw2 px (List.mem_of_getElem? hpx))
      refine ⟨rfl, _, rfl, few (by show 2 ≤ 1000; decide), fun p1 n1 => ⟨few (by show 3 ≤ 1000; decide), fun p2 n2 => ⟨few (by show 1 ≤ 1000; decide), fun p3 n3 => ⟨few (by show 2 ≤ 1000; decide), fun p4 n4 => ?_⟩⟩⟩⟩
      have u3 := same_new (u := .lst [.ref p2, .ref p3]) (same_id (H := _)) n4
      have u2 := same_new (u := .tup [.str "give"]) (same_id (H := _)) n3
      have u1 := same_new (u := .tup [.str "test", .ref p1, .int 1]) (same_id (H := _)) n2
      have u0 := same_new (u := .tup [.str "equal", xv]) (same_id (H := H6)) n1
      have w1 := (u1.trans (u2.trans u3)) _ _ upd_same
      have w2 := (u2.trans u3) _ _ upd_same
      have w3 := u3 _ _ upd_same
      have u := u0.trans (u1.trans (u2.trans u3))
      have hpr : PvL K _ [.ref p2, .ref p3] [twP px, .tuple [.str "give"]] := .cons (.tup (SqT.of w2) (.cons (.str _) (.cons (.tup (SqT.of w1) (.cons (.str _) (.cons (pvM u hvx) .nil))) (.cons (.int _) .nil)))) (.cons (.tup (SqT.of w3) (.cons (.str _) .nil)) .nil)
      refine code_made (.inl upd_same) (pv_dvL hpr) tk.okr (by show 2 ≤ 1000; decide) tk.fw fun H' y sy ny hy => ⟨rfl, ?_⟩
      obtain ⟨dy, Ty, hy1, hy2⟩ := hy
      have s7 := u.trans sy
      have hD7 := s7 _ _ hD
      refine ⟨_, hD7, by rw [List.length_map]; have : i < 2 := (List.getElem?_eq_some_iff.mp hxv).1; omega, zs ++ [y], by rw [upd_same, List.map_append]; rfl, by rw [List.length_append, lz]; rfl, fun b o e => ?_, tape_put (t6.same s7) nDd nDl, fun j z hj => ?_⟩
      · rw [upd_ne (ne_of_none e nD)]
        exact s7 _ _ (s6 _ _ e)
      · have put : ∀ (z : Addr) (us : List V) (px : PyData) (dx TT : Addr), px ∈ twos → H' z = some (.ins CC dx [("_rows", .ref TT)]) → SqT K H' TT us → PvL K H' us [twP px, .tuple [.str "give"]] → (upd H' D (.lst (zs.map V.ref ++ [.ref y]))) z = some (.ins CC dx [("_rows", .ref TT)]) ∧ SqT K (upd H' D (.lst (zs.map V.ref ++ [.ref y]))) TT us ∧ PvL K (upd H' D (.lst (zs.map V.ref ++ [.ref y]))) us [twP px, .tuple [.str "give"]] := fun z us px dx TT hm h1 h2 h3 =>
          ⟨(upd_ne (ne_of h1 hD7 (by intro z; cases z))).trans h1, sqT_put2 hD7 h2, pvl_put hD7 h3 (twok hm).nq⟩
        by_cases hjl : j < zs.length
        · rw [List.getElem?_append_left hjl] at hj
          obtain ⟨us, px', dx, TT, e1, e2, e3, e4⟩ := hz j z hj
          exact ⟨us, px', dx, TT, e1, put z us px' dx TT (tw2 px' (List.mem_of_getElem? e1)) (s7 _ _ e2) (same_seqT s7 e3) (pvLM s7 e4)⟩
        · rw [List.getElem?_append_right (by omega)] at hj
          have e0 : j - zs.length = 0 := by
            have : j - zs.length < 1 := (List.getElem?_eq_some_iff.mp hj).1
            omega
          rw [e0] at hj
          cases hj
          have ej : j = i := by omega
          subst ej
          exact ⟨[.ref p2, .ref p3], px, dy, Ty, hpx, put y _ px dy Ty (tw2 px (List.mem_of_getElem? hpx)) hy1 hy2 (pvLM sy hpr)⟩
    · rintro H6 ⟨zs, hD, lz, s6, t6, hz⟩
      obtain ⟨z0, z1, rfl⟩ : ∃ z0 z1, zs = [z0, z1] := by
        match zs, lz with
        | [z0, z1], _ => exact ⟨z0, z1, rfl⟩
      obtain ⟨us0, px0, dx0, T0, e0, h0, hq0, hv0⟩ := hz 0 z0 rfl
      obtain ⟨us1, px1, dx1, T1, e1, h1, hq1, hv1⟩ := hz 1 z1 rfl
      cases e0
      cases e1
      have k0 := twok (tw2 _ List.mem_cons_self)
      have k1 := twok (tw2 _ (List.mem_cons_of_mem _ List.mem_cons_self))
      have ea := tw_alk _ hw _ hcb
      dsimp only [gName]
      refine ifl_valS (v := false) (fun Q' kk => tor_valS (b := false) (c := false) (fun Q' kk => ?_) (fun _ H7 s7 Q' kk => ?_) kk) (fun hb => nomatch hb) (fun _ H7 s7 => ?_)
      · refine ⟨_, rfl, D, _, _, .ref z0, rfl, rfl, SqL.of hD, atI_nat (j := 0) rfl, _, rfl, D, _, _, .ref z1, rfl, rfl, SqL.of hD, atI_nat (j := 1) rfl, ?_⟩
        refine ⟨z0, dx0, _, rfl, h0, .inl ⟨z1, dx1, _, rfl, h1⟩, z0, us0, _, _, rfl, ⟨dx0, T0, h0, hq0⟩, pv_dvL hv0, k0.od, .inl ⟨z1, us1, _, rfl, ⟨dx1, T1, h1, hq1⟩, pv_dvL hv1, k1.od, k1.dp, fun H'' z => ⟨_, rfl, _, rfl, ?_⟩⟩⟩
        rw [ea]
        exact kk _ z
      · refine ⟨_, rfl, D, _, _, .ref z0, rfl, rfl, SqL.of (s7 _ _ hD), atI_nat (j := 0) rfl, _, rfl, D, _, _, .ref z1, rfl, rfl, SqL.of (s7 _ _ hD), atI_nat (j := 1) rfl, ?_⟩
        refine ⟨z0, dx0, _, z1, dx1, _, rfl, s7 _ _ h0, rfl, s7 _ _ h1, z0, us0, _, _, rfl, ⟨dx0, T0, s7 _ _ h0, same_seqT s7 hq0⟩, pv_dvL (pvLM s7 hv0), k0.od, .inl ⟨z1, us1, _, rfl, ⟨dx1, T1, s7 _ _ h1, same_seqT s7 hq1⟩, pv_dvL (pvLM s7 hv1), k1.od, k1.dp, fun H'' z => ⟨_, rfl, _, rfl, ?_⟩⟩⟩
        rw [ea]
        exact kk _ z
      refine nx_run ?_
      dsimp only
      have t7 := t6.same s7
      clear s7 h0 h1 hq0 hq1 hv0 hv1 hD hz k0 k1 ea s6 hT5 t5 nD
      refine asg_run ⟨_, rfl, fun b1 m1 => ?_⟩
      have v1 := same_new (u := .dK []) (same_id (H := H7)) m1
      have g1 : (upd H7 b1 (.dK [])) b1 = some (.dK []) := upd_same
      generalize upd H7 b1 (.dK []) = K1 at v1 g1 ⊢
      refine ⟨few (by show 0 ≤ 1000; decide), fun b2 m2 => ?_⟩
      have v2 := same_new (u := .tup []) (same_id (H := K1)) m2
      have g2 : (upd K1 b2 (.tup [])) b2 = some (.tup []) := upd_same
      generalize upd K1 b2 (.tup []) = K2 at v2 g2 ⊢
      refine ⟨few (by show 0 ≤ 1000; decide), fun b3 m3 => ?_⟩
      have v3 := same_new (u := .lst []) (same_id (H := K2)) m3
      have g3 : (upd K2 b3 (.lst [])) b3 = some (.lst []) := upd_same
      generalize upd K2 b3 (.lst []) = K3 at v3 g3 ⊢
      refine ⟨few (by show 1 ≤ 1000; decide), fun b4 m4 => ?_⟩
      have v4 := same_new (u := .tup [.str "give"]) (same_id (H := K3)) m4
      have g4 : (upd K3 b4 (.tup [.str "give"])) b4 = some (.tup [.str "give"]) := upd_same
      generalize upd K3 b4 (.tup [V.str "give"]) = K4 at v4 g4 ⊢
      refine ⟨few (by show 1 ≤ 1000; decide), fun b5 m5 => ?_⟩
      have v5 := same_new (u := .tup [.str "give"]) (same_id (H := K4)) m5
      have g5 : (upd K4 b5 (.tup [.str "give"])) b5 = some (.tup [.str "give"]) := upd_same
      generalize upd K4 b5 (.tup [V.str "give"]) = K5 at v5 g5 ⊢
      refine ⟨few (by show 2 ≤ 1000; decide), fun b6 m6 => ?_⟩
      have v6 := same_new (u := .lst [.ref b5, .non]) (same_id (H := K5)) m6
      have g6 : (upd K5 b6 (.lst [.ref b5, .non])) b6 = some (.lst [.ref b5, .non]) := upd_same
      generalize upd K5 b6 (.lst [V.ref b5, .non]) = K6 at v6 g6 ⊢
      refine fun b7 m7 => ?_
      have v7 := same_new (u := .dK []) (same_id (H := K6)) m7
      refine ⟨upd_same, [(Sum.inr "a", .int 1)], rfl, by decide, few (by show 10 ≤ 1000; decide), fun LL mL => ?_⟩
      have w7 : Same H7 (upd (upd K6 b7 (.dK [])) b7 (.dK (mergeK [] [(Sum.inr "a", .int 1)]))) := fun b o e => by
        have e6 := v6 _ _ (v5 _ _ (v4 _ _ (v3 _ _ (v2 _ _ (v1 _ _ e)))))
        have hb : b ≠ b7 := ne_of_none e6 m7
        rw [upd_ne hb, upd_ne hb]
        exact e6
      have up7 : ∀ b o, K6 b = some o → (upd (upd K6 b7 (.dK [])) b7 (.dK (mergeK [] [(Sum.inr "a", .int 1)]))) b = some o := fun b o e => by
        have hb : b ≠ b7 := ne_of_none e m7
        rw [upd_ne hb, upd_ne hb]
        exact e
      have g7 : (upd (upd K6 b7 (.dK [])) b7 (.dK (mergeK [] [(Sum.inr "a", .int 1)]))) b7 = some (.dK (mergeK [] [(Sum.inr "a", .int 1)])) := upd_same
      generalize upd (upd K6 b7 (.dK [])) b7 (.dK (mergeK [] [((Sum.inr "a" : Key), V.int 1)])) = K7 at w7 up7 g7 mL ⊢
      have v8 := same_new (u := .lst [.non, .int 0, .str "give", .ref b1, .bl true, .ref b2, .ref b3, .ref b4, .ref b6, .ref b7]) (same_id (H := K7)) mL
      have t8 := t7.same (w7.trans v8)
      have nd7 : ∀ {b : Addr} {o : HO}, K7 b = some o → H7 b = none → b ≠ d := fun e1 e2 e3 => by
        obtain ⟨⟨o, ho⟩, _⟩ := t7.at
        rw [e3, ho] at e2
        cases e2
      refine ⟨d, l2, LL, 400 * n + 1, _, rfl, t8, by omega, upd_same, by simp, by show 10 < 1000000; decide, fun H9 ov b9 t9 hov => ?_⟩
      have old : ∀ b o, b ≠ d → K6 b = some o → H9 b = some o := fun b o hb e => b9 _ _ hb (v8 _ _ (up7 _ _ e))
      have r1 := (np_tape t7 m1).1
      have r2 := (np_tape (t7.same v1) m2).1
      have r3 := (np_tape (t7.same (v1.trans v2)) m3).1
      have r4 := (np_tape (t7.same (v1.trans (v2.trans v3))) m4).1
      have r5 := (np_tape (t7.same (v1.trans (v2.trans (v3.trans v4)))) m5).1
      have r6 := (np_tape (t7.same (v1.trans (v2.trans (v3.trans (v4.trans v5))))) m6).1
      have r7 := (np_tape (t7.same (v1.trans (v2.trans (v3.trans (v4.trans (v5.trans v6)))))) m7).1
      have oc : Oc K H9 ov := by
        simp only [List.mem_cons, List.not_mem_nil, or_false] at hov
        rcases hov with rfl | rfl | rfl | rfl | rfl | rfl | rfl | rfl | rfl | rfl
        · exact oc_non
        · exact oc_int
        · exact oc_str
        · exact oc_dct (old _ _ r1 (v6 _ _ (v5 _ _ (v4 _ _ (v3 _ _ (v2 _ _ g1))))))
        · exact oc_bl
        · exact oc_row (.inr (SqT.of (old _ _ r2 (v6 _ _ (v5 _ _ (v4 _ _ (v3 _ _ g2))))))) .nil (by simp [oddRows])
        · exact oc_row (.inl (old _ _ r3 (v6 _ _ (v5 _ _ (v4 _ _ g3))))) .nil (by simp [oddRows])
        · exact oc_row (.inr (SqT.of (old _ _ r4 (v6 _ _ (v5 _ _ g4))))) (.cons (.str _) .nil) (by simp [oddRows])
        · exact oc_row (.inl (old _ _ r6 g6)) (.cons (.tup (SqT.of (old _ _ r5 (v6 _ _ g5))) (.cons (.str _) .nil)) (.cons .non .nil)) (by simp [oddRows, giveT])
        · exact oc_dct (b9 _ _ r7 (v8 _ _ g7))
      clear old r1 r2 r3 r4 r5 r6 r7 hov m1 m2 m3 m4 m5 m6 m7 mL nd7 up7 g1 g2 g3 g4 g5 g6 g7 b9 t9 t8
      dsimp only [gName]
      refine ret_run ⟨_, rfl, ?_⟩
      dsimp only [tNil]
      refine oc.sp fun H10 s10 => ⟨_, .bool false, rfl, .bl _, (bool_shown _).1, (bool_shown _).2, rfl, ?_⟩
      rw [decide_eq_true (show V.str (PyData.bool false).shown = V.str "False" from congrArg V.str (by decide +kernel))]
      refine ⟨_, rfl, iteT ⟨few (by show 1 ≤ 1000; decide), fun c1 n1 => ⟨few (by show 1 ≤ 1000; decide), fun c2 n2 => ?_⟩⟩⟩
      have x1 := (same_new (u := .lst [.ref c1]) (same_id (H := _)) n2) _ _ upd_same
      have okG : ∀ t ∈ [giveT], okR t := fun t ht => by
        rw [List.mem_singleton.mp ht]
        exact okR_give
      have hgv : PvL K (upd (upd H10 c1 (.tup [.str "give"])) c2 (.lst [.ref c1])) [.ref c1] [giveP] := .cons (.tup (SqT.of x1) (.cons (.str _) .nil)) .nil
      have hgd := pv_dvL hgv
      rw [show ofPL [giveP] = [giveT] by simp [giveP, giveT, ofP, ofPL]] at hgd
      refine code_made (.inl upd_same) hgd okG (by show 1 ≤ 1000; decide) (by decide +kernel) fun H' y sy ny hy => ⟨rfl, ?_⟩
      obtain ⟨dy, Ty, hy1, hy2⟩ := hy
      refine ⟨y, dy, _, rfl, hy1, y, [.ref c1], rfl, ⟨dy, Ty, hy1, hy2⟩, fun T2 hT2 => ⟨few (by show 1 ≤ 1000; decide), fun c3 n3 => ⟨few (by show 1 ≤ 1000; decide), fun c4 n4 => ?_⟩⟩⟩
      have y4 := same_new (u := .tup [.ref c3]) (same_id (H := _)) n4
      have y3 := same_new (u := .tup [.str "give"]) (same_id (H := H')) n3
      have yy := y3.trans y4
      have shG : SeqAt.shaped (.tuple [giveP]) = true := by decide +kernel
      have egg : PyData.eqv (.tuple [giveP]) (.tuple [giveP]) = true := by decide +kernel
      refine ⟨.tuple [giveP], .tuple [giveP], .tup (same_seqT yy hT2) (pv_dpL (pvLM (sy.trans yy) hgv)), .tup (SqT.of upd_same) (.cons (.tup (SqT.of (y4 _ _ upd_same)) (.cons (.str _) .nil)) .nil), shG, shG, ?_⟩
      rw [egg]
      exact q _
end
end Toy


namespace Toy
open PySem PySem.Spec L2 PyProof.Rows PySem.W
/-! ### a class with its own == and no own !=, seen in the head's answer -/
def nsB (K : PySem.W.Frag) (N f : Addr) : Bool := match K.lookup N with
  | some o => (match o.data with
    | .dict es _ => es.all (fun e => match e.key with | .str _ _ => true | _ => false) && (decide (nsFind es "__eq__" = some (.ref f)) && decide (nsFind es "__ne__" = none))
    | _ => false)
  | none => false
def slotB : List (Option Value) → Bool
  | [_, _, _, _, some (.builtin _), _] => true
  | _ => false
theorem slotB_ok {sl : List (Option Value)} (h : slotB sl = true) : ∃ k0 k1 k2 k3 id k5, sl = [k0, k1, k2, k3, some (.builtin id), k5] := by
  unfold slotB at h
  split at h
  · exact ⟨_, _, _, _, _, _, rfl⟩
  · cases h
def neB (K : PySem.W.Frag) (C f : Addr) : Bool := match K.lookup C with
  | some o => (match o.data with
    | .cls ci => o.cls == .type "type" && (decide (ci.mro = [.ref C, .type "object"]) && (!ci.hasDel && (slotB o.slots.toList && (nsB K ci.ns f && (match K.lookup f with | some p => p.cls == .type "function" | none => false)))))
    | _ => false)
  | none => false
theorem neC_ok {K : PySem.W.Frag} {C f : Addr} (h : neB K C f = true) : NeC K C f := by
  refine ⟨fun H x o hK hx hc => ?_⟩
  unfold neB at h
  cases hC : K.lookup C with
  | none => rw [hC] at h; cases h
  | some oc =>
    rw [hC] at h
    dsimp only at h
    obtain ⟨cls, dd, data, slots⟩ := oc
    dsimp only at h
    cases data with
    | cls ci =>
      dsimp only at h
      simp only [Bool.and_eq_true, decide_eq_true_eq, beq_iff_eq] at h
      obtain ⟨h1, h2, h3, h4, h5, h6⟩ := h
      obtain ⟨sl⟩ := slots
      obtain ⟨nm, bs, mro, N, q, hdct, sn, sub, ab, col, hasDel⟩ := ci
      dsimp only at h1 h2 h3 h4 h5
      subst h1 h2
      have h3 : hasDel = false := by simpa using h3
      subst h3
      obtain ⟨k0, k1, k2, k3, id, k5, e⟩ := slotB_ok h4
      have e : sl = [k0, k1, k2, k3, some (.builtin id), k5] := e
      subst e
      unfold nsB at h5
      cases hN : K.lookup N with
      | none => rw [hN] at h5; cases h5
      | some on =>
        rw [hN] at h5
        dsimp only at h5
        cases hd : on.data with
        | dict es ep =>
          rw [hd] at h5
          dsimp only at h5
          simp only [Bool.and_eq_true, decide_eq_true_eq] at h5
          obtain ⟨g1, g2, g3⟩ := h5
          cases hf : K.lookup f with
          | none => rw [hf] at h6; cases h6
          | some of =>
            rw [hf] at h6
            have h6 : of.cls = .type "function" := by simpa using h6
            have hB : ∃ y, typeLookup (.type "object") "__eq__" = pure y := ⟨some (.builtin "object.__eq__"), by rw [typeLookup_type, builtinLookup_eq_fast]; kernel_rfl⟩
            obtain ⟨y, hB⟩ := hB
            refine ⟨o, of, nm, q, N, bs, hdct, sn, sub, ab, col, dd, k0, k1, k2, k3, k5, id, nsFind es, y, hx, hc, hK _ _ hC, ⟨on, es, ep, hK _ _ hN, hd, fun e he => ?_, fun _ => rfl⟩, g2, hK _ _ hf, h6, PySem.F.mro_object, hB, g3⟩
            have z := Array.all_eq_true'.mp g1 e he
            cases hk : e.key with
            | str a t => exact ⟨a, t, rfl⟩
            | _ => rw [hk] at z; cases z
        | _ => rw [hd] at h5; cases h5
    | _ => dsimp only at h; cases h
end Toy


namespace Toy
open PySem PySem.Spec PyProof.Rows L2
/-! ### the head: what the top has written, as one answer -/
def freeB (K : PySem.W.Frag) (c : Addr) (f : Str) : Bool := decide (PySem.W.takerIn K c f = some none) && He.eqO (PySem.W.findIn K (.ref c) f) (some none)
def btL : List Value := [.type "ValueError", .type "Exception", .type "BaseException", .type "object"]
def ownB (K : PySem.W.Frag) (c fi : Addr) : Bool :=
  PySem.W.excInitIn K c btL "ValueError.__new__" && (PySem.W.excOver K c btL && (PySem.W.hasDictIn K c && (He.eqO (PySem.W.findIn K (.ref c) "__setattr__") (some (some (.builtin "object.__setattr__"))) &&
  (He.eqO (PySem.W.findIn K (.ref c) "__getattribute__") (some (some (.builtin "BaseException.__getattribute__"))) && (He.eqO (PySem.W.findIn K (.ref c) "__getattr__") (some none) && (decide (PySem.W.subIn K (.ref c) (.type "BaseException") = some true) &&
  (PySem.W.keepIn K (.ref c) && (He.eqO (PySem.W.findIn K (.ref c) "__init__") (some (some (.ref fi))) && (decide (PySem.W.typeIn K (.ref fi) = some (.type "function")) && (He.eqO (PySem.W.findIn K (.ref c) "__class__") (some (some (.builtin "object.__class__"))) &&
  decide (PySem.W.mroIn K c (.type "object") = some true)))))))))))
def CT (K : PySem.W.Frag) : Addr := He.ga K "InvalidCode"
def CC (K : PySem.W.Frag) : Addr := He.ga K "Code"
def clsB (K : PySem.W.Frag) : Bool := ownB K (CT K) (He.ma K (CT K) "__init__") && (freeB K (CT K) "index" && (decide (PySem.W.kitOne K (.ref (CT K)) (.type "ValueError") = some true) && (decide (PySem.W.exmOne K (.ref (CT K)) (.ref (CT K)) = some true) && (decide (PySem.W.typeIn K (.ref (CT K)) = some (.type "type")) &&
  (decide (PySem.W.specialIn K (.builtin "object.__class__") "__get__" = some (some (.builtin "getset_descriptor.__get__"))) && decide (PySem.W.takesIn K (.builtin "object.__class__") = some true))))))
def txtOf : Value → Option Str
  | .str x _ => some x
  | _ => none
theorem words_vals : ∀ {us : List Value} {xs : List Str}, us.map txtOf = xs.map some → Vals (xs.map V.str) us
  | [], [], _ => .nil
  | [], _ :: _, h => by simp at h
  | _ :: _, [], h => by simp at h
  | u :: us, x :: xs, h => by
    simp only [List.map_cons, List.cons.injEq] at h
    refine .cons ?_ (words_vals h.2)
    cases u with
    | str y t =>
      obtain rfl := Option.some.inj h.1
      exact ⟨t, rfl⟩
    | _ => simp [txtOf] at h
def tpB (K : PySem.W.Frag) (a : Addr) (xs : List Str) : Bool := match K.lookup a with
  | some ⟨cls, none, .seq vs _, _⟩ => cls == .type "tuple" && decide (vs.toList.map txtOf = xs.map some)
  | _ => false
def tpB2 (K : PySem.W.Frag) (v : Value) (xs : List Str) : Bool := match v with
  | .ref a => tpB K a xs
  | _ => false
theorem tpB_ok {K : PySem.W.Frag} {a : Addr} {xs : List Str} (h : tpB K a xs = true) (hz : xs.length ≤ 1000) : TupK K a xs := by
  unfold tpB at h
  split at h
  · rename_i cls vs n sl e
    rw [Bool.and_eq_true] at h
    have h2 := of_decide_eq_true h.2
    have hl : vs.toList.length = xs.length := by
      have := congrArg List.length h2
      simpa using this
    have hc : cls = .type "tuple" := eq_of_beq h.1
    exact fun H => .inr ⟨_, vs, n, e, hc, rfl, few (by rw [← Array.length_toList]; omega), words_vals h2⟩
  · cases h
def keysB (K : PySem.W.Frag) (d : Addr) (ks : List Str) : Bool := match K.lookup d with
  | some ⟨_, _, .dict es _, _⟩ => es.toList.all fun e => !e.refKey && (match e.key with
    | .str y _ => decide (y ∈ ks)
    | _ => true)
  | _ => false
theorem keysB_ok {K : PySem.W.Frag} {d : Addr} {ks : List Str} (h : keysB K d ks = true) {x : Str} (hx : x ∉ ks) : PySem.W.nsIn K d x = some none := by
  unfold keysB at h
  unfold PySem.W.nsIn
  split at h
  · rename_i es n sl e
    rw [List.all_eq_true] at h
    have h1 : es.toList.find? (·.key.isStr x) = none := by
      rw [List.find?_eq_none]
      intro e he hs
      have z := h e he
      rw [Bool.and_eq_true] at z
      cases hk : e.key with
      | str y t =>
        rw [hk] at hs
        have e2 : y = x := eq_of_beq hs
        have z2 := z.2
        rw [hk] at z2
        exact hx (e2 ▸ of_decide_eq_true z2)
      | _ => rw [hk] at hs; cases hs
    have h2 : es.toList.any (·.refKey) = false := by
      rw [List.any_eq_false]
      intro e he
      have z := h e he
      rw [Bool.and_eq_true] at z
      have z1 := z.1
      intro q
      rw [q] at z1
      cases z1
    rw [e]
    simp only [h1, h2]
    rfl
  · cases h
theorem form_not {x : Str} (h : formOf x = none) : x ∉ formsL.map (·.1) := by
  intro hm
  obtain ⟨p, hp, rfl⟩ := List.mem_map.mp hm
  have : (formsL.lookup p.1).isSome = true := by
    have : ∀ p ∈ formsL, (formsL.lookup p.1).isSome = true := by decide +kernel
    exact this p hp
  rw [show formsL.lookup p.1 = none from h] at this
  cases this
theorem row_not {x : Str} (h : rowF x = none) : x ∉ rowsL.map (·.1) := by
  intro hm
  obtain ⟨p, hp, rfl⟩ := List.mem_map.mp hm
  have : (rowsL.lookup p.1).isSome = true := by
    have : ∀ p ∈ rowsL, (rowsL.lookup p.1).isSome = true := by decide +kernel
    exact this p hp
  rw [show rowsL.lookup p.1 = none from h] at this
  cases this
def tabB (K : PySem.W.Frag) (d : Addr) (l : List (Str × List Str)) : Bool := keysB K d (l.map (·.1)) && l.all fun p => match PySem.W.nsIn K d p.1 with
  | some (some v) => tpB2 K v p.2
  | _ => false
theorem tab_ok {K : PySem.W.Frag} {w : World} {d : Addr} {l : List (Str × List Str)} (D : ∃ es n, KDict K w d es n) (hl : ∀ p ∈ l, p.2.length ≤ 1000) (h : (l.all fun p => match PySem.W.nsIn K d p.1 with
  | some (some v) => tpB2 K v p.2
  | _ => false) = true) : ∀ p ∈ l, ∃ a, KDct K w d p.1 (.ref a) ∧ ∀ H, SqT K H a (p.2.map V.str) := by
  obtain ⟨es, n, D⟩ := D
  intro p hp
  have z := List.all_eq_true.mp h p hp
  cases e : PySem.W.nsIn K d p.1 with
  | none => rw [e] at z; cases z
  | some r =>
    cases r with
    | none => rw [e] at z; cases z
    | some v =>
      rw [e] at z
      cases v with
      | ref a => exact ⟨a, ⟨es, n, .ref a, D.at_, D.lit, e, rfl⟩, tpB_ok z (hl p hp)⟩
      | _ => simp [tpB2] at z
/-! the class Code -/
abbrev R : PySem.W.OpenRow := PySem.W.OpenLaw.row PySem.Challenge.rw_sieveways_k66_codes_by_form
def PR (K : PySem.W.Frag) : Addr := He.ma K (CC K) "rows"
def FG (K : PySem.W.Frag) : Addr := match PySem.W.recIn K (PR K) "property" with
  | some (.ref g :: _) => g
  | _ => 0
def recB (K : PySem.W.Frag) : Bool := match PySem.W.recIn K (PR K) "property" with
  | some (.ref _ :: _) => true
  | _ => false
def propB (K : PySem.W.Frag) : Bool := He.eqO (PySem.W.findIn K (.ref (CC K)) "rows") (some (some (.ref (PR K)))) && (He.eqO (PySem.W.specialIn K (.ref (PR K)) "__get__") (some (some (.builtin "property.__get__"))) && (decide (PySem.W.takesIn K (.ref (PR K)) = some true) && (recB K && PySem.W.keepIn K (.ref (FG K)))))
def codeB (K : PySem.W.Frag) : Bool := decide (PySem.W.mroIn K (CC K) (.type "object") = some true) && (He.eqO (PySem.W.findIn K (.ref (CC K)) "__class__") (some (some (.builtin "object.__class__"))) && (decide (PySem.W.kitOne K (.ref (CC K)) (.ref (CC K)) = some true) && (decide (PySem.W.kitOne K (.type "tuple") (.ref (CC K)) = some false) && (decide (PySem.W.subIn K (.type "tuple") (.ref (CC K)) = some false) && neB K (CC K) (He.ma K (CC K) "__eq__")))))
abbrev FnC : Type := Option (Str × Str × Arguments × FuncBody × Scope × Addr × List Str × Value × Addr)
def fnC (K : PySem.W.Frag) : FnC := match K.lookup (FG K) with
  | some ⟨_, _, .func fd, _⟩ => some (fd.name, fd.qualname, fd.params, fd.body, fd.scope, fd.globals, fd.closure.map Prod.fst, fd.defaults, fd.builtins)
  | _ => none
def crV : FnC := some ("rows", "Code.rows", defArgs sCr, .stmts (defBody sCr), defScope sCr, mainGlobals, [], .none, builtinsNs)
def crB (K : PySem.W.Frag) : Bool := match K.lookup (FG K) with
  | some ⟨_, _, .func fd, _⟩ => PySem.W.codeIn K fd.code "Code.rows"
  | _ => false
def tupsB (K : PySem.W.Frag) : Bool := tpB K (He.ga K "PART_KINDS") kinds4 && (tpB K (He.ga K "WORDS") wordsL && (tpB K (He.ga K "SORTS") sortsL && (tpB K (He.ga K "TESTS") testsL && (tpB K (He.ga K "WALKS") walksL && (tpB K (He.ga K "CHOOSERS") choosersL && tpB K (He.ga K "ENDS") endsL)))))
def exB (K : PySem.W.Frag) : Bool := clsB K && (codeB K && (propB K && (crB K && (tupsB K && (tabB K (He.ga K "FORMS") formsL && tabB K (He.ga K "ROWS") rowsL)))))
def ts : List He.Tab := [(fun K => He.ga K "FORMS", formsL.map (·.1)), (fun K => He.ga K "ROWS", rowsL.map (·.1))]
def tf : List He.Defn := []
def mOf (x m q : Str) (st : Stmt) : He.DefD := ⟨(x, some m), m, q, defArgs st, defBody st, defScope st, [], []⟩
def haOf (x y : Str) (st : Stmt) : He.DefD := ⟨(x, none), y, y, defArgs st, defBody st, defScope st, [], []⟩
def hdOf (x : Str) (st : Stmt) : He.DefD := ⟨(x, none), x, x, defArgs st, defBody st, defScope st, [], []⟩
def fn0 : List He.DefD := [hdOf "is_integer" sIsInt, hdOf "is_name" sName, hdOf "is_free_name" sFree, hdOf "is_leaf" sLeafV, hdOf "_is_text" sTxt, hdOf "begins_kind" sBeg, hdOf "narrowed" sNar, hdOf "kinds_and_parts" sKP, hdOf "is_test" sIT, hdOf "_is_of_kind" sOK, hdOf "_has_form" sHF, haOf "is_field_filters" "_is_field" sFld, hdOf "is_index" sIdx, hdOf "_are_entries" sEnts, hdOf "_are_unlike" sUnl, hdOf "is_told_alike" sTa]
def fn1 : List He.DefD := [hdOf "is_code" sIc, hdOf "_first_wrong" sFw, hdOf "_is_row" sIr, haOf "is_field_code" "_is_field" sFc, hdOf "_law_begin" sBegin, hdOf "_law_draw" sDraw, hdOf "_law_pick" sPick, hdOf "_law_start" sStart, hdOf "_law_leaf" sLeaf, hdOf "_law_test" sTest, hdOf "_law_both_tests" sBoth, hdOf "_law_walk" sWalk, hdOf "_law_row" sRow, hdOf "_law_wrong" sWrong, hdOf "_law_is_right_number" sRn, hdOf "_law_index" sIx]
def fn2 : List He.DefD := [hdOf "_law_is_step" sSp, hdOf "_law_refused" sRf, hdOf "law" sLaw, mOf "Code" "__init__" "Code.__init__" sCi, mOf "Code" "__len__" "Code.__len__" sCl, mOf "Code" "__iter__" "Code.__iter__" sCt, mOf "Code" "__eq__" "Code.__eq__" sCe, mOf "InvalidCode" "__init__" "InvalidCode.__init__" (inClass (top 1) 0)]
def fn : List He.DefD := fn0 ++ fn1 ++ fn2
def fa0 : List He.Fa := [.glo "is_integer", .glo "is_name", .glo "is_free_name", .glo "is_leaf", .glo "_is_text", .glo "begins_kind", .glo "narrowed", .glo "kinds_and_parts", .glo "is_test", .glo "_is_of_kind", .glo "_has_form", .glo "is_field_filters", .glo "is_index", .glo "_are_entries", .glo "_are_unlike", .glo "is_told_alike"]
def fa1 : List He.Fa := [.glo "is_code", .glo "_first_wrong", .glo "_is_row", .glo "is_field_code", .glo "_law_begin", .glo "_law_draw", .glo "_law_pick", .glo "_law_start", .glo "_law_leaf", .glo "_law_test", .glo "_law_both_tests", .glo "_law_walk", .glo "_law_row", .glo "_law_wrong", .glo "_law_is_right_number", .glo "_law_index"]
def fa2 : List He.Fa := [.glo "_law_is_step", .glo "_law_refused", .glo "law", .glo "Code", .glo "InvalidCode", .glo "FORMS", .glo "TESTS", .glo "WALKS", .glo "CHOOSERS", .glo "PART_KINDS", .glo "WORDS", .glo "SORTS", .glo "ROWS", .glo "ENDS", .int "MOST_LETTERS_words" 8, .int "GREATEST" 1000000000000000000000000000000]
def fa3 : List He.Fa := [.int "MOST_LETTERS_data" 200, .int "PERCENT_SIGN" 37, .int "MOST_SPOTS" 200, .int "MOST_LEVELS" 40, .int "MOST_INDEX" 99, .int "MOST_HANDED" 3, .free "len", .free "int", .free "bool", .free "str", .free "list", .free "range", .free "min", .free "repr", .free "ord", .free "isinstance"]
def fa4 : List He.Fa := [.free "all", .free "tuple", .free "zip", .free "set", .free "iter", .free "enumerate", .free "ValueError", .cls "Code", .mkr "Code", .noat "Code" "_rows", .meth "Code" "__len__", .meth "Code" "__iter__", .meth "Code" "__eq__"]
def fa : List He.Fa := fa0 ++ fa1 ++ fa2 ++ fa3 ++ fa4
/-! what the module's names reach -/
def frS (g : Addr → Option Obj) : PySem.W.Frag := He.frT g (cStatics :: He.asD g 5)
def obK (g : Addr → Option Obj) : He.AlX := (He.obsT fa fn ts (frS g), exB (frS g) && He.tabsB g tf (frS g))
theorem sayK {w : World} {h : Heap} (e : obK h.get? = He.valX fn ts w) : He.SaysX fa fn ts tf exB w h (frS h.get?) := by
  have e1 : He.obsT fa fn ts (frS h.get?) = He.valT fn ts w := (Prod.mk.inj e).1
  obtain ⟨e2, e3⟩ := He.ba (show (exB (frS h.get?) && He.tabsB h.get? tf (frS h.get?)) = true from (Prod.mk.inj e).2)
  have hall : ∀ p ∈ tf, PySem.W.codeHdIn (frS h.get?) (He.cT (frS h.get?) p).1 (He.cT (frS h.get?) p).2 = true ∧ ∃ o, h.get? (He.cT (frS h.get?) p).2 = some o ∧ He.emptyTab o = true := by
    intro p hp
    obtain ⟨a1, a2⟩ := He.ba (List.all_eq_true.mp e3 p hp)
    refine ⟨a1, ?_⟩
    revert a2
    cases h.get? (He.cT (frS h.get?) p).2 with
    | none => exact fun z => by cases z
    | some o => exact fun z => ⟨o, rfl, z⟩
  refine ⟨e1, e2, fun p hp => (hall p hp).1, fun p hp => ?_, fun p hp => ?_⟩
  · obtain ⟨_, o, z1, z2⟩ := hall p hp
    exact He.frT_none z1 z2
  · obtain ⟨_, o, z1, z2⟩ := hall p hp
    rw [z1, He.emptyTab_eq z2]
def hk : PySem.W.Hook where
  α := He.AlX × FnC
  obs := fun s => (obK s.heap.get?, fnC (frS s.heap.get?))
  val := fun w => (He.valX fn ts w, crV)
  says := fun w h => ∃ K : PySem.W.Frag, K.In h ∧ He.SaysX fa fn ts tf exB w h K ∧ fnC K = crV
  of := fun _ _ e => ⟨_, He.frT_in, sayK (Prod.mk.inj e).1, (Prod.mk.inj e).2⟩
  keeps := fun _ _ _ ⟨K, hK, c, c2⟩ k => ⟨K, PySem.W.Frag.In.keeps hK k, ⟨c.t, c.more, c.hd, c.out, fun p hp => k _ _ (c.empty p hp)⟩, c2⟩
def ob (s : PySem.W.SharedT) : He.AlX × FnC := (obK (HandSHeadRun.getT s), fnC (frS (HandSHeadRun.getT s)))
theorem ob_eq (s : PySem.W.SharedT) : ob s = hk.obs s.abs := by
  have e : HandSHeadRun.getT s = s.abs.heap.get? := funext (HandSHeadRun.getT_eq s)
  show (obK (HandSHeadRun.getT s), fnC (frS (HandSHeadRun.getT s))) = (obK s.abs.heap.get?, fnC (frS s.abs.heap.get?))
  rw [e]
def looseX : List Str := ["_wall"]
def looseN0 : List Str := ["is_integer", "is_name", "is_free_name", "is_leaf", "_is_text", "begins_kind", "narrowed", "kinds_and_parts", "is_test", "_is_of_kind", "_has_form", "is_field_filters", "is_index", "_are_entries", "_are_unlike", "is_told_alike", "is_code", "_first_wrong"]
def looseN1 : List Str := ["_is_row", "is_field_code", "_law_begin", "_law_draw", "_law_pick", "_law_start", "_law_leaf", "_law_test", "_law_both_tests", "_law_walk", "_law_row", "_law_wrong", "_law_is_right_number", "_law_index", "_law_is_step", "_law_refused", "_is_field", "Code"]
def looseN2 : List Str := ["InvalidCode", "FORMS", "TESTS", "WALKS", "CHOOSERS", "PART_KINDS", "WORDS", "SORTS", "ROWS", "ENDS", "MOST_LETTERS_words", "GREATEST", "MOST_LETTERS_data", "PERCENT_SIGN", "MOST_SPOTS", "MOST_LEVELS", "MOST_INDEX", "MOST_HANDED"]
def looseN : List Str := looseN0 ++ looseN1 ++ looseN2
end Toy


namespace Toy
open PySem PySem.Spec PyProof.Rows L2
/-! a text's hash asks the world whether a special's get may raise: the run is told for either answer -/
def wB (b : Bool) (w : World) : World := ⟨w.draws, {w.params with followText := fun x => match decide (x = "special-get-raises") with | true => b | false => w.params.followText x}⟩
theorem wB_eq (w : World) : wB (w.params.followText "special-get-raises") w = w := by
  have e : (fun x => match decide (x = "special-get-raises") with | true => w.params.followText "special-get-raises" | false => w.params.followText x) = w.params.followText := by
    funext x
    by_cases h : x = "special-get-raises"
    · subst h; rfl
    · rw [decide_eq_false h]
  unfold wB
  rw [e]
theorem runT (w : World) : HandSHeadRun.RunEq R (PySem.W.view R.prog [63]) hk ob 9000 looseN (wB true w) := by
  intro os
  kernel_rfl
theorem runF (w : World) : HandSHeadRun.RunEq R (PySem.W.view R.prog [63]) hk ob 9000 looseN (wB false w) := by
  intro os
  kernel_rfl
theorem run (w : World) : HandSHeadRun.RunEq R (PySem.W.view R.prog [63]) hk ob 9000 looseN w := by
  have z := wB_eq w
  cases h : w.params.followText "special-get-raises" with
  | true =>
    rw [h] at z
    exact (congrArg (HandSHeadRun.RunEq R (PySem.W.view R.prog [63]) hk ob 9000 looseN) z).mp (runT w)
  | false =>
    rw [h] at z
    exact (congrArg (HandSHeadRun.RunEq R (PySem.W.view R.prog [63]) hk ob 9000 looseN) z).mp (runF w)
end Toy


namespace Toy
open PySem PySem.Spec PyProof.Rows L2 PySem.KX
/-! ### the facts, read off the head's answer -/
theorem fun_of {K : PySem.W.Frag} {x q : Str} {st : Stmt} {f : Addr} {fd : FuncData} (F : FunD K x q (defArgs st) (defBody st) (defScope st) [] [] f fd) : Fun K x q st f fd := by
  obtain ⟨oc, od, dV, kV, doc, pm, an, cdv, ct, osl, rfl, lk, hcd, hD, _⟩ := F.ex
  rcases hD with ⟨_, rfl⟩ | ⟨e, _⟩
  · exact ⟨⟨oc, od, kV, doc, pm, an, cdv, ct, osl, rfl, lk, hcd⟩, F.kp⟩
  · exact absurd rfl e
theorem and2 {a b : Bool} (h : (a && b) = true) : a = true ∧ b = true := Bool.and_eq_true_iff.mp h
section
variable {K : PySem.W.Frag} (c : clsB K = true)
include c
theorem ex_own : Own K (CT K) (He.ma K (CT K) "__init__") "ValueError" "ValueError.__new__" "ValueError.__init__" btL := by
  obtain ⟨o, h⟩ := and2 c
  obtain ⟨_, h⟩ := and2 h
  obtain ⟨_, h⟩ := and2 h
  obtain ⟨_, h⟩ := and2 h
  obtain ⟨_, h⟩ := and2 h
  obtain ⟨s1, s2⟩ := and2 h
  obtain ⟨o1, o⟩ := and2 o
  obtain ⟨o2, o⟩ := and2 o
  obtain ⟨o3, o⟩ := and2 o
  obtain ⟨o4, o⟩ := and2 o
  obtain ⟨o5, o⟩ := and2 o
  obtain ⟨o6, o⟩ := and2 o
  obtain ⟨o7, o⟩ := and2 o
  obtain ⟨o8, o⟩ := and2 o
  obtain ⟨o9, o⟩ := and2 o
  obtain ⟨o10, o⟩ := and2 o
  obtain ⟨o11, o12⟩ := and2 o
  exact ⟨PySem.F.excBase_ValueError, PySem.F.store_ValueError, o1, o2, o3, He.eqO_ok o4, He.eqO_ok o5, He.eqO_ok o6, of_decide_eq_true o7, o8, He.eqO_ok o9, of_decide_eq_true o10, He.eqO_ok o11, of_decide_eq_true s1, of_decide_eq_true s2, of_decide_eq_true o12⟩
theorem ex_free : Free K (CT K) "index" := by
  obtain ⟨_, h⟩ := and2 c
  obtain ⟨h, _⟩ := and2 h
  obtain ⟨a, b⟩ := and2 h
  exact ⟨of_decide_eq_true a, He.eqO_ok b⟩
theorem ex_clsI : ClsI K (CT K) := by
  have o := ex_own c
  obtain ⟨_, h⟩ := and2 c
  obtain ⟨_, h⟩ := and2 h
  obtain ⟨h1, h⟩ := and2 h
  obtain ⟨h2, _⟩ := and2 h
  exact ⟨⟨o.ga, o.gg, o.exc, o.dct, o.cA, o.cN, o.cT, o.cM⟩, ⟨o.ga, o.gg, o.exc, o.dct⟩, (ex_free c).n, of_decide_eq_true h2, of_decide_eq_true h1⟩
theorem ex_clR : ClR K (CT K) := by
  have o := ex_own c
  obtain ⟨_, h⟩ := and2 c
  obtain ⟨_, h⟩ := and2 h
  obtain ⟨_, h⟩ := and2 h
  obtain ⟨_, h⟩ := and2 h
  obtain ⟨h1, _⟩ := and2 h
  exact ⟨o.exc, of_decide_eq_true h1⟩
end
/-- the maker of a class of one field -/
theorem mk_cl1 {K : PySem.W.Frag} (c : clsB K = true) {qual : Str} {fd : FuncData} {a1 a2 q1 q2 q3 q4 : Pos}
    (F : FunD K "__init__" qual (argsOf [arg1 "self" a1, arg1 "index" a2]) [setS "index" q1 q2 q3 q4] (scOf ["self", "index"]) [] [] (He.ma K (CT K) "__init__") fd)
    (b1 : ∀ (kV doc pm : Value) (an : Option Addr) (cdv ct self v : Value), bindArgs (PySem.W.fnOf "__init__" qual (argsOf [arg1 "self" a1, arg1 "index" a2]) [setS "index" q1 q2 q3 q4] (scOf ["self", "index"]) .none kV doc pm an cdv ct) ⟨[self, v], []⟩ = pure [(("self" : Str), self), ("index", v)])
    (b2 : ∀ (kV doc pm : Value) (an : Option Addr) (cdv ct self v : Value), bindArgs (PySem.W.fnOf "__init__" qual (argsOf [arg1 "self" a1, arg1 "index" a2]) [setS "index" q1 q2 q3 q4] (scOf ["self", "index"]) .none kV doc pm an cdv ct) ⟨[self], [("index", v)]⟩ = pure [(("self" : Str), self), ("index", v)]) : Cl1 K (CT K) "index" := by
  have O := ex_own c
  refine ⟨⟨_, _, _, _, _, qual, fd, a1, a2, q1, q2, q3, q4, O, F, ?_⟩, ex_free c, by decide +kernel, by decide +kernel, O.kp⟩
  obtain ⟨oc, od, dV, kV, doc, pm, an, cdv, ct, osl, rfl, lk, hcd, hD, _⟩ := F.ex
  rcases hD with ⟨_, rfl⟩ | ⟨e, _⟩
  · exact ⟨fun s self v => .of_eq (b1 kV doc pm an cdv ct (.ref self) v), fun s self v => .of_eq (b2 kV doc pm an cdv ct (.ref self) v)⟩
  · exact absurd rfl e
theorem cr_ok {K : PySem.W.Frag} (e : fnC K = crV) (h : crB K = true) (hk : PySem.W.keepIn K (.ref (FG K)) = true) : ∃ fd, Fun K "rows" "Code.rows" sCr (FG K) fd := by
  unfold fnC at e
  unfold crB at h
  cases q : K.lookup (FG K) with
  | none => rw [q] at h; cases h
  | some ob =>
    obtain ⟨oc, od, dt, osl⟩ := ob
    rw [q] at h e
    cases dt with
    | func fd =>
      obtain ⟨n1, n2, n3, n4, n5, n6, n7, n8, n9, n10, n11, n12, n13, n14, n15⟩ := fd
      have e2 : (some (n1, n2, n3, n4, n5, n6, n7.map Prod.fst, n8, n15) : FnC) = crV := e
      unfold crV at e2
      simp only [Option.some.injEq, Prod.mk.injEq] at e2
      obtain ⟨h1, h2, h3, h4, h5, h6, h7, h8, h9⟩ := e2
      subst h1 h2 h3 h4 h5 h6 h8 h9
      cases n7 with
      | nil => exact ⟨_, ⟨oc, od, n9, n10, n11, n12, n13, n14, osl, rfl, q, h⟩, hk⟩
      | cons p r => exact absurd h7 (by simp)
    | _ => cases h
theorem fun_binds {K : PySem.W.Frag} {x q : Str} {st : Stmt} {f : Addr} {fd : FuncData} {nm : Str} (F : Fun K x q st f fd) (b : ∀ (kV doc pm : Value) (an : Option Addr) (cdv ct v : Value), bindArgs (PySem.W.fnOf x q (defArgs st) (defBody st) (defScope st) .none kV doc pm an cdv ct) ⟨[v], []⟩ = pure [(nm, v)]) : Binds K fd [nm] [] := by
  obtain ⟨oc, od, kV, doc, pm, an, cdv, ct, osl, rfl, lk, hcd⟩ := F.ex
  exact fun s us _ hl => match us, hl with | [v], _ => .of_eq (b kV doc pm an cdv ct v)
theorem prop_ok {K : PySem.W.Frag} (h : propB K = true) : PropOf K (CC K) "rows" (PR K) (FG K) ∧ PySem.W.keepIn K (.ref (FG K)) = true := by
  obtain ⟨h1, h⟩ := and2 h
  obtain ⟨h2, h⟩ := and2 h
  obtain ⟨h3, h⟩ := and2 h
  obtain ⟨h4, h5⟩ := and2 h
  refine ⟨⟨He.eqO_ok h1, He.eqO_ok h2, of_decide_eq_true h3, ?_⟩, h5⟩
  unfold recB at h4
  unfold FG
  cases e : PySem.W.recIn K (PR K) "property" with
  | none => rw [e] at h4; cases h4
  | some l =>
    cases l with
    | nil => rw [e] at h4; cases h4
    | cons a r =>
      cases a with
      | ref g => exact ⟨r, rfl⟩
      | _ => rw [e] at h4; cases h4
theorem facts {w : World} {K : PySem.W.Frag} {h : Heap} {mg : Str → Option Value} {f : Addr} (X : K.In h) (G : h.Ns mainGlobals mg) (hfa : mg ("law" : Str) = some (.ref f)) (S : He.SaysX fa fn ts tf exB w h K) (S2 : fnC K = crV) :
    ∃ fd : FuncData, FunD K "law" "law" (defArgs sLaw) (defBody sLaw) (defScope sLaw) [] [] f fd ∧ (∀ (s : Shared) (v : Value), BindsTo s fd ⟨[v], []⟩ [("_law_script", v)]) ∧ ∀ base : Heap, K.In base → base.Ns mainGlobals mg → BodyOk R.prog w K mg base 127 NLw "law" (defScope sLaw) (defBody sLaw) f (spLaw K) := by
  obtain ⟨dIi, FIi⟩ := S.t.d.def_ 0 (d := hdOf "is_integer" sIsInt) rfl
  have mIi := He.glo_ok X G (S.t.d.fact 0 (f := .glo "is_integer") rfl)
  obtain ⟨dNm, FNm⟩ := S.t.d.def_ 1 (d := hdOf "is_name" sName) rfl
  have mNm := He.glo_ok X G (S.t.d.fact 1 (f := .glo "is_name") rfl)
  obtain ⟨dFr, FFr⟩ := S.t.d.def_ 2 (d := hdOf "is_free_name" sFree) rfl
  have mFr := He.glo_ok X G (S.t.d.fact 2 (f := .glo "is_free_name") rfl)
  obtain ⟨dLv, FLv⟩ := S.t.d.def_ 3 (d := hdOf "is_leaf" sLeafV) rfl
  have mLv := He.glo_ok X G (S.t.d.fact 3 (f := .glo "is_leaf") rfl)
  obtain ⟨dTx, FTx⟩ := S.t.d.def_ 4 (d := hdOf "_is_text" sTxt) rfl
  have mTx := He.glo_ok X G (S.t.d.fact 4 (f := .glo "_is_text") rfl)
  obtain ⟨dBg, FBg⟩ := S.t.d.def_ 5 (d := hdOf "begins_kind" sBeg) rfl
  have mBg := He.glo_ok X G (S.t.d.fact 5 (f := .glo "begins_kind") rfl)
  obtain ⟨dNa, FNa⟩ := S.t.d.def_ 6 (d := hdOf "narrowed" sNar) rfl
  have mNa := He.glo_ok X G (S.t.d.fact 6 (f := .glo "narrowed") rfl)
  obtain ⟨dKp, FKp⟩ := S.t.d.def_ 7 (d := hdOf "kinds_and_parts" sKP) rfl
  have mKp := He.glo_ok X G (S.t.d.fact 7 (f := .glo "kinds_and_parts") rfl)
  obtain ⟨dIt, FIt⟩ := S.t.d.def_ 8 (d := hdOf "is_test" sIT) rfl
  have mIt := He.glo_ok X G (S.t.d.fact 8 (f := .glo "is_test") rfl)
  obtain ⟨dOk, FOk⟩ := S.t.d.def_ 9 (d := hdOf "_is_of_kind" sOK) rfl
  have mOk := He.glo_ok X G (S.t.d.fact 9 (f := .glo "_is_of_kind") rfl)
  obtain ⟨dHf, FHf⟩ := S.t.d.def_ 10 (d := hdOf "_has_form" sHF) rfl
  have mHf := He.glo_ok X G (S.t.d.fact 10 (f := .glo "_has_form") rfl)
  obtain ⟨dFi, FFi⟩ := S.t.d.def_ 11 (d := haOf "is_field_filters" "_is_field" sFld) rfl
  have mFi := He.glo_ok X G (S.t.d.fact 11 (f := .glo "is_field_filters") rfl)
  obtain ⟨dIx, FIx⟩ := S.t.d.def_ 12 (d := hdOf "is_index" sIdx) rfl
  have mIx := He.glo_ok X G (S.t.d.fact 12 (f := .glo "is_index") rfl)
  obtain ⟨dEn, FEn⟩ := S.t.d.def_ 13 (d := hdOf "_are_entries" sEnts) rfl
  have mEn := He.glo_ok X G (S.t.d.fact 13 (f := .glo "_are_entries") rfl)
  obtain ⟨dUn, FUn⟩ := S.t.d.def_ 14 (d := hdOf "_are_unlike" sUnl) rfl
  have mUn := He.glo_ok X G (S.t.d.fact 14 (f := .glo "_are_unlike") rfl)
  obtain ⟨dTa, FTa⟩ := S.t.d.def_ 15 (d := hdOf "is_told_alike" sTa) rfl
  have mTa := He.glo_ok X G (S.t.d.fact 15 (f := .glo "is_told_alike") rfl)
  obtain ⟨dIc, FIc⟩ := S.t.d.def_ 16 (d := hdOf "is_code" sIc) rfl
  have mIc := He.glo_ok X G (S.t.d.fact 16 (f := .glo "is_code") rfl)
  obtain ⟨dFw, FFw⟩ := S.t.d.def_ 17 (d := hdOf "_first_wrong" sFw) rfl
  have mFw := He.glo_ok X G (S.t.d.fact 17 (f := .glo "_first_wrong") rfl)
  obtain ⟨dIr, FIr⟩ := S.t.d.def_ 18 (d := hdOf "_is_row" sIr) rfl
  have mIr := He.glo_ok X G (S.t.d.fact 18 (f := .glo "_is_row") rfl)
  obtain ⟨dFc, FFc⟩ := S.t.d.def_ 19 (d := haOf "is_field_code" "_is_field" sFc) rfl
  have mFc := He.glo_ok X G (S.t.d.fact 19 (f := .glo "is_field_code") rfl)
  obtain ⟨dB, FB⟩ := S.t.d.def_ 20 (d := hdOf "_law_begin" sBegin) rfl
  have mB := He.glo_ok X G (S.t.d.fact 20 (f := .glo "_law_begin") rfl)
  obtain ⟨dD, FD⟩ := S.t.d.def_ 21 (d := hdOf "_law_draw" sDraw) rfl
  have mD := He.glo_ok X G (S.t.d.fact 21 (f := .glo "_law_draw") rfl)
  obtain ⟨dPi, FPi⟩ := S.t.d.def_ 22 (d := hdOf "_law_pick" sPick) rfl
  have mPi := He.glo_ok X G (S.t.d.fact 22 (f := .glo "_law_pick") rfl)
  obtain ⟨dSt, FSt⟩ := S.t.d.def_ 23 (d := hdOf "_law_start" sStart) rfl
  have mSt := He.glo_ok X G (S.t.d.fact 23 (f := .glo "_law_start") rfl)
  obtain ⟨dLf, FLf⟩ := S.t.d.def_ 24 (d := hdOf "_law_leaf" sLeaf) rfl
  have mLf := He.glo_ok X G (S.t.d.fact 24 (f := .glo "_law_leaf") rfl)
  obtain ⟨dTe, FTe⟩ := S.t.d.def_ 25 (d := hdOf "_law_test" sTest) rfl
  have mTe := He.glo_ok X G (S.t.d.fact 25 (f := .glo "_law_test") rfl)
  obtain ⟨dBo, FBo⟩ := S.t.d.def_ 26 (d := hdOf "_law_both_tests" sBoth) rfl
  have mBo := He.glo_ok X G (S.t.d.fact 26 (f := .glo "_law_both_tests") rfl)
  obtain ⟨dWk, FWk⟩ := S.t.d.def_ 27 (d := hdOf "_law_walk" sWalk) rfl
  have mWk := He.glo_ok X G (S.t.d.fact 27 (f := .glo "_law_walk") rfl)
  obtain ⟨dRow, FRow⟩ := S.t.d.def_ 28 (d := hdOf "_law_row" sRow) rfl
  have mRow := He.glo_ok X G (S.t.d.fact 28 (f := .glo "_law_row") rfl)
  obtain ⟨dWr, FWr⟩ := S.t.d.def_ 29 (d := hdOf "_law_wrong" sWrong) rfl
  have mWr := He.glo_ok X G (S.t.d.fact 29 (f := .glo "_law_wrong") rfl)
  obtain ⟨dRn, FRn⟩ := S.t.d.def_ 30 (d := hdOf "_law_is_right_number" sRn) rfl
  have mRn := He.glo_ok X G (S.t.d.fact 30 (f := .glo "_law_is_right_number") rfl)
  obtain ⟨dIdx, FIdx⟩ := S.t.d.def_ 31 (d := hdOf "_law_index" sIx) rfl
  have mIdx := He.glo_ok X G (S.t.d.fact 31 (f := .glo "_law_index") rfl)
  obtain ⟨dSp, FSp⟩ := S.t.d.def_ 32 (d := hdOf "_law_is_step" sSp) rfl
  have mSp := He.glo_ok X G (S.t.d.fact 32 (f := .glo "_law_is_step") rfl)
  obtain ⟨dRf, FRf⟩ := S.t.d.def_ 33 (d := hdOf "_law_refused" sRf) rfl
  have mRf := He.glo_ok X G (S.t.d.fact 33 (f := .glo "_law_refused") rfl)
  obtain ⟨dL, FL⟩ := S.t.d.def_ 34 (d := hdOf "law" sLaw) rfl
  have mL := He.glo_ok X G (S.t.d.fact 34 (f := .glo "law") rfl)
  obtain ⟨dCi, FCi⟩ := S.t.d.def_ 35 (d := mOf "Code" "__init__" "Code.__init__" sCi) rfl
  obtain ⟨dCl, FCl⟩ := S.t.d.def_ 36 (d := mOf "Code" "__len__" "Code.__len__" sCl) rfl
  obtain ⟨dCt, FCt⟩ := S.t.d.def_ 37 (d := mOf "Code" "__iter__" "Code.__iter__" sCt) rfl
  obtain ⟨dCe, FCe⟩ := S.t.d.def_ 38 (d := mOf "Code" "__eq__" "Code.__eq__" sCe) rfl
  obtain ⟨dI, FI⟩ := S.t.d.def_ 39 (d := mOf "InvalidCode" "__init__" "InvalidCode.__init__" (inClass (top 1) 0)) rfl
  have g_Code := He.glo_ok X G (S.t.d.fact 35 (f := .glo "Code") rfl)
  have g_InvalidCode := He.glo_ok X G (S.t.d.fact 36 (f := .glo "InvalidCode") rfl)
  have g_FORMS := He.glo_ok X G (S.t.d.fact 37 (f := .glo "FORMS") rfl)
  have g_TESTS := He.glo_ok X G (S.t.d.fact 38 (f := .glo "TESTS") rfl)
  have g_WALKS := He.glo_ok X G (S.t.d.fact 39 (f := .glo "WALKS") rfl)
  have g_CHOOSERS := He.glo_ok X G (S.t.d.fact 40 (f := .glo "CHOOSERS") rfl)
  have g_PART_KINDS := He.glo_ok X G (S.t.d.fact 41 (f := .glo "PART_KINDS") rfl)
  have g_WORDS := He.glo_ok X G (S.t.d.fact 42 (f := .glo "WORDS") rfl)
  have g_SORTS := He.glo_ok X G (S.t.d.fact 43 (f := .glo "SORTS") rfl)
  have g_ROWS := He.glo_ok X G (S.t.d.fact 44 (f := .glo "ROWS") rfl)
  have g_ENDS := He.glo_ok X G (S.t.d.fact 45 (f := .glo "ENDS") rfl)
  obtain ⟨t_MOST_LETTERS_words, m_MOST_LETTERS_words⟩ := He.int_ok X G (S.t.d.fact 46 (f := .int "MOST_LETTERS_words" 8) rfl)
  have r_MOST_LETTERS_words : L2.RelV (.int 8) (.int 8 t_MOST_LETTERS_words) := ⟨t_MOST_LETTERS_words, rfl⟩
  obtain ⟨t_GREATEST, m_GREATEST⟩ := He.int_ok X G (S.t.d.fact 47 (f := .int "GREATEST" 1000000000000000000000000000000) rfl)
  have r_GREATEST : L2.RelV (.int (10 ^ 30)) (.int 1000000000000000000000000000000 t_GREATEST) := ⟨t_GREATEST, rfl⟩
  obtain ⟨t_MOST_LETTERS_data, m_MOST_LETTERS_data⟩ := He.int_ok X G (S.t.d.fact 48 (f := .int "MOST_LETTERS_data" 200) rfl)
  have r_MOST_LETTERS_data : L2.RelV (.int 200) (.int 200 t_MOST_LETTERS_data) := ⟨t_MOST_LETTERS_data, rfl⟩
  obtain ⟨t_PERCENT_SIGN, m_PERCENT_SIGN⟩ := He.int_ok X G (S.t.d.fact 49 (f := .int "PERCENT_SIGN" 37) rfl)
  have r_PERCENT_SIGN : L2.RelV (.int 37) (.int 37 t_PERCENT_SIGN) := ⟨t_PERCENT_SIGN, rfl⟩
  obtain ⟨t_MOST_SPOTS, m_MOST_SPOTS⟩ := He.int_ok X G (S.t.d.fact 50 (f := .int "MOST_SPOTS" 200) rfl)
  have r_MOST_SPOTS : L2.RelV (.int 200) (.int 200 t_MOST_SPOTS) := ⟨t_MOST_SPOTS, rfl⟩
  obtain ⟨t_MOST_LEVELS, m_MOST_LEVELS⟩ := He.int_ok X G (S.t.d.fact 51 (f := .int "MOST_LEVELS" 40) rfl)
  have r_MOST_LEVELS : L2.RelV (.int 40) (.int 40 t_MOST_LEVELS) := ⟨t_MOST_LEVELS, rfl⟩
  obtain ⟨t_MOST_INDEX, m_MOST_INDEX⟩ := He.int_ok X G (S.t.d.fact 52 (f := .int "MOST_INDEX" 99) rfl)
  have r_MOST_INDEX : L2.RelV (.int 99) (.int 99 t_MOST_INDEX) := ⟨t_MOST_INDEX, rfl⟩
  obtain ⟨t_MOST_HANDED, m_MOST_HANDED⟩ := He.int_ok X G (S.t.d.fact 53 (f := .int "MOST_HANDED" 3) rfl)
  have r_MOST_HANDED : L2.RelV (.int 3) (.int 3 t_MOST_HANDED) := ⟨t_MOST_HANDED, rfl⟩
  have z_len := He.free_ok X G (S.t.d.fact 54 (f := .free "len") rfl)
  have z_int := He.free_ok X G (S.t.d.fact 55 (f := .free "int") rfl)
  have z_bool := He.free_ok X G (S.t.d.fact 56 (f := .free "bool") rfl)
  have z_str := He.free_ok X G (S.t.d.fact 57 (f := .free "str") rfl)
  have z_list := He.free_ok X G (S.t.d.fact 58 (f := .free "list") rfl)
  have z_range := He.free_ok X G (S.t.d.fact 59 (f := .free "range") rfl)
  have z_min := He.free_ok X G (S.t.d.fact 60 (f := .free "min") rfl)
  have z_repr := He.free_ok X G (S.t.d.fact 61 (f := .free "repr") rfl)
  have z_ord := He.free_ok X G (S.t.d.fact 62 (f := .free "ord") rfl)
  have z_isinstance := He.free_ok X G (S.t.d.fact 63 (f := .free "isinstance") rfl)
  have z_all := He.free_ok X G (S.t.d.fact 64 (f := .free "all") rfl)
  have z_tuple := He.free_ok X G (S.t.d.fact 65 (f := .free "tuple") rfl)
  have z_zip := He.free_ok X G (S.t.d.fact 66 (f := .free "zip") rfl)
  have z_set := He.free_ok X G (S.t.d.fact 67 (f := .free "set") rfl)
  have z_iter := He.free_ok X G (S.t.d.fact 68 (f := .free "iter") rfl)
  have z_enumerate := He.free_ok X G (S.t.d.fact 69 (f := .free "enumerate") rfl)
  have z_ValueError := He.free_ok X G (S.t.d.fact 70 (f := .free "ValueError") rfl)
  have cls_C := He.cls_ok (S.t.d.fact 71 (f := .cls "Code") rfl)
  have mkr_C := He.mkr_ok (S.t.d.fact 72 (f := .mkr "Code") rfl)
  have no_C := He.noat_ok (S.t.d.fact 73 (f := .noat "Code" "_rows") rfl)
  have me_L := He.meth_ok (S.t.d.fact 74 (f := .meth "Code" "__len__") rfl)
  have me_T := He.meth_ok (S.t.d.fact 75 (f := .meth "Code" "__iter__") rfl)
  have me_E := He.meth_ok (S.t.d.fact 76 (f := .meth "Code" "__eq__") rfl)
  have hm := S.more
  obtain ⟨x0, hm⟩ := and2 hm
  obtain ⟨x1, hm⟩ := and2 hm
  obtain ⟨x2, hm⟩ := and2 hm
  obtain ⟨x3, hm⟩ := and2 hm
  obtain ⟨x4, hm⟩ := and2 hm
  obtain ⟨x5, x6⟩ := and2 hm
  obtain ⟨y1, x4⟩ := and2 x4
  obtain ⟨y2, x4⟩ := and2 x4
  obtain ⟨y3, x4⟩ := and2 x4
  obtain ⟨y4, x4⟩ := and2 x4
  obtain ⟨y5, x4⟩ := and2 x4
  obtain ⟨y6, y7⟩ := and2 x4
  have KPK := tpB_ok y1 (by decide)
  have KWO := tpB_ok y2 (by decide)
  have KSO := tpB_ok y3 (by decide)
  have KTE := tpB_ok y4 (by decide)
  have KWA := tpB_ok y5 (by decide)
  have KCH := tpB_ok y6 (by decide)
  have KEN := tpB_ok y7 (by decide)
  obtain ⟨x5a, x5b⟩ := and2 x5
  obtain ⟨x6a, x6b⟩ := and2 x6
  have FOR := S.t.tab 0 (t := (fun K => He.ga K "FORMS", formsL.map (·.1))) rfl
  have FK : FormsK K w (He.ga K "FORMS") := tab_ok FOR (fun p hp => Nat.le_trans (forms_len p hp) (by decide)) x5b
  have FNo : ∀ x, formOf x = none → PySem.W.nsIn K (He.ga K "FORMS") x = some none := fun x h => keysB_ok x5a (form_not h)
  have ROW := S.t.tab 1 (t := (fun K => He.ga K "ROWS", rowsL.map (·.1))) rfl
  have RK : RowsK K w (He.ga K "ROWS") := tab_ok ROW (fun p hp => Nat.le_trans (rows_len p hp) (by decide)) x6b
  have RNo : ∀ x, rowF x = none → PySem.W.nsIn K (He.ga K "ROWS") x = some none := fun x h => keysB_ok x6a (row_not h)
  have CI := ex_clsI x0
  have CR := ex_clR x0
  have C1 : Cl1 K (CT K) "index" := mk_cl1 x0 FI (fun _ _ _ _ _ _ _ _ => rfl) (fun _ _ _ _ _ _ _ _ => rfl)
  have own := ex_own x0
  obtain ⟨c1, x1⟩ := and2 x1
  obtain ⟨c2, x1⟩ := and2 x1
  obtain ⟨c3, x1⟩ := and2 x1
  obtain ⟨c4, x1⟩ := and2 x1
  obtain ⟨c5, c6⟩ := and2 x1
  have CCk : CodeC K (CC K) (He.ma K (CC K) "__init__") := ⟨cls_C, mkr_C, no_C, He.eqO_ok c2, CI.g.cN, CI.g.cT, of_decide_eq_true c1, of_decide_eq_true c3, of_decide_eq_true c4, of_decide_eq_true c5⟩
  have NEk := neC_ok c6
  obtain ⟨PRk, kG⟩ := prop_ok x2
  obtain ⟨dCr, FCr⟩ := cr_ok S2 x3 kG
  have bIi : Binds K dIi ["value"] [] := FIi.bindsN fun _ _ _ _ _ _ us hl => match us, hl with | [_], _ => rfl
  have bNm : Binds K dNm ["value"] [] := FNm.bindsN fun _ _ _ _ _ _ us hl => match us, hl with | [_], _ => rfl
  have bFr : Binds K dFr ["value"] [] := FFr.bindsN fun _ _ _ _ _ _ us hl => match us, hl with | [_], _ => rfl
  have bLv : Binds K dLv ["value"] [] := FLv.bindsN fun _ _ _ _ _ _ us hl => match us, hl with | [_], _ => rfl
  have bTx : Binds K dTx ["text"] [] := FTx.bindsN fun _ _ _ _ _ _ us hl => match us, hl with | [_], _ => rfl
  have bBg : Binds K dBg ["word", "kind"] [] := FBg.bindsN fun _ _ _ _ _ _ us hl => match us, hl with | [_, _], _ => rfl
  have bNa : Binds K dNa ["outer", "kind"] [] := FNa.bindsN fun _ _ _ _ _ _ us hl => match us, hl with | [_, _], _ => rfl
  have bKp : Binds K dKp ["term"] [] := FKp.bindsN fun _ _ _ _ _ _ us hl => match us, hl with | [_], _ => rfl
  have bIt : Binds K dIt ["value"] [] := FIt.bindsN fun _ _ _ _ _ _ us hl => match us, hl with | [_], _ => rfl
  have bOk : Binds K dOk ["value", "kind"] [] := FOk.bindsN fun _ _ _ _ _ _ us hl => match us, hl with | [_, _], _ => rfl
  have bHf : Binds K dHf ["value", "kind"] [] := FHf.bindsN fun _ _ _ _ _ _ us hl => match us, hl with | [_, _], _ => rfl
  have bFi : Binds K dFi ["value", "told"] [] := FFi.bindsN fun _ _ _ _ _ _ us hl => match us, hl with | [_, _], _ => rfl
  have bIx : Binds K dIx ["value"] [] := FIx.bindsN fun _ _ _ _ _ _ us hl => match us, hl with | [_], _ => rfl
  have bEn : Binds K dEn ["values"] [] := FEn.bindsN fun _ _ _ _ _ _ us hl => match us, hl with | [_], _ => rfl
  have bUn : Binds K dUn ["names"] [] := FUn.bindsN fun _ _ _ _ _ _ us hl => match us, hl with | [_], _ => rfl
  have bTa : Binds K dTa ["value", "right"] [] := FTa.bindsN fun _ _ _ _ _ _ us hl => match us, hl with | [_, _], _ => rfl
  have bIc : Binds K dIc ["value"] [] := FIc.bindsN fun _ _ _ _ _ _ us hl => match us, hl with | [_], _ => rfl
  have bFw : Binds K dFw ["rows"] [] := FFw.bindsN fun _ _ _ _ _ _ us hl => match us, hl with | [_], _ => rfl
  have bIr : Binds K dIr ["value", "index", "many"] [] := FIr.bindsN fun _ _ _ _ _ _ us hl => match us, hl with | [_, _, _], _ => rfl
  have bFc : Binds K dFc ["value", "told", "index", "many"] [] := FFc.bindsN fun _ _ _ _ _ _ us hl => match us, hl with | [_, _, _, _], _ => rfl
  have bB : Binds K dB ["_law_script"] [] := FB.bindsN fun _ _ _ _ _ _ us hl => match us, hl with | [_], _ => rfl
  have bD : Binds K dD ["_law_tape", "_law_many"] [] := FD.bindsN fun _ _ _ _ _ _ us hl => match us, hl with | [_, _], _ => rfl
  have bPi : Binds K dPi ["_law_tape", "_law_items"] [] := FPi.bindsN fun _ _ _ _ _ _ us hl => match us, hl with | [_, _], _ => rfl
  have bSt : Binds K dSt ["_law_tape"] [] := FSt.bindsN fun _ _ _ _ _ _ us hl => match us, hl with | [_], _ => rfl
  have bLf : Binds K dLf ["_law_tape"] [] := FLf.bindsN fun _ _ _ _ _ _ us hl => match us, hl with | [_], _ => rfl
  have bTe : Binds K dTe ["_law_tape", "_law_deep"] [] := FTe.bindsN fun _ _ _ _ _ _ us hl => match us, hl with | [_, _], _ => rfl
  have bBo : Binds K dBo ["_law_tape", "_law_deep"] [] := FBo.bindsN fun _ _ _ _ _ _ us hl => match us, hl with | [_, _], _ => rfl
  have bWk : Binds K dWk ["_law_tape", "_law_deep"] [] := FWk.bindsN fun _ _ _ _ _ _ us hl => match us, hl with | [_, _], _ => rfl
  have bRow : Binds K dRow ["_law_tape", "_law_at", "_law_many"] [] := FRow.bindsN fun _ _ _ _ _ _ us hl => match us, hl with | [_, _, _], _ => rfl
  have bWr : Binds K dWr ["_law_tape", "_law_at", "_law_many"] [] := FWr.bindsN fun _ _ _ _ _ _ us hl => match us, hl with | [_, _, _], _ => rfl
  have bRn : Binds K dRn ["_law_value", "_law_at", "_law_many"] [] := FRn.bindsN fun _ _ _ _ _ _ us hl => match us, hl with | [_, _, _], _ => rfl
  have bIdx : Binds K dIdx ["_law_rows"] [] := FIdx.bindsN fun _ _ _ _ _ _ us hl => match us, hl with | [_], _ => rfl
  have bSp : Binds K dSp ["_law_row_here"] [] := FSp.bindsN fun _ _ _ _ _ _ us hl => match us, hl with | [_], _ => rfl
  have bRf : Binds K dRf ["_law_rows"] [] := FRf.bindsN fun _ _ _ _ _ _ us hl => match us, hl with | [_], _ => rfl
  have bCi : Binds K dCi ["self", "rows"] [] := FCi.bindsN fun _ _ _ _ _ _ us hl => match us, hl with | [_, _], _ => rfl
  have bCl : Binds K dCl ["self"] [] := FCl.bindsN fun _ _ _ _ _ _ us hl => match us, hl with | [_], _ => rfl
  have bCt : Binds K dCt ["self"] [] := FCt.bindsN fun _ _ _ _ _ _ us hl => match us, hl with | [_], _ => rfl
  have bCe : Binds K dCe ["self", "other"] [] := FCe.bindsN fun _ _ _ _ _ _ us hl => match us, hl with | [_, _], _ => rfl
  have bCr : Binds K dCr ["self"] [] := fun_binds FCr fun _ _ _ _ _ _ _ => rfl
  have e := hfa.symm.trans mL
  cases e
  refine ⟨dL, FL, fun s v => FL.bindsA (ps := ["_law_script"]) (fun _ _ _ _ _ _ us hl => match us, hl with | [_], _ => rfl) s [v] rfl, fun base _ _ => ?_⟩
  have GD : FnOk R.prog w K mg base CX0 1 _ dD ["_law_tape", "_law_many"] spDraw := ok_draw (fun_of FD) z_len z_int
  have GB : FnOk R.prog w K mg base CX0 1 _ dB ["_law_script"] (spBegin K) := ok_begin (fun_of FB)
  have GPi : FnOk R.prog w K mg base CX0 2 _ dPi ["_law_tape", "_law_items"] spPick := ok_pick (fun_of FPi) GD mD FD.kp bD z_len
  have GPiS : FnOk R.prog w K mg base CX0 2 _ dPi ["_law_tape", "_law_items"] spPickS := ok_pickS (fun_of FPi) GD mD FD.kp bD z_len
  have GSt : FnOk R.prog w K mg base CX0 3 _ dSt ["_law_tape"] spSt := ok_st (fun_of FSt) GD mD FD.kp bD GPiS mPi FPi.kp bPi z_range z_int
  have GLf : FnOk R.prog w K mg base CX0 3 _ dLf ["_law_tape"] spLeaf := ok_leaf (fun_of FLf) GPi mPi FPi.kp bPi
  have GTe : FnOk R.prog w K mg base CX0 9 _ dTe ["_law_tape", "_law_deep"] (spTm K "test" nT 0 3) := ok_tests (fun_of FTe) (fun_of FWk) (fun_of FBo) GPi mPi FPi.kp bPi GD mD FD.kp bD GLf mLf FLf.kp bLf mTe FTe.kp bTe mWk FWk.kp bWk mBo FBo.kp bBo
  have GRow : FnOk R.prog w K mg base CX0 10 _ dRow ["_law_tape", "_law_at", "_law_many"] (spRow K) := ok_row (fun_of FRow) GPi mPi FPi.kp bPi GD mD FD.kp bD GTe mTe FTe.kp bTe
  have GWr : FnOk R.prog w K mg base CX0 3 _ dWr ["_law_tape", "_law_at", "_law_many"] (spWr K) := ok_wr (fun_of FWr) GPi mPi FPi.kp bPi
  have GRn : FnOk R.prog w K mg base CX0 1 _ dRn ["_law_value", "_law_at", "_law_many"] (spRn K) := ok_rn (fun_of FRn) z_isinstance z_int z_bool
  have GSp : FnOk R.prog w K mg base CX0 1 _ dSp ["_law_row_here"] (spSp K) := ok_sp (fun_of FSp) z_isinstance z_int z_bool z_tuple z_str z_len
  have GIdx : FnOk R.prog w K mg base CX0 2 _ dIdx ["_law_rows"] (spIx K) := ok_ix (fun_of FIdx) GRn mRn FRn.kp bRn GSp mSp FSp.kp bSp z_isinstance z_tuple z_len z_range
  have GIi : FnOk R.prog w K mg base CX0 1 _ dIi ["value"] (spM K intD) := ok_isInt (fun_of FIi) z_isinstance z_bool z_int
  have GNm : FnOk R.prog w K mg base CX0 1 _ dNm ["value"] (spM K wordD) := ok_name (fun_of FNm) m_MOST_LETTERS_words r_MOST_LETTERS_words z_isinstance z_str z_len z_all
  have GFr : FnOk R.prog w K mg base CX0 2 _ dFr ["value"] (spM K freeD) := ok_free (fun_of FFr) GNm mNm FNm.kp bNm g_WORDS KWO
  have GTx : FnOk R.prog w K mg base CX0 1 _ dTx ["text"] spTxt := ok_txt (fun_of FTx) m_MOST_LETTERS_data r_MOST_LETTERS_data m_PERCENT_SIGN r_PERCENT_SIGN z_len z_ord z_all
  have GLv : FnOk R.prog w K mg base CX0 2 _ dLv ["value"] (spM K leafD) := ok_leafV (fun_of FLv) GTx mTx FTx.kp bTx m_GREATEST r_GREATEST z_isinstance z_bool z_int z_str
  have GUn : FnOk R.prog w K mg base CX0 1 _ dUn ["names"] (spUnl K) := ok_unl (fun_of FUn) z_len z_set
  have GEn : FnOk R.prog w K mg base CX0 2 _ dEn ["values"] (spEnts K) := ok_ents (fun_of FEn) GNm mNm FNm.kp bNm GUn mUn FUn.kp bUn z_isinstance z_tuple z_len z_all
  have GNa : FnOk R.prog w K mg base CX0 1 _ dNa ["outer", "kind"] spNar := ok_nar (fun_of FNa)
  have GBg : FnOk R.prog w K mg base CX0 1 _ dBg ["word", "kind"] spBeg := ok_beg (fun_of FBg) g_FORMS FOR FK FNo g_TESTS KTE g_WALKS KWA g_CHOOSERS KCH
  have GIx : FnOk R.prog w K mg base CX0 2 _ dIx ["value"] (spM K wholeD) := ok_index (fun_of FIx) m_MOST_INDEX r_MOST_INDEX GIi mIi FIi.kp bIi
  have GFi : FnOk R.prog w K mg base CX0 3 _ dFi ["value", "told"] (spFld K) := ok_fld (fun_of FFi) g_PART_KINDS KPK g_SORTS KSO m_MOST_HANDED r_MOST_HANDED GNm mNm FNm.kp bNm GFr mFr FFr.kp bFr GIx mIx FIx.kp bIx GLv mLv FLv.kp bLv GUn mUn FUn.kp bUn GEn mEn FEn.kp bEn z_isinstance z_tuple z_len z_all
  have GHf : FnOk R.prog w K mg base CX0 4 _ dHf ["value", "kind"] (spHF K) := ok_hf (fun_of FHf) g_FORMS FK GBg mBg FBg.kp bBg GFi mFi FFi.kp bFi z_isinstance z_tuple z_str z_len z_all z_zip
  have GKp : FnOk R.prog w K mg base CX0 1 _ dKp ["term"] (spKP K) := ok_kp (fun_of FKp) g_FORMS FK g_PART_KINDS KPK z_zip
  have GOk : FnOk R.prog w K mg base CX0 5 _ dOk ["value", "kind"] (spOK K) := ok_of (fun_of FOk) m_MOST_LEVELS r_MOST_LEVELS m_MOST_SPOTS r_MOST_SPOTS GHf mHf FHf.kp bHf GKp mKp FKp.kp bKp GNa mNa FNa.kp bNa z_len
  have GIt : FnOk R.prog w K mg base CX0 6 _ dIt ["value"] (spIK K "test") := ok_it (fun_of FIt) GOk mOk FOk.kp bOk
  have GFc : FnOk R.prog w K mg base CX0 7 _ dFc ["value", "told", "index", "many"] (spFc K) := ok_fc (fun_of FFc) GNm mNm FNm.kp bNm GIx mIx FIx.kp bIx GIi mIi FIi.kp bIi GIt mIt FIt.kp bIt
  have GIr : FnOk R.prog w K mg base CX0 8 _ dIr ["value", "index", "many"] (spIr K) := ok_ir (fun_of FIr) g_ROWS ROW RK RNo GFc mFc FFc.kp bFc z_isinstance z_tuple z_str z_len z_all z_zip
  have GFw : FnOk R.prog w K mg base CX0 9 _ dFw ["rows"] (spFw K) := ok_fw (fun_of FFw) g_ENDS KEN GIr mIr FIr.kp bIr z_len z_enumerate
  have GTa : FnOk R.prog w K mg base CX0 (2 + 20) _ dTa ["value", "right"] (spTa K 21) := ok_ta (fun_of FTa) GIi mIi FIi.kp bIi mTa FTa.kp bTa z_isinstance z_tuple z_str z_int z_bool z_len z_all z_zip 20
  have GIc : FnOk R.prog w K mg base CX0 10 _ dIc ["value"] (spIc K) := ok_ic (fun_of FIc) GFw mFw FFw.kp bFw z_isinstance z_tuple z_list
  have GCi : FnOk R.prog w K mg base (L2.CX R.prog w) 10 _ dCi ["self", "rows"] (spCi (CC K) (CT K) K) := ok_ci (fun_of FCi) CCk C1 CR g_InvalidCode GFw mFw FFw.kp bFw z_tuple
  have GCr : FnOk R.prog w K mg base CX0 1 (FG K) dCr ["self"] (spCr K (CC K)) := ok_cr FCr CCk
  have GCl : FnOk R.prog w K mg base CX0 1 _ dCl ["self"] (spCl K (CC K)) := ok_cl (fun_of FCl) CCk z_len
  have GCt : FnN R.prog w K mg base 1 _ dCt ["self"] (spIterN (GCode K (CC K))) := ok_ct (fun_of FCt) CCk z_iter
  have GCe : FnOk R.prog w K mg base CX0 23 _ dCe ["self", "other"] (spCe K (CC K)) := ok_ce (fun_of FCe) CCk g_Code GTa mTa FTa.kp bTa z_isinstance
  have GRf : FnOk R.prog w K mg base CX0 12 _ dRf ["_law_rows"] (spRf K) := ok_rf (fun_of FRf) CI g_InvalidCode mkr_C g_Code GCi bCi z_isinstance z_ValueError
  exact body_law ⟨z_len, z_range, z_min, z_repr, z_tuple, z_list⟩ ⟨CCk, g_Code, GCi, bCi, PRk, GCr, bCr, me_L.at_, me_L.fn, GCl, bCl, me_T.at_, me_T.fn, GCt, bCt, me_E.at_, me_E.fn, GCe, bCe, NEk⟩ GB mB FB.kp bB GD mD FD.kp bD GPi mPi FPi.kp bPi GSt mSt FSt.kp bSt GRow mRow FRow.kp bRow GWr mWr FWr.kp bWr GIdx mIdx FIdx.kp bIdx GRf mRf FRf.kp bRf GIc mIc FIc.kp bIc
end Toy


open PySem PySem.W PySem.Calls PyProof.Rows
set_option maxRecDepth 100000 in
set_option maxHeartbeats 0 in
theorem PySem.Challenge.cw_sieveways_k66_codes_by_form_holds : PySem.Challenge.rw_sieveways_k66_codes_by_form.Holds := by
  w_on; o_law
  refine HandSHeadRun.head_any (r := OpenLaw.row PySem.Challenge.rw_sieveways_k66_codes_by_form) (q := view (OpenLaw.row PySem.Challenge.rw_sieveways_k66_codes_by_form).prog [63]) (H := Toy.hk) (ob := Toy.ob) (M := 9000) (loose := Toy.looseN) (d := HandSHeadRun.topDef (OpenLaw.row PySem.Challenge.rw_sieveways_k66_codes_by_form).prog 63) (kwd := []) Toy.ob_eq
    (by kernel_rfl) (fun s => by kernel_rfl) Toy.run (by kernel_rfl) (by kernel_rfl) (by kernel_rfl) (by rfl) (by first | assumption | decide +kernel) (by decide +kernel) ⟨rfl, rfl, rfl, rfl, rfl, by decide +kernel⟩ ?hw ?hc
  case hw => w_witness2
  case hc =>
    refine L2.walkG (l := PySem.Challenge.rw_sieveways_k66_codes_by_form) (n := 63) (k := 127) (x := "_law_script") rfl (by decide) (by kernel_rfl) ⟨rfl, by decide, by decide⟩ ?F
    intro w mg fa h Y G hmg0
    obtain ⟨K, KX, c, c2⟩ := Y
    have hmg : mg ("law" : PySem.Str) = some (.ref fa) := by
      have e : (HandSHeadRun.topDef (OpenLaw.row PySem.Challenge.rw_sieveways_k66_codes_by_form).prog 63).name = ("law" : PySem.Str) := by kernel_rfl
      rw [← e]
      exact hmg0
    obtain ⟨fd, FD, hb, hF⟩ := Toy.facts (w := w) KX G hmg c c2
    exact ⟨K, fd, _, _, _, _, _, Toy.NLw, Toy.spLaw K, KX, FD, Toy.scLw, hb, fun H a ns hl hS => ⟨a, ns, rfl, hS, hl, fun _ => rfl⟩, hF⟩

