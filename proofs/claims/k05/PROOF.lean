import PyProof.Rows.All
import Wide.All
import OpenK.AllK
import Wide.FinOn
import HandS.ForMost
import HandS.Flow
import HandS.Wide
import HandS.Small
import HandS.ExcValue
import HandS.Defaults
import HandS.IsInst
import HandS.More
import HandS.Strs
import HandS.Style
import HandS.Conv
import HandS.HeadEnd
import KE.KStateDown
import HandS.Zip
import HandS.Deep
import HandS.ListItems
import HandS.SortKw
import KE.DatumOrd
import PyProof.StrOps2
import HandS.TupAny
import HandS.TupMul
import KE.KRevSl
import PyProof.EqKinds
import PyProof.FactsAll.dict_1
import PyProof.FactsAll.tuple_2
import PyProof.FactsAll.subtypes
import HandS.Walk
import HandS.Steps
import KE.GoesZip
import PyProof.ZipIter
import PyProof.CollectWalk
import PyProof.TupleOfGen
import KE.KDictZip
import HandS.Head0
import HandS.Head1
import HandS.Head2
import HandS.HeadHook1
import HandS.HeadHook2
import HandS.HeadHook3
import HandS.HeadHook4
import PySem.Challenge.RW_sieveways_k05_forms_of_filters_and_tests
set_option Elab.async false
set_option linter.all false
set_option maxRecDepth 100000
set_option maxHeartbeats 0
namespace Toy
open PySem L2
def top (i : Nat) : Stmt := PySem.Challenge.pw_sieveways_k05_forms_of_filters_and_tests.main.body.getD i (.Pass ⟨0, 0, 0, 0⟩)
abbrev sBegin : Stmt := top 38
abbrev sDraw : Stmt := top 39
/-! ### the tape -/
def kC : Key := Sum.inr ("cells" : Str)
def kA : Key := Sum.inr ("at" : Str)
def kL : Key := Sum.inr ("left" : Str)
def tp (l : Addr) (a f : Int) : List (Key × V) := [(kC, .ref l), (kA, .int a), (kL, .int f)]
theorem k_ca : ¬ (kC = kA) := by decide +kernel
theorem k_cl : ¬ (kC = kL) := by decide +kernel
theorem k_al : ¬ (kA = kL) := by decide +kernel
theorem k_la : ¬ (kL = kA) := by decide +kernel
theorem tp_cells (l : Addr) (a f : Int) : valV (tp l a f) kC = some (.ref l) := by
  unfold tp
  rw [valV_pos rfl]
theorem tp_at (l : Addr) (a f : Int) : valV (tp l a f) kA = some (.int a) := by
  unfold tp
  rw [valV_neg k_ca, valV_pos rfl]
theorem tp_left (l : Addr) (a f : Int) : valV (tp l a f) kL = some (.int f) := by
  unfold tp
  rw [valV_neg k_cl, valV_neg k_al, valV_pos rfl]
theorem put_at (l : Addr) (a f b : Int) : putK (tp l a f) kA (.int b) = tp l b f := by
  unfold tp putK
  rw [if_pos (by simp)]
  simp only [List.map_cons, List.map_nil]
  rw [if_neg k_ca, if_pos trivial, if_neg k_la]
theorem put_left (l : Addr) (a f b : Int) : putK (tp l a f) kL (.int b) = tp l a b := by
  unfold tp putK
  rw [if_pos (by simp)]
  simp only [List.map_cons, List.map_nil]
  rw [if_neg k_cl, if_neg k_al, if_pos trivial]
section
variable {H : Hp} {d l : Addr} {a f : Int} (h : H d = some (.dK (tp l a f)))
include h
theorem get_cells : DGet H d (.str ("cells" : Str)) (some (.ref l)) := by
  have z := DGet.k (k := kC) h
  rw [tp_cells] at z
  exact z
theorem get_at : DGet H d (.str ("at" : Str)) (some (.int a)) := by
  have z := DGet.k (k := kA) h
  rw [tp_at] at z
  exact z
theorem get_left : DGet H d (.str ("left" : Str)) (some (.int f)) := by
  have z := DGet.k (k := kL) h
  rw [tp_left] at z
  exact z
theorem set_at (b : Int) : DPut H d (.str ("at" : Str)) (.int b) (upd H d (.dK (tp l b f))) := by
  have z := DPut.k (k := kA) (v := .int b) h (by show 3 < sizeLine; decide)
  rw [put_at] at z
  exact z
theorem set_left (b : Int) : DPut H d (.str ("left" : Str)) (.int b) (upd H d (.dK (tp l a b))) := by
  have z := DPut.k (k := kL) (v := .int b) h (by show 3 < sizeLine; decide)
  rw [put_left] at z
  exact z
end
/-- at d a tape, of which at most n draws were made -/
def Tape (H : Hp) (d l : Addr) (n : Nat) : Prop := ∃ (ns : List Int) (a f : Int), H d = some (.dK (tp l a f)) ∧ H l = some (.lst (ns.map V.int)) ∧ ns ≠ [] ∧ ns.length ≤ 1000 ∧ 0 ≤ a ∧ a ≤ n
/-- all that stood stands, but at d -/
def But (d : Addr) (H H' : Hp) : Prop := ∀ b o, b ≠ d → H b = some o → H' b = some o
theorem But.refl {d : Addr} {H : Hp} : But d H H := fun _ _ _ e => e
theorem But.trans {d : Addr} {H H1 H2 : Hp} (a : But d H H1) (b : But d H1 H2) : But d H H2 := fun x o n e => b x o n (a x o n e)
theorem But.upd {d : Addr} {H H1 : Hp} {u : HO} (a : But d H H1) : But d H (upd H1 d u) := fun x o n e => by
  rw [upd_ne n]
  exact a x o n e
theorem But.new {d p : Addr} {H H1 : Hp} {u : HO} (a : But d H H1) (hp : H1 p = none) : But d H (L2.upd H1 p u) := fun x o n e => by
  rw [upd_ne (ne_of_none (a x o n e) hp)]
  exact a x o n e
def spDraw : Sp := fun vs H Q _ => ∃ (d l : Addr) (n : Nat) (m : Int), vs = [.ref d, .int m] ∧ Tape H d l n ∧ n ≤ 1000000 ∧ 0 < m ∧ m < 1000000 ∧
  ∀ H' r, But d H H' → Tape H' d l (n + 1) → 0 ≤ r → r < m → Q (.int r) H'
section
variable {P : Program} {w : World} {K : PySem.W.Frag} {mg : Str → Option Value} {base : Heap}
theorem scD : FnScope ["_law_tape", "_law_many", "_law_turn", "_law_size", "_law_cell", "_law_got"] ["_law_tape", "_law_many"] (defScope sDraw) := ⟨rfl, rfl, rfl, by decide +kernel, rfl, by decide +kernel, by decide +kernel⟩
theorem ok_draw {f : Addr} {fd : FuncData} (F : Fun K "_law_draw" "_law_draw" sDraw f fd) (mLen : mg "len" = none) (mInt : mg "int" = none) : FnOk P w K mg base CX0 1 f fd ["_law_tape", "_law_many"] spDraw := by
  refine F.ok scD (fun vs H Q E h => ?_) (fun cdv A outer s H vs Q E hr h => ?_)
  · obtain ⟨d, l, n, m, rfl, _⟩ := h
    rfl
  · obtain ⟨d, l, n, m, rfl, ⟨ns, a, f, hd, hl, hne, hlen, a0, an⟩, hn, m0, m1, q⟩ := h
    have hu := hu_of hr
    refine ⟨_, pss_cons (ps_if (pt_cmpR op_lt (pe_dget hu (pv 0) pe_str (fun _ _ => rfl)) (pv 1) (nomark _))
      (pss_cons (ps_par (i := 2) (j := 3) rfl scD.nd rfl rfl (by decide) rfl rfl (pa_cons (pe_dget hu (pv 0) pe_str (fun _ _ => rfl)) (pa_cons (pe_callB call_len_seq (by rfl) mLen PySem.boot_len (pa_cons (pe_dget hu (pv 0) pe_str (fun _ _ => rfl)) pa_nil)) pa_nil)) (by rfl))
      (pss_cons (ps_asg (pe_tup (pa_cons (pe_ix ix_list (pe_dget hu (pv 0) pe_str (fun _ _ => rfl)) (pe_op op_mod (pe_callTy call_int1 (by rfl) mInt (by decide +kernel) (pa_cons (pv 2) pa_nil)) (pv 3)) (fun _ _ => rfl)) (pa_cons (pe_op op_add (pv 2) pe_int) pa_nil)))
          (pg_tup rfl (pgs_cons (pg_name (i := 4) scD.nd rfl (.inl rfl)) (pgs_cons (pg_sub (pv 0) pe_str (set_dict hu)) pgs_nil))))
      (pss_cons (ps_dput hu (pv 0) pe_str (pe_op op_mod (pe_callTy call_int1 (by rfl) mInt (by decide +kernel) (pa_cons (pe_op op_pow (pe_op op_add (pe_op op_add (pe_op op_mod (pe_callTy call_int1 (by rfl) mInt (by decide +kernel) (pa_cons (pv 4) pa_nil)) pe_int) (pe_op op_mul pe_int (pv 2))) pe_int) pe_int) pa_nil)) (pe_op op_add (pe_op op_pow pe_int pe_int) pe_int)) rfl)
      (pss_one (ps_if (PW.pt (pw_and (pt_cmpR op_ge (pv 4) (pe_op op_pow pe_int pe_int) (nomark _)) (pw_and1 (pt_cmpR op_lt (pv 2) (pv 3) (nomark _)))))
        (pss_one (ps_dput hu (pv 0) pe_str (pe_op op_sub (pv 4) (pe_op op_pow pe_int pe_int)) rfl)) pss_nil)))))
      pss_nil)
      (pss_cons (ps_asg (pe_tup (pa_cons (pe_op op_mod (pe_callTy call_int1 (by rfl) mInt (by decide +kernel) (pa_cons (pe_dget hu (pv 0) pe_str (fun _ _ => rfl)) pa_nil)) (pv 1)) (pa_cons (pe_op op_fdivW (pe_dget hu (pv 0) pe_str (fun _ _ => rfl)) (pv 1)) pa_nil)))
          (pg_tup rfl (pgs_cons (pg_name (i := 5) scD.nd rfl (.inl rfl)) (pgs_cons (pg_sub (pv 0) pe_str (set_dict hu)) pgs_nil))))
      (pss_one (ps_ret (pv 5)))), ?_⟩
    refine ⟨_, rfl, d, _, rfl, get_left hd, _, rfl, _, _, rfl, rfl, _, rfl, ?_⟩
    refine ite2 (fun c => ?_) (fun c => ?_)
    · have e0 : ((ns.map V.int).length : Int) = (ns.length : Int) := by rw [List.length_map]
      have lp : 0 < ns.length := List.length_pos_iff.mpr hne
      obtain ⟨j, hj, ej⟩ : ∃ j : Nat, j < ns.length ∧ a % ((ns.map V.int).length : Int) = (j : Int) := by
        rw [e0]
        have h1 : 0 ≤ a % (ns.length : Int) := Int.emod_nonneg a (by omega)
        have h2 : a % (ns.length : Int) < (ns.length : Int) := Int.emod_lt_of_pos a (by omega)
        exact ⟨(a % (ns.length : Int)).toNat, by omega, by omega⟩
      have hat : atI (ns.map V.int) (j : Int) = some (.int ns[j]) := atI_nat (by rw [List.getElem?_map, List.getElem?_eq_getElem hj]; rfl)
      refine ⟨_, rfl, d, _, rfl, get_at hd, _, rfl, d, _, rfl, get_cells hd, l, _, rfl, .inl (SqL.of hl), _, _, rfl, ?_⟩
      refine ⟨_, rfl, d, _, rfl, get_cells hd, _, rfl, .inl ⟨_, rfl, _, rfl, _, _, rfl, rfl, (by show 0 < ((ns.map V.int).length : Int); omega), ?_⟩⟩
      refine ⟨l, _, _, .int ns[j], rfl, rfl, SqL.of hl, (by rw [ej]; exact hat), _, rfl, _, _, rfl, rfl, (by show 2 ≤ sizeLine; decide), fun t nt => ?_⟩
      have ndt : d ≠ t := ne_of_none hd nt
      have nlt : l ≠ t := ne_of_none hl nt
      have nld : l ≠ d := ne_of hl hd (by intro z; cases z)
      refine ⟨t, _, rfl, SqT.of upd_same, rfl, _, _, rfl, _, _, rfl, _, rfl, d, _, rfl, set_at (by rw [upd_ne ndt]; exact hd) _, rfl, ?_⟩
      generalize hcell : ns[j] = cell
      have h63 : 0 ≤ cell % 2147483563 := Int.emod_nonneg _ (by decide)
      have h64 : cell % 2147483563 < 2147483563 := Int.emod_lt_of_pos _ (by decide)
      refine ⟨_, rfl, .inl ⟨_, rfl, _, _, rfl, rfl, (by show (0 : Int) < 2147483563; decide), _, rfl, _, _, rfl, rfl, (.inl ⟨by decide, by decide⟩), _, _, rfl, rfl, _, _, rfl, rfl, _, _, rfl, rfl, ⟨by decide, by decide, by omega⟩, .inl ⟨_, rfl, _, _, rfl, rfl, ⟨by decide, by decide, by decide⟩, _, _, rfl, rfl, _, _, rfl, rfl, (by show (0 : Int) < 10 ^ 50 + 151; decide), ?_⟩⟩⟩
      refine ⟨_, rfl, d, _, rfl, set_left upd_same _, ?_⟩
      refine ⟨_, rfl, _, _, rfl, rfl, ⟨by decide, by decide, by decide⟩, _, _, rfl, rfl, _, rfl, ?_⟩
      refine ite2 (fun c1 => ?_) (fun c1 => ?_)
      · refine ⟨_, rfl, _, rfl, _, _, rfl, rfl, _, rfl, ?_⟩
        refine ite2 (fun c2 => ?_) (fun c2 => ?_)
        · refine ⟨_, rfl, _, _, rfl, rfl, ⟨by decide, by decide, by decide⟩, _, _, rfl, rfl, _, rfl, d, _, rfl, set_left upd_same _, ?_⟩
          refine ⟨_, rfl, d, _, rfl, get_left upd_same, .inl ⟨_, rfl, _, rfl, _, _, rfl, rfl, m0, _, rfl, d, _, rfl, get_left upd_same, _, rfl, _, _, rfl, rfl, wide_div (b := 64) m0 (by omega) (by decide) (by decide), (by show 2 ≤ sizeLine; decide), fun t2 nt2 => ?_⟩⟩
          have ndt2 : d ≠ t2 := ne_of_none upd_same nt2
          refine ⟨t2, _, rfl, SqT.of upd_same, rfl, _, _, rfl, _, _, rfl, _, rfl, d, _, rfl, set_left (by rw [upd_ne ndt2]; exact upd_same) _, rfl, _, rfl, q _ _ ((((But.refl : But d H H).new nt).upd.upd.upd).new nt2).upd ?_ (Int.emod_nonneg _ (by omega)) (Int.emod_lt_of_pos _ m0)⟩
          have nlt2 : l ≠ t2 := ne_of_none (by rw [upd_ne nld, upd_ne nld, upd_ne nld, upd_ne nlt]; exact hl) nt2
          exact ⟨ns, a + 1, _, upd_same, by rw [upd_ne nld, upd_ne nlt2, upd_ne nld, upd_ne nld, upd_ne nld, upd_ne nlt]; exact hl, hne, hlen, by omega, by push_cast; omega⟩
        · refine ⟨_, rfl, d, _, rfl, get_left upd_same, .inl ⟨_, rfl, _, rfl, _, _, rfl, rfl, m0, _, rfl, d, _, rfl, get_left upd_same, _, rfl, _, _, rfl, rfl, wide_div (b := 64) m0 (by omega) (by decide) (by decide), (by show 2 ≤ sizeLine; decide), fun t2 nt2 => ?_⟩⟩
          have ndt2 : d ≠ t2 := ne_of_none upd_same nt2
          refine ⟨t2, _, rfl, SqT.of upd_same, rfl, _, _, rfl, _, _, rfl, _, rfl, d, _, rfl, set_left (by rw [upd_ne ndt2]; exact upd_same) _, rfl, _, rfl, q _ _ ((((But.refl : But d H H).new nt).upd.upd).new nt2).upd ?_ (Int.emod_nonneg _ (by omega)) (Int.emod_lt_of_pos _ m0)⟩
          have nlt2 : l ≠ t2 := ne_of_none (by rw [upd_ne nld, upd_ne nld, upd_ne nlt]; exact hl) nt2
          exact ⟨ns, a + 1, _, upd_same, by rw [upd_ne nld, upd_ne nlt2, upd_ne nld, upd_ne nld, upd_ne nlt]; exact hl, hne, hlen, by omega, by push_cast; omega⟩
      · refine iteF ?_
        refine ⟨_, rfl, d, _, rfl, get_left upd_same, .inl ⟨_, rfl, _, rfl, _, _, rfl, rfl, m0, _, rfl, d, _, rfl, get_left upd_same, _, rfl, _, _, rfl, rfl, wide_div (b := 64) m0 (by omega) (by decide) (by decide), (by show 2 ≤ sizeLine; decide), fun t2 nt2 => ?_⟩⟩
        have ndt2 : d ≠ t2 := ne_of_none upd_same nt2
        refine ⟨t2, _, rfl, SqT.of upd_same, rfl, _, _, rfl, _, _, rfl, _, rfl, d, _, rfl, set_left (by rw [upd_ne ndt2]; exact upd_same) _, rfl, _, rfl, q _ _ ((((But.refl : But d H H).new nt).upd.upd).new nt2).upd ?_ (Int.emod_nonneg _ (by omega)) (Int.emod_lt_of_pos _ m0)⟩
        have nlt2 : l ≠ t2 := ne_of_none (by rw [upd_ne nld, upd_ne nld, upd_ne nlt]; exact hl) nt2
        exact ⟨ns, a + 1, _, upd_same, by rw [upd_ne nld, upd_ne nlt2, upd_ne nld, upd_ne nld, upd_ne nlt]; exact hl, hne, hlen, by omega, by push_cast; omega⟩
    · refine ⟨_, rfl, d, _, rfl, get_left hd, .inl ⟨_, rfl, _, rfl, _, _, rfl, rfl, m0, _, rfl, d, _, rfl, get_left hd, _, rfl, _, _, rfl, rfl, wide_div (b := 64) m0 (by omega) (by decide) (by decide), (by show 2 ≤ sizeLine; decide), fun t nt => ?_⟩⟩
      have ndt : d ≠ t := ne_of_none hd nt
      refine ⟨t, _, rfl, SqT.of upd_same, rfl, _, _, rfl, _, _, rfl, _, rfl, d, _, rfl, set_left (by rw [upd_ne ndt]; exact hd) _, rfl, _, rfl, q _ _ (((But.refl : But d H H)).new nt).upd ?_ (Int.emod_nonneg _ (by omega)) (Int.emod_lt_of_pos _ m0)⟩
      exact ⟨ns, a, _, upd_same, by rw [upd_ne (ne_of hl hd (by intro z; cases z)), upd_ne (ne_of_none hl nt)]; exact hl, hne, hlen, by omega, by push_cast; omega⟩
end
end Toy


namespace Toy
open PySem L2
section
variable {P : Program} {w : World} {K : PySem.W.Frag} {mg : Str → Option Value} {base : Heap}
theorem cut63 (ns : List Int) (h : ns.length ≤ 63) : cutV (ns.map V.int) none (some 63) = ns.map V.int := by
  unfold cutV
  rw [show HT.sIx (ns.map V.int).length (ns.map V.int).length (some 63) = min 63 (ns.map V.int).length from HT.sIx_nat _ _ 63, HT.sIx_none, List.length_map, show min 63 ns.length = ns.length by omega, List.drop_zero, Nat.sub_zero]
  exact List.take_of_length_le (by rw [List.length_map]; exact Nat.le_refl _)
theorem merge_tp (l : Addr) : mergeK [] [(kC, V.ref l), (kA, V.int 0), (kL, V.int 0)] = tp l 0 0 := by
  unfold mergeK
  simp only [List.foldl_cons, List.foldl_nil]
  unfold putK
  simp [k_ca, k_cl, k_al]
  rfl
def spBegin (K : PySem.W.Frag) : Sp := fun vs H Q _ => ∃ (a : Addr) (ns : List Int), vs = [.ref a] ∧ SqL K H a (ns.map V.int) ∧ ns.length ≤ 63 ∧ ∀ H' d l, Same H H' → H d = none → H l = none → l ≠ d → Tape H' d l 0 → Q (.ref d) H'
theorem scB : FnScope ["_law_script"] ["_law_script"] (defScope sBegin) := ⟨rfl, rfl, rfl, by decide +kernel, rfl, by decide +kernel, by decide +kernel⟩
theorem same_new {H H1 : Hp} {p : Addr} {u : HO} (a : Same H H1) (hp : H1 p = none) : Same H (upd H1 p u) := fun x o e => by
  rw [upd_ne (ne_of_none (a x o e) hp)]
  exact a x o e
theorem ok_begin {f : Addr} {fd : FuncData} (F : Fun K "_law_begin" "_law_begin" sBegin f fd) : FnOk P w K mg base CX0 1 f fd ["_law_script"] (spBegin K) := by
  refine F.ok scB (fun vs H Q E h => ?_) (fun cdv A outer s H vs Q E hr h => ?_)
  · obtain ⟨a, ns, rfl, _⟩ := h
    rfl
  · obtain ⟨a, ns, rfl, hS, hlen, q⟩ := h
    refine ⟨_, pss_one (ps_ret (pe_disp (pps_cons pe_str (pe_orT (pe_slice sl_list (pv 0) po_none (po_some pe_int)) (pe_one (pe_lst (pa_cons pe_int pa_nil)))) (pps_cons pe_str pe_int (pps_cons pe_str pe_int pps_nil))) (by rfl) (by rfl) (fun z => by cases z) (by decide))), ?_⟩
    intro p np
    have s1 : Same H (upd H p (.dK [])) := same_new (fun _ _ e => e) np
    refine ⟨_, rfl, 63, rfl, a, _, rfl, s1.seq hS, fun c nc => ?_⟩
    have npc : p ≠ c := ne_of_none upd_same nc
    refine ⟨_, .inl ⟨_, SqL.of upd_same, rfl⟩, ?_⟩
    have fin : ∀ (H2 : Hp) (l : Addr) (ms : List Int), H l = none → Same (upd H p (.dK [])) H2 → H2 l = some (.lst (ms.map V.int)) → ms ≠ [] → ms.length ≤ 1000 → Q (.ref p) (upd H2 p (.dK (mergeK [] [(kC, V.ref l), (kA, V.int 0), (kL, V.int 0)]))) := by
      intro H2 l ms nl s2 hl h1 h2
      have npl : l ≠ p := ne_of hl (s2 _ _ upd_same) (by intro z; cases z)
      rw [merge_tp]
      refine q _ p l (fun b o e => ?_) np nl npl ⟨ms, 0, 0, upd_same, by rw [upd_ne npl]; exact hl, h1, h2, Int.le_refl _, Int.le_refl _⟩
      rw [upd_ne (ne_of_none e np)]
      exact s2 _ _ (s1 _ _ e)
    refine ite2 (fun c1 => ?_) (fun c1 => ?_)
    · refine ⟨Eq.trans (upd_ne npc) upd_same, [(kC, V.ref c), (kA, V.int 0), (kL, V.int 0)], rfl, (by show 3 ≤ 15; decide), fin _ c ns (by rw [upd_ne npc.symm] at nc; exact nc) (same_new (fun _ _ e => e) nc) (by rw [upd_same, cut63 ns hlen]) ?_ (by omega)⟩
      intro z
      rw [z] at c1
      exact Bool.false_ne_true c1
    · refine ⟨(by show 1 ≤ sizeLine; decide), fun e ne => ?_⟩
      have npe : p ≠ e := ne_of_none (Eq.trans (upd_ne npc) upd_same) ne
      refine ⟨Eq.trans (upd_ne npe) (Eq.trans (upd_ne npc) upd_same), [(kC, V.ref e), (kA, V.int 0), (kL, V.int 0)], rfl, (by show 3 ≤ 15; decide), fin _ e [0] (by rw [upd_ne (ne_of_none upd_same ne).symm, upd_ne npe.symm] at ne; exact ne) (same_new (same_new (fun _ _ e => e) nc) ne) upd_same (by decide) (by decide)⟩
end
end Toy


namespace L2
open PySem PySem.Spec PyProof.Rows
/-! The law's own def, run by its caller alone (so that what runs around it is known: repr asks that). -/
/-- the body of the law, in the caller's surroundings -/
def BodyOk (P : Program) (w : World) (K : PySem.W.Frag) (mg : Str → Option Value) (base : Heap) (k : Nat) (N : List Str) (qual : Str) (sc : Scope) (body : List Stmt) (f : Addr) (sp : Sp) : Prop :=
  ∀ (cdv : Value) (s : Shared) (H : Hp) (vs : List V) (Q : VK) (E : XK), Room k (callerA.deeper (envOfC qual sc s.heap.objs.size f cdv)) → sp vs H Q E →
    ∃ t, PSs (cxOf CX0 P w K mg base N qual sc f cdv callerA [] s H E) body t ∧ t { nx := fun _ H' => Q .non H', rt := Q } (start N vs) H
section
variable {P : Program} {w : World} {K : PySem.W.Frag} {mg : Str → Option Value} {base : Heap} {k : Nat} {f : Addr} {x qual : Str} {params : Arguments} {body : List Stmt} {sc : Scope} {N ps : List Str} {sp : Sp} {fd : FuncData}
theorem body_run (F : FunD K x qual params body sc [] [] f fd) (S : FnScope N ps sc) (B : BodyOk P w K mg base k N qual sc body f sp) {s : Shared} {H : Hp} {args : Args} {us : List Value} {vs : List V} {Q : VK} {E : XK} (hr : Room (k + 1) callerA)
    (e0 : Env0 P w K mg base callerA [] s H) (hb : BindsTo s fd args (ps.zip us)) (r : Vals vs us) (hl : vs.length = ps.length) (h : sp vs H Q E) : codeAny (model P w) callerA (.call (.ref f) args) (CR CX0 [] P w H s Q E) s := by
  obtain ⟨oc, od, dV, kV, doc, pm, an, cdv, ct, osl, rfl, lk, hcd, _, _⟩ := F.ex
  have up : ∀ b o, base.get? b = some o → s.heap.get? b = some o := fun b o e => (e0.bs b o e).1
  have KX : K.In s.heap := e0.mod.kin.keeps up
  have kinds : ∀ y ∈ ps.zip us, sc.names.lookup y.1 = some .local ∨ (sc.names.lookup y.1 = some .cell ∧ ((cellsFrom (s.heap.objs.size + 1) sc.names []).lookup y.1).isSome = true) := by
    rintro ⟨n, v⟩ hy
    exact (S.par n (List.of_mem_zip hy).1).imp id fun q => ⟨q, PySem.W.cellsFrom_some _ _ _ (.inl q)⟩
  refine codeAny_call_function hr.depth (KX _ _ lk) rfl S.co S.gen rfl (PySem.W.codeRec_of KX hcd) (hb _ _ _ _ (wpAny_newFunctionEnv_cells S.kind kinds fun env he s1 x => ?_))
  subst he
  obtain ⟨t, ht, hq⟩ := B cdv s H vs Q E (hr.deeper _) h
  refine ⟨(e0.mod.nolimit.keeps up).keeps x.toInCall.keep, codeAny_func (wpAny_mono (ht.run [] s1 (start N vs) H _ (inv_start S hr.hd e0 hl r x) hq) (fun fl s' hs => ?_) fun e s' hs => hs)⟩
  cases fl with
  | ret u =>
    obtain ⟨v, σ', H', J, rv, q⟩ := hs
    exact ⟨v, H', J.os, J.bare, J.base, J.hok, rv, q⟩
  | next =>
    obtain ⟨σ', H', J, q⟩ := hs
    exact ⟨V.non, H', J.os, J.bare, J.base, J.hok, rfl, q⟩
  | brk =>
    obtain ⟨_, _, _, q⟩ := hs
    exact False.elim q
  | cont =>
    obtain ⟨_, _, _, q⟩ := hs
    exact False.elim q
end
end L2
namespace L2
open PySem PySem.Spec PyProof.Rows
section
variable {P : Program} {w : World} {K : PySem.W.Frag} {mg mb : Str → Option Value} {k : Nat} {a fa : Addr} {x qual nm : Str} {params : Arguments} {body : List Stmt} {sc : Scope} {N : List Str} {sp : Sp} {fd : FuncData} {s : Shared} {vs : List Value} {ns : List Int}
/-- where the abstract heap tracks the script alone (or nothing) -/
theorem ground_of {H : Hp} (KX : K.In s.heap) (g : s.heap.Ns mainGlobals mg) (b : s.heap.Ns builtinsNs mb) (bb : ∀ x : Str, x ≠ "__name__" → mb x = bootBuiltins x) (lim : s.heap.NoLimit) (gen : s.gens = #[])
    (ha : s.heap.get? a = some { cls := .type "list", data := .seq vs.toArray }) (hok : HOk P w H s.heap) (only : ∀ c, H c ≠ none → c = a) (out : H a ≠ none → K.lookup a = none) :
    ∃ base : Heap, K.In base ∧ base.Ns mainGlobals mg ∧ Env0 P w K mg base callerA [] s H := by
  have get : ∀ {c : Addr} {o : Obj}, s.heap.get? c = some o → H c = none → (hidT s.heap H).get? c = some o := fun e n => hidT_get e n
  have tab : ∀ {c : Addr} {m : Str → Option Value}, s.heap.Ns c m → (hidT s.heap H).Ns c m := by
    rintro c m ⟨o, es, ep, e, d, r⟩
    refine ⟨o, es, ep, get e (Classical.byContradiction fun q => ?_), d, r⟩
    have ca := only c q
    subst ca
    rw [ha] at e
    cases e
    cases (show Data.seq vs.toArray _ = Data.dict es ep from d)
  have kin : K.In (hidT s.heap H) := fun c o e => get (KX c o e) (Classical.byContradiction fun q => by
    have ca := only c q
    subst ca
    rw [out q] at e
    cases e)
  obtain ⟨mc, l1, l2⟩ := lim
  exact ⟨hidT s.heap H, kin, tab g, rfl, ⟨kin, tab g, ⟨mb, tab b, bb⟩, mc, tab l1, l2⟩, fun c o e => of_hidT e, Nat.le_of_eq (hidT_size _ _), trivial, (fun c hc => nomatch hc), hok, .of_eq gen⟩
theorem law_run (F : FunD K nm qual params body sc [] [] fa fd) (S : FnScope N [x] sc) (B : ∀ base : Heap, K.In base → base.Ns mainGlobals mg → BodyOk P w K mg base k N qual sc body fa sp) (hb : ∀ (s : Shared) (u : Value), BindsTo s fd ⟨[u], []⟩ [(x, u)]) (hr : Room (k + 1) callerA)
    (hsp : ∀ H : Hp, SqL K H a (ns.map V.int) → sp [.ref a] H (fun v _ => v = .bl true) fun _ _ _ => False)
    (KX : K.In s.heap) (g : s.heap.Ns mainGlobals mg) (b : s.heap.Ns builtinsNs mb) (bb : ∀ x : Str, x ≠ "__name__" → mb x = bootBuiltins x) (lim : s.heap.NoLimit) (gen : s.gens = #[])
    (ha : s.heap.get? a = some { cls := .type "list", data := .seq vs.toArray }) (hi : IntsAre vs ns) (hl : ns.length ≤ sizeLine) :
    codeAny (model P w) callerA (.call (.ref fa) ⟨[.ref a], []⟩) (fun r s' => r = .ok (.ret (.bool true)) ∧ OldK s.heap s'.heap ∧ s'.os = s.os ∧ AllBare s'.gens) s := by
  have run : ∀ H : Hp, SqL K H a (ns.map V.int) → HOk P w H s.heap → (∀ c, H c ≠ none → c = a) → (H a ≠ none → K.lookup a = none) → (∀ c u, H c = some u → ∃ o xs, u = .frz o (.lst xs)) →
      codeAny (model P w) callerA (.call (.ref fa) ⟨[.ref a], []⟩) (fun r s' => r = .ok (.ret (.bool true)) ∧ OldK s.heap s'.heap ∧ s'.os = s.os ∧ AllBare s'.gens) s := by
    intro H hS hok only out frz
    obtain ⟨base, k1, k2, e0⟩ := ground_of KX g b bb lim gen ha hok only out
    refine codeAny_mono (body_run (us := [.ref a]) (vs := [.ref a]) F S (B base k1 k2) hr e0 (hb s (.ref a)) (.cons rfl .nil) rfl (hsp H hS)) fun r s' q => ?_
    cases r with
    | error e => exact False.elim q
    | ok fl =>
      cases fl with
      | next => exact False.elim q
      | brk => exact False.elim q
      | cont => exact False.elim q
      | ret u =>
        obtain ⟨v, H', os, bare, un, hok', rv, ev⟩ := q
        have ev' : v = .bl true := ev
        subst ev'
        obtain rfl : u = Value.bool true := rv
        refine ⟨rfl, OldK.of_keep fun c o e => ?_, os, bare⟩
        cases q : H c with
        | none => exact un.keep c o e q (fun z => nomatch z) (fun z => nomatch z)
        | some u =>
          obtain ⟨ob, xs, rfl⟩ := frz c u q
          obtain ⟨e1, _⟩ := hok c _ q
          obtain ⟨e2, _⟩ := hok' c _ (un.frzs c ob _ q)
          rw [e] at e1
          cases e1
          exact e2
  have rv := vals_ints hi
  cases hk : K.lookup a with
  | some o =>
    have e := KX a o hk
    rw [ha] at e
    cases e
    exact run (fun _ => none) (.inr ⟨_, vs.toArray, _, hk, rfl, rfl, rfl, by rw [List.size_toArray, hi.length]; exact hl, by simpa using rv⟩) (fun c u z => nomatch z) (fun c z => absurd rfl z) (fun z => absurd rfl z) fun c u z => nomatch z
  | none =>
    refine run (fun c => if c = a then some (.frz { cls := .type "list", data := .seq vs.toArray } (.lst (ns.map V.int))) else none) (.inl (.inr ⟨{ cls := .type "list", data := .seq vs.toArray }, if_pos rfl⟩)) (fun c u z => ?_)
      (fun c z => Classical.byContradiction fun q => z (if_neg q)) (fun _ => hk) fun c u z => ?_
    · by_cases hc : c = a
      · have z' := (if_pos hc).symm.trans z
        cases z'
        subst hc
        exact ⟨ha, by rw [List.length_map]; exact hl, vs, _, rv, ha⟩
      · cases (if_neg hc).symm.trans z
    · by_cases hc : c = a
      · cases (if_pos hc).symm.trans z
        exact ⟨_, _, rfl⟩
      · cases (if_neg hc).symm.trans z
end
/-- the end -/
theorem walkG {l : PySem.W.OpenLaw} {n k : Nat} {q : Program} {loose : List Str} {XP : (Str → Option Value) → Heap → Prop} {YP : World → Heap → Prop} {d : DefRec} {x : Str} (hn : l.most = some n) (hn2 : n ≤ sizeLine) (hdf : d.params.defaults = []) (hr : Room (k + 1) callerA)
    (F : ∀ (w : World) (mg : Str → Option Value) (fa : Addr) (h : Heap), YP w h → h.Ns mainGlobals mg → mg d.name = some (.ref fa) →
      ∃ (K : PySem.W.Frag) (fd : FuncData) (nm qual : Str) (params : Arguments) (body : List Stmt) (sc : Scope) (N : List Str) (sp : Sp), K.In h ∧ FunD K nm qual params body sc [] [] fa fd ∧ FnScope N [x] sc ∧ (∀ (s : Shared) (u : Value), BindsTo s fd ⟨[u], []⟩ [(x, u)]) ∧
        (∀ (H : Hp) (a : Addr) (ns : List Int), ns.length ≤ n → SqL K H a (ns.map V.int) → sp [.ref a] H (fun v _ => v = .bl true) fun _ _ _ => False) ∧
        ∀ base : Heap, K.In base → base.Ns mainGlobals mg → BodyOk l.prog w K mg base k N qual sc body fa sp) :
    PySem.W.WalkO q loose XP YP l.row.toRowW d [] (fun f vs => PySem.call f vs) := by
  refine Att.attach_call hn hdf fun w s₀ s₁ mg mb fa o pm cd doc a vs ns G Y ho hd hcd hmg hobj hints hlen hg => ?_
  obtain ⟨K, fd, nm, qual, params, body, sc, N, sp, KX, FD, S, hb, hsp, B⟩ := F w mg fa _ Y G.T.g hmg
  exact law_run FD S B hb hr (fun H hS => hsp H a ns hlen hS) KX G.T.g G.T.b G.T.builtins G.T.nolimit hg hobj hints (Nat.le_trans hlen hn2)
end L2


namespace Toy
open PySem L2
theorem Same.delH {H H' : Hp} (s : Same H H') (z : Addr) : Same (L2.delH H z) (L2.delH H' z) := fun b o e => by
  by_cases h : b = z
  · rw [h, delH_same] at e
    cases e
  · rw [delH_ne h] at e ⊢
    exact s b o e
theorem Same.off {H : Hp} (z : Addr) : Same (L2.delH H z) H := fun b o e => by
  by_cases h : b = z
  · rw [h, delH_same] at e
    cases e
  · rw [delH_ne h] at e
    exact e
theorem But.off {H H' : Hp} {z : Addr} (s : But z H H') : Same (L2.delH H z) (L2.delH H' z) := fun b o e => by
  by_cases h : b = z
  · rw [h, delH_same] at e
    cases e
  · rw [delH_ne h] at e ⊢
    exact s b o h e
theorem Same.but {H H' : Hp} (s : Same H H') (z : Addr) : But z H H' := fun b o _ e => s b o e
theorem few {n : Nat} (h : n ≤ 1000) : n ≤ sizeLine := Nat.le_of_lt (small1000 h)
theorem Tape.same {H H' : Hp} {d l : Addr} {n : Nat} (t : Tape H d l n) (s : Same H H') : Tape H' d l n := by
  obtain ⟨ns, a, f, h1, h2, h3⟩ := t
  exact ⟨ns, a, f, s _ _ h1, s _ _ h2, h3⟩
abbrev partOf (st : Stmt) (i : Nat) : Stmt := (defBody st).getD i (.Pass ⟨0, 0, 0, 0⟩)
end Toy


namespace Toy
open PySem L2 PyProof.Rows
theorem dpStrs {K : PySem.W.Frag} {H : Hp} : ∀ ks : List Str, DpAll K H (ks.map V.str) (ks.map PyData.str)
  | [] => .nil
  | k :: ks => .cons (.str k) (dpStrs ks)
theorem layStrs : ∀ {ks : List Str}, (∀ k ∈ ks, PyData.strOk k = true) → PyData.canLayAll0 (ks.map PyData.str) = true
  | [], _ => by simp [PyData.canLayAll0]
  | k :: ks, h => by
    simp only [List.map_cons, PyData.canLayAll0, PyData.canLay0]
    rw [h k List.mem_cons_self, layStrs fun x hx => h x (List.mem_cons_of_mem _ hx)]
    rfl
theorem depthStrs : ∀ ks : List Str, PyData.depthAll (ks.map PyData.str) ≤ 1
  | [] => by simp [PyData.depthAll]
  | k :: ks => by
    have := depthStrs ks
    simp only [List.map_cons, PyData.depthAll, PyData.depth]
    omega
theorem shapedStrs {ks : List Str} (h : ∀ k ∈ ks, PyData.strOk k = true) : SeqAt.shaped (.list (ks.map PyData.str)) = true := by
  unfold SeqAt.shaped
  have z := depthStrs ks
  rw [show (PyData.list (ks.map PyData.str)).canLay0 = true by simp only [PyData.canLay0]; exact layStrs h, Bool.true_and]
  exact decide_eq_true (by simp only [PyData.depth]; omega)
theorem Tape.at {H : Hp} {d l : Addr} {n : Nat} (t : Tape H d l n) : (∃ o, H d = some o) ∧ ∃ o, H l = some o := by
  obtain ⟨ns, a, f, h1, h2, _⟩ := t
  exact ⟨⟨_, h1⟩, _, h2⟩
theorem Tape.upd {H : Hp} {d l p : Addr} {n : Nat} {u : HO} (t : Tape H d l n) (h1 : d ≠ p) (h2 : l ≠ p) : Tape (L2.upd H p u) d l n := by
  obtain ⟨ns, a, f, e1, e2, e3⟩ := t
  exact ⟨ns, a, f, by rw [upd_ne h1]; exact e1, by rw [upd_ne h2]; exact e2, e3⟩
theorem nodup_fst_put {kvs : List (Key × V)} {k : Key} {v : V} (h : k ∉ kvs.map (·.1)) : putK kvs k v = kvs ++ [(k, v)] := by
  unfold putK
  rw [if_neg]
  simpa using h
theorem merge_new : ∀ (more kvs : List (Key × V)), ((kvs ++ more).map (·.1)).Nodup → mergeK kvs more = kvs ++ more
  | [], kvs, _ => by simp [mergeK]
  | p :: more, kvs, h => by
    have e : mergeK kvs (p :: more) = mergeK (putK kvs p.1 p.2) more := by simp [mergeK]
    have hp : p.1 ∉ kvs.map (·.1) := by
      rw [List.map_append, List.nodup_append] at h
      intro z
      exact h.2.2 _ z _ (by simp) rfl
    rw [e, nodup_fst_put hp, merge_new more (kvs ++ [(p.1, p.2)]) (by simpa using h)]
    simp
theorem same_put {H H1 : Hp} {D : Addr} {u : HO} (s : Same H H1) (n : H D = none) : Same H (upd H1 D u) := fun b o e => by
  rw [upd_ne (ne_of_none e n)]
  exact s _ _ e
theorem same_id {H : Hp} : Same H H := fun _ _ z => z
theorem Tape.more {H : Hp} {d l : Addr} {n m : Nat} (t : Tape H d l n) (h : n ≤ m) : Tape H d l m := by
  obtain ⟨ns, a, f, h1, h2, h3, h4, h5, h6⟩ := t
  exact ⟨ns, a, f, h1, h2, h3, h4, h5, by omega⟩
abbrev sPick : Stmt := top 40
def spPick : Sp := fun vs H Q _ => ∃ (d l p : Addr) (n : Nat) (xs : List V), vs = [.ref d, .ref p] ∧ Tape H d l n ∧ n ≤ 1000000 ∧ H p = some (.lst xs) ∧ xs ≠ [] ∧ xs.length < 1000000 ∧
  ∀ H' v, But d H H' → Tape H' d l (n + 1) → v ∈ xs → Q v H'
section
variable {P : Program} {w : World} {K : PySem.W.Frag} {mg : Str → Option Value} {base : Heap}
theorem scP : FnScope ["_law_tape", "_law_items"] ["_law_tape", "_law_items"] (defScope sPick) := ⟨rfl, rfl, rfl, by decide +kernel, rfl, by decide +kernel, by decide +kernel⟩
theorem ok_pick {f fD : Addr} {fd fdD : FuncData} (F : Fun K "_law_pick" "_law_pick" sPick f fd) (GD : FnOk P w K mg base CX0 1 fD fdD ["_law_tape", "_law_many"] spDraw) (mD : mg "_law_draw" = some (.ref fD)) (kD : PySem.W.keepIn K (.ref fD) = true) (bD : Binds K fdD ["_law_tape", "_law_many"] []) (mLen : mg "len" = none) : FnOk P w K mg base CX0 2 f fd ["_law_tape", "_law_items"] spPick := by
  refine F.ok scP (fun vs H Q E h => ?_) (fun cdv A outer s H vs Q E hr h => ?_)
  · obtain ⟨d, l, p, n, xs, rfl, _⟩ := h
    rfl
  · obtain ⟨d, l, p, n, xs, rfl, hT, hn, hp, hne, hlen, q⟩ := h
    refine ⟨_, pss_one (ps_ret (pe_ix ix_list (pv 1) (pe_call GD hr rfl mD kD bD .nil pass0 (pa_cons (pv 0) (pa_cons (pe_callB call_len_seq (by rfl) mLen PySem.boot_len (pa_cons (pv 1) pa_nil)) pa_nil))) (fun _ _ => rfl))), ?_⟩
    have lp : 0 < xs.length := List.length_pos_iff.mpr hne
    refine ⟨_, rfl, _, rfl, _, rfl, p, _, rfl, .inl (SqL.of hp), d, l, n, _, rfl, hT, hn, (by omega), (by omega), fun H1 r hb hT1 r0 r1 => ?_⟩
    have npd : p ≠ d := by
      obtain ⟨ns, a, f, hd, _⟩ := hT
      exact ne_of hp hd (by intro z; cases z)
    obtain ⟨j, ej⟩ : ∃ j : Nat, r = (j : Int) := ⟨r.toNat, by omega⟩
    have hj : j < xs.length := by omega
    refine ⟨p, xs, _, xs[j], rfl, rfl, SqL.of (hb _ _ npd hp), (by rw [ej]; exact atI_nat (List.getElem?_eq_getElem hj)), q _ _ hb hT1 (List.getElem_mem hj)⟩
end
end Toy


namespace Toy
open PySem PySem.Spec L2 PyProof.Rows PySem.W
def okK (k : Str) : Bool := (PyData.strOk k && decide (k.length ≤ 1000)) && decide (37 ∉ k.cps.toList)
theorem okK_1 {k : Str} (h : okK k = true) : PyData.strOk k = true := by
  unfold okK at h
  rw [Bool.and_eq_true, Bool.and_eq_true] at h
  exact h.1.1
theorem okK_2 {k : Str} (h : okK k = true) : k.length ≤ 1000 := by
  unfold okK at h
  rw [Bool.and_eq_true, Bool.and_eq_true] at h
  exact of_decide_eq_true h.1.2
theorem okK_3 {k : Str} (h : okK k = true) : 37 ∉ k.cps.toList := by
  unfold okK at h
  rw [Bool.and_eq_true] at h
  exact of_decide_eq_true h.2
/-! ### values: leaves, tuples, and lists and dicts that are never looked into -/
inductive Dt where
  | non
  | bl (b : Bool)
  | int (i : Int)
  | str (x : Str)
  | tup (l : List Dt)
  | opq
mutual
def nd : Dt → Nat
  | .tup l => ndL l + 1
  | .non => 0
  | .bl _ => 0
  | .int _ => 0
  | .str _ => 0
  | .opq => 0
def ndL : List Dt → Nat
  | [] => 0
  | t :: l => nd t + ndL l
end
mutual
def dep : Dt → Nat
  | .tup l => depL l + 1
  | .non => 0
  | .bl _ => 0
  | .int _ => 0
  | .str _ => 0
  | .opq => 0
def depL : List Dt → Nat
  | [] => 0
  | t :: l => max (dep t) (depL l)
end
mutual
def okd (c : Nat) : Dt → Bool
  | .tup l => decide (l.length ≤ c) && okdL c l
  | .non => true
  | .bl _ => true
  | .int _ => true
  | .str x => okK x
  | .opq => true
def okdL (c : Nat) : List Dt → Bool
  | [] => true
  | t :: l => okd c t && okdL c l
end
mutual
theorem okd_mono {c c' : Nat} (h : c ≤ c') : ∀ t, okd c t = true → okd c' t = true
  | .tup l, z => by
    simp only [okd, Bool.and_eq_true, decide_eq_true_eq] at z ⊢
    exact ⟨Nat.le_trans z.1 h, okdL_mono h l z.2⟩
  | .non, _ => by simp [okd]
  | .bl _, _ => by simp [okd]
  | .int _, _ => by simp [okd]
  | .str _, z => by simpa [okd] using z
  | .opq, _ => by simp [okd]
theorem okdL_mono {c c' : Nat} (h : c ≤ c') : ∀ l, okdL c l = true → okdL c' l = true
  | [], _ => by simp [okdL]
  | t :: l, z => by
    simp only [okdL, Bool.and_eq_true] at z ⊢
    exact ⟨okd_mono h t z.1, okdL_mono h l z.2⟩
end
mutual
inductive Dv (K : PySem.W.Frag) (H : Hp) : V → Dt → Prop
  | non : Dv K H .non .non
  | bl (b : Bool) : Dv K H (.bl b) (.bl b)
  | int (i : Int) : Dv K H (.int i) (.int i)
  | str (x : Str) : Dv K H (.str x) (.str x)
  | tup {a : Addr} {us : List V} {ts : List Dt} : SqT K H a us → DvL K H us ts → Dv K H (.ref a) (.tup ts)
  | lst {a : Addr} {us : List V} : H a = some (.lst us) → Dv K H (.ref a) .opq
  | dct {a : Addr} {m : List (Key × V)} : H a = some (.dK m) → Dv K H (.ref a) .opq
inductive DvL (K : PySem.W.Frag) (H : Hp) : List V → List Dt → Prop
  | nil : DvL K H [] []
  | cons {v : V} {t : Dt} {vs : List V} {ts : List Dt} : Dv K H v t → DvL K H vs ts → DvL K H (v :: vs) (t :: ts)
end
theorem same_seqT {K : PySem.W.Frag} {H H' : Hp} {a : Addr} {xs : List V} (e : Same H H') (h : SqT K H a xs) : SqT K H' a xs := by
  rcases h with (h | ⟨o, h⟩) | h
  · exact .inl (.inl (e _ _ h))
  · exact .inl (.inr ⟨o, e _ _ h⟩)
  · exact .inr h
mutual
theorem dvM {K : PySem.W.Frag} {H H' : Hp} (s : Same H H') : ∀ {v : V} {d : Dt}, Dv K H v d → Dv K H' v d
  | _, _, .non => .non
  | _, _, .bl b => .bl b
  | _, _, .int i => .int i
  | _, _, .str x => .str x
  | _, _, .tup h a => .tup (same_seqT s h) (dvLM s a)
  | _, _, .lst h => .lst (s _ _ h)
  | _, _, .dct h => .dct (s _ _ h)
theorem dvLM {K : PySem.W.Frag} {H H' : Hp} (s : Same H H') : ∀ {vs : List V} {ds : List Dt}, DvL K H vs ds → DvL K H' vs ds
  | _, _, .nil => .nil
  | _, _, .cons a b => .cons (dvM s a) (dvLM s b)
end
theorem dvl_len {K : PySem.W.Frag} {H : Hp} : ∀ {vs : List V} {ds : List Dt}, DvL K H vs ds → vs.length = ds.length
  | _, _, .nil => rfl
  | _, _, .cons _ t => congrArg Nat.succ (dvl_len t)
theorem dvl_app {K : PySem.W.Frag} {H : Hp} : ∀ {vs : List V} {ds : List Dt} {us : List V} {es : List Dt}, DvL K H vs ds → DvL K H us es → DvL K H (vs ++ us) (ds ++ es)
  | _, _, _, _, .nil, r => r
  | _, _, _, _, .cons a b, r => .cons a (dvl_app b r)
theorem dvl_get {K : PySem.W.Frag} {H : Hp} : ∀ {vs : List V} {ds : List Dt} {i : Nat} {v : V}, DvL K H vs ds → vs[i]? = some v → ∃ d, ds[i]? = some d ∧ Dv K H v d
  | _, _, 0, _, .cons a _, h => by cases h; exact ⟨_, rfl, a⟩
  | _, _, i + 1, _, .cons _ b, h => by
    obtain ⟨d, e, z⟩ := dvl_get (i := i) b (by simpa using h)
    exact ⟨d, by simpa using e, z⟩
  | _, _, _, _, .nil, h => by simp at h
theorem dvl_take {K : PySem.W.Frag} {H : Hp} : ∀ {vs : List V} {ds : List Dt} (n : Nat), DvL K H vs ds → DvL K H (vs.take n) (ds.take n)
  | _, _, 0, _ => by simpa using DvL.nil
  | _, _, n + 1, .nil => by simpa using DvL.nil
  | _, _, n + 1, .cons a b => by simpa using DvL.cons a (dvl_take n b)
theorem dvl_drop {K : PySem.W.Frag} {H : Hp} : ∀ {vs : List V} {ds : List Dt} (n : Nat), DvL K H vs ds → DvL K H (vs.drop n) (ds.drop n)
  | _, _, 0, h => by simpa using h
  | _, _, n + 1, .nil => by simpa using DvL.nil
  | _, _, n + 1, .cons a b => by simpa using dvl_drop n b
theorem dvl_rev {K : PySem.W.Frag} {H : Hp} : ∀ {vs : List V} {ds : List Dt}, DvL K H vs ds → DvL K H vs.reverse ds.reverse
  | _, _, .nil => by simpa using DvL.nil
  | _, _, .cons a b => by
    rw [List.reverse_cons, List.reverse_cons]
    exact dvl_app (dvl_rev b) (.cons a .nil)
/-! sizes -/
theorem ndL_app : ∀ a b, ndL (a ++ b) = ndL a + ndL b
  | [], b => by simp [ndL]
  | t :: a, b => by simp only [List.cons_append, ndL, ndL_app a b]; omega
theorem depL_app : ∀ a b, depL (a ++ b) = max (depL a) (depL b)
  | [], b => by simp [depL]
  | t :: a, b => by simp only [List.cons_append, depL, depL_app a b]; omega
theorem okdL_app (c : Nat) : ∀ a b, okdL c (a ++ b) = (okdL c a && okdL c b)
  | [], b => by simp [okdL]
  | t :: a, b => by simp only [List.cons_append, okdL, okdL_app c a b, Bool.and_assoc]
theorem okdL_all (c : Nat) : ∀ l, okdL c l = l.all (okd c)
  | [] => by simp [okdL]
  | t :: l => by simp only [okdL, List.all_cons, okdL_all c l]
theorem dep_mem : ∀ {l : List Dt} {t : Dt}, t ∈ l → dep t ≤ depL l
  | a :: l, t, h => by
    rw [depL]
    rcases List.mem_cons.mp h with rfl | h
    · omega
    · have := dep_mem h
      omega
theorem nd_mem : ∀ {l : List Dt} {t : Dt}, t ∈ l → nd t ≤ ndL l
  | a :: l, t, h => by
    rw [ndL]
    rcases List.mem_cons.mp h with rfl | h
    · omega
    · have := nd_mem h
      omega
theorem depL_le {l : List Dt} {e : Nat} (h : ∀ t ∈ l, dep t ≤ e) : depL l ≤ e := by
  induction l with
  | nil => simp [depL]
  | cons a l ih =>
    rw [depL]
    have h1 := h a List.mem_cons_self
    have h2 := ih fun t ht => h t (List.mem_cons_of_mem _ ht)
    omega
/-- a value of at most n tuples, e deep, of tuples no longer than c, off the tape -/
def Fv (K : PySem.W.Frag) (d : Addr) (H : Hp) (c n e : Nat) (v : V) : Prop := ∃ t, Dv K (delH H d) v t ∧ nd t ≤ n ∧ dep t ≤ e ∧ okd c t = true
theorem Fv.but {K : PySem.W.Frag} {d : Addr} {H H' : Hp} {c n e : Nat} {v : V} (h : Fv K d H c n e v) (b : But d H H') : Fv K d H' c n e v := by
  obtain ⟨t, h1, h2⟩ := h
  exact ⟨t, dvM (But.off b) h1, h2⟩
theorem Fv.mono {K : PySem.W.Frag} {d : Addr} {H : Hp} {c n n' e e' : Nat} {v : V} (h : Fv K d H c n e v) (k : n ≤ n') (k2 : e ≤ e') : Fv K d H c n' e' v := by
  obtain ⟨t, h1, h2, h3, h4⟩ := h
  exact ⟨t, h1, Nat.le_trans h2 k, Nat.le_trans h3 k2, h4⟩
theorem Fv.wide {K : PySem.W.Frag} {d : Addr} {H : Hp} {c c' n e : Nat} {v : V} (h : Fv K d H c n e v) (k : c ≤ c') : Fv K d H c' n e v := by
  obtain ⟨t, h1, h2, h3, h4⟩ := h
  exact ⟨t, h1, h2, h3, okd_mono k t h4⟩
/-- fields of a tuple: k of them, of at most n tuples, e deep -/
def Fa (K : PySem.W.Frag) (d : Addr) (H : Hp) (c k n e : Nat) (vs : List V) : Prop := vs.length = k ∧ ∃ ts, DvL K (delH H d) vs ts ∧ ndL ts ≤ n ∧ depL ts ≤ e ∧ okdL c ts = true
section
variable {K : PySem.W.Frag} {d : Addr} {H : Hp} {c n n2 e k : Nat} {v : V} {vs : List V}
theorem fa_nil : Fa K d H c 0 0 e [] := ⟨rfl, [], .nil, by simp [ndL], by simp [depL], by simp [okdL]⟩
theorem fa_cons (h : Fv K d H c n e v) (r : Fa K d H c k n2 e vs) : Fa K d H c (k + 1) (n + n2) e (v :: vs) := by
  obtain ⟨t, h1, h2, h3, h4⟩ := h
  obtain ⟨rl, ts, r1, r2, r3, r4⟩ := r
  refine ⟨by rw [List.length_cons, rl], t :: ts, .cons h1 r1, ?_, ?_, ?_⟩
  · rw [ndL]; omega
  · rw [depL]; omega
  · rw [okdL, h4, r4]; rfl
theorem mkF {T : Addr} (hd : ∃ o, H d = some o) (nT : H T = none) (hf : Fa K d H c k n e vs) (hk : k ≤ c) : Fv K d (upd H T (.tup vs)) c (n + 1) (e + 1) (.ref T) := by
  obtain ⟨hl, ts, h1, h2, h3, h4⟩ := hf
  obtain ⟨o, ho⟩ := hd
  have nTd : T ≠ d := (ne_of_none ho nT).symm
  have s : Same (delH H d) (delH (upd H T (.tup vs)) d) := Same.delH (same_new same_id nT) d
  have lt := dvl_len h1
  refine ⟨.tup ts, .tup (SqT.of ((delH_ne nTd).trans upd_same)) (dvLM s h1), ?_, ?_, ?_⟩
  · rw [nd]; omega
  · rw [dep]; omega
  · rw [okd, h4, Bool.and_true]
    exact decide_eq_true (by omega)
end
end Toy


namespace Toy
open PySem PySem.Spec L2 PyProof.Rows PySem.W
theorem asg_run {te : TE} {g : TG} {rest : TS} {D : Ends} {σ : L2.St} {H : Hp} (h : te σ H fun x H1 => g x σ H1 fun σ2 H2 => rest D σ2 H2) : tSeq (tAsg te g) rest D σ H := h
theorem ret_run {te : TE} {D : Ends} {σ : L2.St} {H : Hp} (h : te σ H D.rt) : tRet te D σ H := h
/-! ### drawn things: what an expression draws, and what it gives -/
def Stb (d : Addr) (J : Hp → Prop) : Prop := ∀ H H', But d H H' → J H → J H'
def Dr (d l : Addr) (J : Hp → Prop) (te : TE) (σ : L2.St) (m : Nat) (R : Hp → V → Prop) : Prop := ∀ (H : Hp) (n : Nat) (Q : VK), J H → Tape H d l n → n + m ≤ 900000 → (∀ H' v, But d H H' → Tape H' d l (n + m) → R H' v → Q v H') → te σ H Q
def DrA (d l : Addr) (J : Hp → Prop) (ta : TA) (σ : L2.St) (m : Nat) (R : Hp → List V → Prop) : Prop := ∀ (H : Hp) (n : Nat) (Q : List V → Hp → Prop), J H → Tape H d l n → n + m ≤ 900000 → (∀ H' vs, But d H H' → Tape H' d l (n + m) → R H' vs → Q vs H') → ta σ H Q
def IsW (H : Hp) (v : V) : Prop := ∃ x, v = .str x ∧ okK x = true
section
variable {K : PySem.W.Frag} {d l : Addr} {J : Hp → Prop} {σ : L2.St} {te : TE} {ta : TA} {m m' c k n n2 n' e e' : Nat} {R R' : Hp → V → Prop} {RA : Hp → List V → Prop}
theorem Dr.mono (h : Dr d l J te σ m R) (k : ∀ H v, R H v → R' H v) (hm : m ≤ m') : Dr d l J te σ m' R' := fun H n Q j t b q => h H n Q j t (by omega) fun H' v b t r => q H' v b (t.more (by omega)) (k _ _ r)
theorem DrA.mono {RB : Hp → List V → Prop} (h : DrA d l J ta σ m RA) (k : ∀ H v, RA H v → RB H v) (hm : m ≤ m') : DrA d l J ta σ m' RB := fun H n Q j t b q => h H n Q j t (by omega) fun H' v b t r => q H' v b (t.more (by omega)) (k _ _ r)
theorem dr_const {c : V} (h : ∀ H, R H c) : Dr d l J (tC c) σ 0 R := fun H n Q _ t _ q => q H c (fun _ _ _ z => z) t (h H)
theorem dr_var {i : Nat} {v : V} (hi : σ[i]? = some (some v)) (h : ∀ H, J H → R H v) : Dr d l J (tVar i) σ 0 R := fun H n Q j t _ q => ⟨v, hi, q H v (fun _ _ _ z => z) t (h H j)⟩
theorem dra_nil (h : ∀ H, RA H []) : DrA d l J tNil σ 0 RA := fun H n Q _ t _ q => q H [] (fun _ _ _ z => z) t (h H)
theorem dra_cons {RB : Hp → List V → Prop} (sj : Stb d J) (h : Dr d l J te σ m R) (r : DrA d l J ta σ m' RA) (st : ∀ H H' v, But d H H' → R H v → R H' v) (hc : ∀ H v vs, R H v → RA H vs → RB H (v :: vs)) : DrA d l J (tCons te ta) σ (m + m') RB :=
  fun H n Q j t b q => h H n _ j t (by omega) fun H1 v b1 t1 r1 => r H1 (n + m) _ (sj _ _ b1 j) t1 (by omega) fun H2 vs b2 t2 r2 => q H2 (v :: vs) (b1.trans b2) (t2.more (by omega)) (hc _ _ _ (st _ _ _ b2 r1) r2)
theorem fv_st : ∀ H H' v, But d H H' → Fv K d H c n e v → Fv K d H' c n e v := fun _ _ _ b z => z.but b
theorem st_w : ∀ (H H' : Hp) v, But d H H' → IsW H v → IsW H' v := fun _ _ _ _ z => z
/-! fields of a tuple -/
theorem daf_nil : DrA d l J tNil σ 0 (fun H vs => Fa K d H c 0 0 e vs) := dra_nil fun _ => fa_nil
theorem daf (sj : Stb d J) (h : Dr d l J te σ m (fun H v => Fv K d H c n e v)) (r : DrA d l J ta σ m' (fun H vs => Fa K d H c k n2 e vs)) : DrA d l J (tCons te ta) σ (m + m') (fun H vs => Fa K d H c (k + 1) (n + n2) e vs) :=
  dra_cons sj h r (fun _ _ _ b z => z.but b) fun _ _ _ a b => fa_cons a b
theorem dr_up (h : Dr d l J te σ m (fun H v => Fv K d H c n e v)) (k : n ≤ n') (k2 : e ≤ e') : Dr d l J te σ m (fun H v => Fv K d H c n' e' v) := h.mono (fun _ _ z => z.mono k k2) (Nat.le_refl _)
theorem dr_str {x : Str} (h : okK x = true) : Dr d l J (tC (.str x)) σ 0 (fun H v => Fv K d H c 0 e v) := dr_const fun _ => ⟨.str x, .str x, by simp [nd], by simp [dep], by simpa [okd] using h⟩
theorem fv_int (H : Hp) (i : Int) : Fv K d H c 0 e (.int i) := ⟨.int i, .int i, by simp [nd], by simp [dep], by simp [okd]⟩
theorem fv_bl (H : Hp) (b : Bool) : Fv K d H c 0 e (.bl b) := ⟨.bl b, .bl b, by simp [nd], by simp [dep], by simp [okd]⟩
theorem fv_non (H : Hp) : Fv K d H c 0 e .non := ⟨.non, .non, by simp [nd], by simp [dep], by simp [okd]⟩
theorem fv_str (H : Hp) {x : Str} (h : okK x = true) : Fv K d H c 0 e (.str x) := ⟨.str x, .str x, by simp [nd], by simp [dep], by simpa [okd] using h⟩
theorem dr_int {i : Int} : Dr d l J (tC (.int i)) σ 0 (fun H v => Fv K d H c 0 e v) := dr_const fun H => fv_int H i
theorem dr_bl {b : Bool} : Dr d l J (tC (.bl b)) σ 0 (fun H v => Fv K d H c 0 e v) := dr_const fun H => fv_bl H b
theorem dr_non : Dr d l J (tC .non) σ 0 (fun H v => Fv K d H c 0 e v) := dr_const fun H => fv_non H
theorem dr_w (h : Dr d l J te σ m IsW) : Dr d l J te σ m (fun H v => Fv K d H c 0 e v) := h.mono (fun H v ⟨x, e, hx⟩ => e ▸ fv_str H hx) (Nat.le_refl _)
/-- a tuple -/
theorem dr_nd (sj : Stb d J) (r : DrA d l J ta σ m (fun H vs => Fa K d H c k n e vs)) (hk : k ≤ c ∧ k ≤ 100) : Dr d l J (tTup ta) σ m (fun H v => Fv K d H c (n + 1) (e + 1) v) :=
  fun H N Q j t b q => r H N _ j t b fun H1 vs b1 t1 r1 => by
    have hl := r1.1
    refine ⟨few (by omega), fun T nT => ?_⟩
    have hd := t1.at.1
    exact q _ (.ref T) (b1.new nT) (t1.same (same_new same_id nT)) (mkF hd nT r1 hk.1)
/-! lists -/
def AllR (c : Nat) (R : Hp → V → Prop) (H : Hp) (vs : List V) : Prop := vs.length = c ∧ ∀ v ∈ vs, R H v
theorem dal_nil : DrA d l J tNil σ 0 (AllR 0 R) := dra_nil fun _ => ⟨rfl, fun v h => by simp at h⟩
theorem dal_cons {c : Nat} (sj : Stb d J) (sr : ∀ H H' v, But d H H' → R H v → R H' v) (h : Dr d l J te σ m R) (r : DrA d l J ta σ m' (AllR c R)) : DrA d l J (tCons te ta) σ (m + m') (AllR (c + 1) R) :=
  dra_cons sj h r sr fun _ _ _ a b => ⟨by rw [List.length_cons, b.1], fun v hv => by
    rcases List.mem_cons.mp hv with rfl | hv
    · exact a
    · exact b.2 v hv⟩
/-- an item of a list of values of one size -/
theorem dal {q : Nat} (sj : Stb d J) (h : Dr d l J te σ m (fun H v => Fv K d H c n e v)) (k : n ≤ n' ∧ e ≤ e') (r : DrA d l J ta σ m' (AllR q (fun H v => Fv K d H c n' e' v))) : DrA d l J (tCons te ta) σ (m + m') (AllR (q + 1) (fun H v => Fv K d H c n' e' v)) :=
  dal_cons sj fv_st (dr_up h k.1 k.2) r
end
section
variable {P : Program} {w : World} {K : PySem.W.Frag} {mg : Str → Option Value} {base : Heap} {d l : Addr} {J : Hp → Prop} {σ : L2.St} {te : TE} {ta : TA} {m c : Nat} {R : Hp → V → Prop}
/-- a pick of a display -/
theorem dr_pick (sj : Stb d J) (h0 : σ[0]? = some (some (.ref d))) (sr : ∀ H H' v, But d H H' → R H v → R H' v) (r : DrA d l J ta σ m (AllR c R)) (hc : 0 < c ∧ c ≤ 100) : Dr d l J (tCall spPick [] E0 (tCons (tVar 0) (tCons (tLst ta) tNil))) σ (m + 1) R :=
  fun H n Q j t b q => ⟨_, h0, r H n _ j t (by omega) fun H1 vs b1 t1 ⟨hl, r1⟩ => ⟨few (by omega), fun T nT => by
    have s : Same H1 (upd H1 T (.lst vs)) := same_new same_id nT
    refine ⟨d, l, T, n + m, vs, rfl, t1.same s, by omega, upd_same, fun e => by rw [e] at hl; simp at hl; omega, by omega, fun H2 v b2 t2 hv => ?_⟩
    exact q H2 v ((b1.trans (Same.but s d)).trans b2) t2 (sr _ _ _ b2 (sr _ _ _ (Same.but s d) (r1 v hv)))⟩⟩
/-- a pick of a list that stands at a slot, and of a display put behind it -/
theorem dr_pick2 {i : Nat} {p : Addr} {xs : List V} (sj : Stb d J) (h0 : σ[0]? = some (some (.ref d))) (hi : σ[i]? = some (some (.ref p))) (hp : ∀ H, J H → H p = some (.lst xs) ∧ ∀ v ∈ xs, R H v) (sr : ∀ H H' v, But d H H' → R H v → R H' v) (r : DrA d l J ta σ m (AllR c R)) (hc : 0 < c ∧ c + xs.length ≤ 100) : Dr d l J (tCall spPick [] E0 (tCons (tVar 0) (tCons (tOp rCat (tVar i) (tLst ta)) tNil))) σ (m + 1) R :=
  fun H n Q j t b q => ⟨_, h0, ⟨_, hi, r H n _ j t (by omega) fun H1 vs b1 t1 ⟨hl, r1⟩ => ⟨few (by omega), fun T nT => by
    have s : Same H1 (upd H1 T (.lst vs)) := same_new same_id nT
    have j1 := sj _ _ b1 j
    obtain ⟨hp1, hr1⟩ := hp _ j1
    refine ⟨p, T, xs, vs, rfl, rfl, s _ _ hp1, upd_same, few (by omega), fun L nL => ?_⟩
    have s2 : Same H1 (upd (upd H1 T (.lst vs)) L (.lst (xs ++ vs))) := same_new s nL
    refine ⟨d, l, L, n + m, xs ++ vs, rfl, t1.same s2, by omega, upd_same, fun e => ?_, by rw [List.length_append]; omega, fun H2 v b2 t2 hv => ?_⟩
    · have := congrArg List.length e
      simp only [List.length_append, List.length_nil] at this
      omega
    · refine q H2 v ((b1.trans (Same.but s2 d)).trans b2) t2 (sr _ _ _ b2 (sr _ _ _ (Same.but s2 d) ?_))
      rcases List.mem_append.mp hv with z | z
      · exact hr1 v z
      · exact r1 v z⟩⟩⟩
/-- a new list -/
theorem lst_run (sr : ∀ H H' v, But d H H' → R H v → R H' v) (r : DrA d l J ta σ m (AllR c R)) (hc : c ≤ 100) {H : Hp} {n : Nat} {Q : VK} (j : J H) (t : Tape H d l n) (b : n + m ≤ 900000)
    (q : ∀ H' L vs, But d H H' → Tape H' d l (n + m) → L ≠ d → H' L = some (.lst vs) → AllR c R H' vs → Q (.ref L) H') : tLst ta σ H Q :=
  r H n _ j t b fun H1 vs b1 t1 r1 => ⟨few (by have := r1.1; omega), fun L nL => by
    have sL : Same H1 (upd H1 L (.lst vs)) := same_new same_id nL
    have nLd : L ≠ d := by
      obtain ⟨o, ho⟩ := t1.at.1
      exact (ne_of_none ho nL).symm
    exact q _ L vs (b1.trans (Same.but sL d)) (t1.same sL) nLd upd_same ⟨r1.1, fun v hv => sr _ _ _ (Same.but sL d) (r1.2 v hv)⟩⟩
/-- a list at a slot, and a display put behind it -/
theorem cat_run {i : Nat} {p : Addr} {xs : List V} (sj : Stb d J) (hi : σ[i]? = some (some (.ref p))) (hp : ∀ H, J H → H p = some (.lst xs) ∧ ∀ v ∈ xs, R H v) (sr : ∀ H H' v, But d H H' → R H v → R H' v) (r : DrA d l J ta σ m (AllR c R)) (hc : c + xs.length ≤ 100) {H : Hp} {n : Nat} {Q : VK} (j : J H) (t : Tape H d l n) (b : n + m ≤ 900000)
    (q : ∀ H' L ys, But d H H' → Tape H' d l (n + m) → L ≠ d → H' L = some (.lst ys) → AllR (xs.length + c) R H' ys → Q (.ref L) H') : tOp rCat (tVar i) (tLst ta) σ H Q :=
  ⟨_, hi, r H n _ j t b fun H1 vs b1 t1 ⟨hl, r1⟩ => ⟨few (by omega), fun T nT => by
    have s : Same H1 (upd H1 T (.lst vs)) := same_new same_id nT
    obtain ⟨hp1, hr1⟩ := hp _ (sj _ _ b1 j)
    refine ⟨p, T, xs, vs, rfl, rfl, s _ _ hp1, upd_same, few (by omega), fun L nL => ?_⟩
    have s2 : Same H1 (upd (upd H1 T (.lst vs)) L (.lst (xs ++ vs))) := same_new s nL
    have nLd : L ≠ d := by
      obtain ⟨o, ho⟩ := t1.at.1
      exact (ne_of_none (s _ _ ho) nL).symm
    refine q _ L (xs ++ vs) (b1.trans (Same.but s2 d)) (t1.same s2) nLd upd_same ⟨by rw [List.length_append, hl], fun v hv => sr _ _ _ (Same.but s2 d) ?_⟩
    rcases List.mem_append.mp hv with z | z
    · exact hr1 v z
    · exact r1 v z⟩⟩
/-- a draw of a number -/
theorem dr_draw {c : Int} (h0 : σ[0]? = some (some (.ref d))) (hc : 0 < c ∧ c < 1000) : Dr d l J (tCall spDraw [] E0 (tCons (tVar 0) (tCons (tC (.int c)) tNil))) σ 1 (fun _ v => ∃ i, v = .int i ∧ 0 ≤ i ∧ i < c) :=
  fun H n Q j t b q => ⟨_, h0, d, l, n, c, rfl, t, by omega, hc.1, by omega, fun H1 r b1 t1 r0 r1 => q H1 _ b1 t1 ⟨r, rfl, r0, r1⟩⟩
theorem dr_drawF {c : Int} {q e : Nat} (h0 : σ[0]? = some (some (.ref d))) (hc : 0 < c ∧ c < 1000) : Dr d l J (tCall spDraw [] E0 (tCons (tVar 0) (tCons (tC (.int c)) tNil))) σ 1 (fun H v => Fv K d H q 0 e v) :=
  (dr_draw h0 hc).mono (fun H v ⟨i, e, _⟩ => e ▸ fv_int H i) (Nat.le_refl _)
/-- a key of the list at a slot -/
theorem dr_key {i q e : Nat} {p : Addr} {ks : List Str} (h0 : σ[0]? = some (some (.ref d))) (hi : σ[i]? = some (some (.ref p))) (hp : ∀ H, J H → H p = some (.lst (ks.map V.str))) (hk : ks ≠ [] ∧ ks.length ≤ 100 ∧ ∀ k ∈ ks, okK k = true) : Dr d l J (tCall spPick [] E0 (tCons (tVar 0) (tCons (tVar i) tNil))) σ 1 (fun H v => Fv K d H q 0 e v) :=
  fun H n Q j t b q => ⟨_, h0, _, hi, d, l, p, n, _, rfl, t, by omega, hp _ j, fun e => hk.1 (List.map_eq_nil_iff.mp e), by rw [List.length_map]; omega, fun H1 v b1 t1 hv => by
    obtain ⟨x, hx, rfl⟩ := List.mem_map.mp hv
    exact q H1 _ b1 t1 (fv_str _ (hk.2.2 x hx))⟩
end
end Toy


namespace Toy
open PySem PySem.Spec L2 PyProof.Rows PySem.W
abbrev sLeaf : Stmt := top 43
abbrev sStep : Stmt := top 45
abbrev sTest : Stmt := top 44
abbrev sWalk : Stmt := top 46
def leafVs : List V := [.non, .bl false, .bl true, .int 0, .int 1, .int 0, .int 1, .int (-1), .int 2, .int (-2), .int (10 ^ 30), .str "", .str "a", .str "b", .str "ab", .str "it's", .non, .int 1]
def spLeaf : Sp := fun vs H Q _ => ∃ (d l : Addr) (n : Nat), vs = [.ref d] ∧ Tape H d l n ∧ n ≤ 1000000 ∧ ∀ H' v, But d H H' → Tape H' d l (n + 1) → v ∈ leafVs → Q v H'
section
variable {P : Program} {w : World} {K : PySem.W.Frag} {mg : Str → Option Value} {base : Heap}
theorem scLf : FnScope ["_law_tape"] ["_law_tape"] (defScope sLeaf) := ⟨rfl, rfl, rfl, by decide +kernel, rfl, by decide +kernel, by decide +kernel⟩
theorem ok_leaf {f fP : Addr} {fd fdP : FuncData} (F : Fun K "_law_leaf" "_law_leaf" sLeaf f fd) (GP : FnOk P w K mg base CX0 2 fP fdP ["_law_tape", "_law_items"] spPick) (mP : mg "_law_pick" = some (.ref fP)) (kP : PySem.W.keepIn K (.ref fP) = true) (bP : Binds K fdP ["_law_tape", "_law_items"] []) :
    FnOk P w K mg base CX0 3 f fd ["_law_tape"] spLeaf := by
  refine F.ok scLf (fun vs H Q E h => ?_) (fun cdv A outer s H vs Q E hr h => ?_)
  · obtain ⟨d, l, n, rfl, _⟩ := h
    rfl
  · obtain ⟨d, l, n, rfl, hT, hn, q⟩ := h
    refine ⟨_, pss_one (ps_ret (pe_call GP hr (by rfl) mP kP bP .nil pass0 (pa_cons (pv 0) (pa_cons (pe_lst (pa_cons pe_non (pa_cons pe_bl (pa_cons pe_bl (pa_cons pe_int (pa_cons pe_int (pa_cons pe_int (pa_cons pe_int
      (pa_cons (pe_un un_neg pe_int) (pa_cons pe_int (pa_cons (pe_un un_neg pe_int) (pa_cons (pe_op op_pow pe_int pe_int) (pa_cons pe_str (pa_cons pe_str (pa_cons pe_str (pa_cons pe_str (pa_cons pe_str (pa_cons pe_non (pa_cons pe_int pa_nil))))))))))))))))))) pa_nil)))), ?_⟩
    refine ⟨_, rfl, _, rfl, _, rfl, _, _, rfl, rfl, ⟨by decide, by decide, by decide⟩, few (by show 18 ≤ 1000; decide), fun p np => ?_⟩
    obtain ⟨hd, hl⟩ : (∃ o, H d = some o) ∧ ∃ o, H l = some o := by
      obtain ⟨ns, a, f, h1, h2, _⟩ := hT
      exact ⟨⟨_, h1⟩, _, h2⟩
    refine ⟨d, l, p, n, leafVs, rfl, hT.same (same_new (fun _ _ z => z) np), hn, upd_same, (by intro z; cases z), (by show 18 < 1000000; decide), fun H' v b t m => q H' v (fun x o n e => b x o n ((same_new (fun _ _ z => z) np) x o e)) t m⟩
end

theorem leaf_ok {K : PySem.W.Frag} {d : Addr} {c e : Nat} {v : V} (h : v ∈ leafVs) (H : Hp) : Fv K d H c 0 e v := by
  unfold leafVs at h
  simp only [List.mem_cons, List.not_mem_nil, or_false] at h
  rcases h with rfl | rfl | rfl | rfl | rfl | rfl | rfl | rfl | rfl | rfl | rfl | rfl | rfl | rfl | rfl | rfl | rfl | rfl
  all_goals first | exact fv_non H | exact fv_bl H _ | exact fv_int H _ | exact fv_str H (by decide +kernel)
/-- keys that are handed on -/
def KeysOk (ks : List Str) : Prop := ks ≠ [] ∧ ks.length ≤ 100 ∧ ∀ k ∈ ks, okK k = true
section
variable {d l : Addr} {J : Hp → Prop} {σ : L2.St}
theorem dr_leaf {K : PySem.W.Frag} {c e : Nat} (h0 : σ[0]? = some (some (.ref d))) : Dr d l J (tCall spLeaf [] E0 (tCons (tVar 0) tNil)) σ 1 (fun H v => Fv K d H c 0 e v) :=
  fun H n Q j t b q => ⟨_, h0, d, l, n, rfl, t, by omega, fun H1 v b1 t1 hv => q H1 v b1 t1 (leaf_ok hv _)⟩
end
theorem stb_list {d p : Addr} {xs : List V} (h : p ≠ d) : Stb d (fun H => H p = some (.lst xs)) := fun H H' b z => b _ _ h z
def spStep (K : PySem.W.Frag) : Sp := fun vs H Q _ => ∃ (d l p : Addr) (n : Nat) (ks : List Str), vs = [.ref d, .ref p] ∧ Tape H d l n ∧ n + 5 ≤ 900000 ∧ H p = some (.lst (ks.map V.str)) ∧ KeysOk ks ∧ ∀ H' v, But d H H' → Tape H' d l (n + 5) → Fv K d H' 5 1 1 v → Q v H'
section
variable {P : Program} {w : World} {K : PySem.W.Frag} {mg : Str → Option Value} {base : Heap}
theorem scSp : FnScope ["_law_tape", "_law_keys", "_law_some_here"] ["_law_tape", "_law_keys"] (defScope sStep) := ⟨rfl, rfl, rfl, by decide +kernel, rfl, by decide +kernel, by decide +kernel⟩
theorem ok_step {f fP fD : Addr} {fd fdP fdD : FuncData} (F : Fun K "_law_step" "_law_step" sStep f fd) (GP : FnOk P w K mg base CX0 2 fP fdP ["_law_tape", "_law_items"] spPick) (mP : mg "_law_pick" = some (.ref fP)) (kP : PySem.W.keepIn K (.ref fP) = true) (bP : Binds K fdP ["_law_tape", "_law_items"] [])
    (GD : FnOk P w K mg base CX0 1 fD fdD ["_law_tape", "_law_many"] spDraw) (mD : mg "_law_draw" = some (.ref fD)) (kD : PySem.W.keepIn K (.ref fD) = true) (bD : Binds K fdD ["_law_tape", "_law_many"] []) : FnOk P w K mg base CX0 3 f fd ["_law_tape", "_law_keys"] (spStep K) := by
  refine F.ok scSp (fun vs H Q E h => ?_) (fun cdv A outer s H vs Q E hr h => ?_)
  · obtain ⟨d, l, p, n, ks, rfl, _⟩ := h
    rfl
  · obtain ⟨d, l, p, n, ks, rfl, hT, hn, hp, hk, q⟩ := h
    have hr1 : Room 1 _ := hr.mono (show 1 ≤ 2 by omega)
    refine ⟨_, pss_cons (ps_set (i := 2) scSp.nd rfl (Or.inl rfl) (pe_lst (pa_cons (pe_tup (pa_cons pe_str pa_nil)) (pa_cons (pe_tup (pa_cons pe_str (pa_cons (pe_call GP hr (by rfl) mP kP bP .nil pass0 (pa_cons (pv 0) (pa_cons (pv 1) pa_nil))) pa_nil))) (pa_cons (pe_tup (pa_cons pe_str (pa_cons (pe_call GP hr (by rfl) mP kP bP .nil pass0 (pa_cons (pv 0) (pa_cons (pv 1) pa_nil))) pa_nil)))
        (pa_cons (pe_tup (pa_cons pe_str (pa_cons (pe_call GD hr1 (by rfl) mD kD bD .nil pass0 (pa_cons (pv 0) (pa_cons pe_int pa_nil))) pa_nil))) (pa_cons (pe_tup (pa_cons pe_str pa_nil)) pa_nil)))))))
      (pss_one (ps_ret (pe_call GP hr (by rfl) mP kP bP .nil pass0 (pa_cons (pv 0) (pa_cons (pe_op op_cat (pv 2) (pe_lst (pa_cons (pe_tup (pa_cons pe_str (pa_cons pe_int pa_nil))) (pa_cons (pe_tup (pa_cons pe_str pa_nil)) pa_nil)))) pa_nil))))), ?_⟩
    have npd : p ≠ d := by
      obtain ⟨ns, a, f, hd, _⟩ := hT
      exact ne_of hp hd (by intro z; cases z)
    have sj : Stb d (fun H => H p = some (.lst (ks.map V.str))) := stb_list npd
    have key : Dr d l (fun H => H p = some (.lst (ks.map V.str))) (tCall spPick [] E0 (tCons (tVar 0) (tCons (tVar 1) tNil))) [some (.ref d), some (.ref p), none] 1 (fun H v => Fv K d H 5 0 0 v) := dr_key rfl rfl (fun _ z => z) hk
    have tx : ∀ {x : Str}, okK x = true → Dr d l (fun H => H p = some (.lst (ks.map V.str))) (tC (.str x)) [some (.ref d), some (.ref p), none] 0 (fun H v => Fv K d H 5 0 0 v) := fun h => dr_str h
    have a1 := dal (n' := 1) (e' := 1) sj (dr_nd sj (daf sj (tx (x := "same") (by decide +kernel)) daf_nil) (by decide)) (by decide) (dal sj (dr_nd sj (daf sj (tx (x := "field") (by decide +kernel)) (daf sj key daf_nil)) (by decide)) (by decide) (dal sj (dr_nd sj (daf sj (tx (x := "field") (by decide +kernel)) (daf sj key daf_nil)) (by decide)) (by decide)
      (dal sj (dr_nd sj (daf sj (tx (x := "item") (by decide +kernel)) (daf sj (dr_drawF (c := 3) rfl (by decide)) daf_nil)) (by decide)) (by decide) (dal sj (dr_nd sj (daf sj (tx (x := "none") (by decide +kernel)) daf_nil) (by decide)) (by decide) dal_nil))))
    refine asg_run (lst_run fv_st a1 (by decide) hp hT (by omega) fun H2 L vs b2 t2 nLd hL r2 => ?_)
    have t2 : Tape H2 d l (n + 3) := t2.more (by omega)
    have hl := r2.1
    let J2 : Hp → Prop := fun H => H L = some (.lst vs) ∧ ∀ v ∈ vs, Fv K d H 5 1 1 v
    have sj2 : Stb d J2 := fun Ha Hb b z => ⟨b _ _ nLd z.1, fun v hv => (z.2 v hv).but b⟩
    have a2 := dal (n' := 1) (e' := 1) (l := l) (σ := [some (.ref d), some (.ref p), some (.ref L)]) (J := J2) (K := K) (c := 5) (e := 1) sj2 (dr_nd (e := 0) sj2 (daf sj2 (dr_str (x := "item") (by decide +kernel)) (daf sj2 (dr_int (i := 0)) daf_nil)) (by decide)) (by decide) (dal sj2 (dr_nd (e := 0) sj2 (daf sj2 (dr_str (x := "fail") (by decide +kernel)) daf_nil) (by decide)) (by decide) dal_nil)
    refine ret_run (dr_pick2 sj2 rfl rfl (fun _ z => z) fv_st a2 ⟨by omega, by omega⟩ H2 (n + 3) _ ⟨hL, r2.2⟩ t2 (by omega) fun H3 v b3 t3 r3 => q H3 v (b2.trans b3) (t3.more (by omega)) r3)
end
end Toy


namespace Toy
open PySem PySem.Spec L2 PyProof.Rows PySem.W
def cT (m : Nat) : Nat := 10 * 4 ^ m
theorem cT_pos (m : Nat) : 10 ≤ cT m := by
  have : 1 ≤ 4 ^ m := Nat.pos_of_ne_zero (by simp)
  unfold cT
  omega
theorem cT_succ (m : Nat) : cT (m + 1) = 4 * cT m := by
  unfold cT
  rw [Nat.pow_succ]
  omega
/-- most tuples of a test, and of a walk or a chooser -/
def gP : Nat → Nat × Nat
  | 0 => (1, 1)
  | m + 1 => (1 + (gP m).2 + (gP m).1, 1 + (gP m).1 + 2 * (gP m).2)
def gT (m : Nat) : Nat := (gP m).1
def gW (m : Nat) : Nat := (gP m).2
theorem gT_succ (m : Nat) : gT (m + 1) = 1 + gW m + gT m := rfl
theorem gW_succ (m : Nat) : gW (m + 1) = 1 + gT m + 2 * gW m := rfl
theorem gTW : ∀ m, 1 ≤ gT m ∧ gT m ≤ gW m
  | 0 => by decide
  | m + 1 => by
    have := gTW m
    rw [gT_succ, gW_succ]
    omega
def spTm (K : PySem.W.Frag) (g : Nat → Nat) (j : Nat) : Sp := fun vs H Q _ => ∃ (d l p : Addr) (n m : Nat) (ks : List Str), m < j ∧ vs = [.ref d, .ref p, .int m] ∧ Tape H d l n ∧ n + cT m ≤ 900000 ∧ H p = some (.lst (ks.map V.str)) ∧ KeysOk ks ∧ ∀ H' v, But d H H' → Tape H' d l (n + cT m) → Fv K d H' 5 (g m) (m + 1) v → Q v H'
abbrev JK (p : Addr) (ks : List Str) : Hp → Prop := fun H => H p = some (.lst (ks.map V.str))
abbrev tSub (i : Nat) : TE := tOp (rI0 fun i j => .int (i - j)) (tVar i) (tC (.int 1))
section
variable {K : PySem.W.Frag} {d l p : Addr} {σ : L2.St} {ks : List Str}
theorem dr_tm {g : Nat → Nat} {j m : Nat} (h0 : σ[0]? = some (some (.ref d))) (h1 : σ[1]? = some (some (.ref p))) (h2 : σ[2]? = some (some (.int ((m + 1 : Nat) : Int)))) (hm : m < j) (hk : KeysOk ks) : Dr d l (JK p ks) (tCall (spTm K g j) [] E0 (tCons (tVar 0) (tCons (tVar 1) (tCons (tSub 2) tNil)))) σ (cT m) (fun H v => Fv K d H 5 (g m) (m + 1) v) :=
  fun H n Q j t b q => ⟨_, h0, _, h1, _, h2, _, _, rfl, rfl, d, l, p, n, m, ks, hm, by
    show [V.ref d, V.ref p, V.int (((m + 1 : Nat) : Int) - 1)] = _
    rw [show ((m + 1 : Nat) : Int) - 1 = (m : Int) by omega], t, b, j, hk, q⟩
theorem dr_step (h0 : σ[0]? = some (some (.ref d))) (h1 : σ[1]? = some (some (.ref p))) (hk : KeysOk ks) : Dr d l (JK p ks) (tCall (spStep K) [] E0 (tCons (tVar 0) (tCons (tVar 1) tNil))) σ 5 (fun H v => Fv K d H 5 1 1 v) :=
  fun H n Q j t b q => ⟨_, h0, _, h1, d, l, p, n, ks, rfl, t, b, j, hk, q⟩
theorem dr_txt {J : Hp → Prop} {x : Str} (h : okK x = true) : Dr d l J (tC (.str x)) σ 0 IsW := dr_const fun _ => ⟨x, rfl, h⟩
end
abbrev NTt : List Str := ["_law_tape", "_law_keys", "_law_deep", "_law_way"]
section
variable {P : Program} {w : World} {K : PySem.W.Frag} {mg : Str → Option Value} {base : Heap}
theorem scTt : FnScope NTt ["_law_tape", "_law_keys", "_law_deep"] (defScope sTest) := ⟨rfl, rfl, rfl, by decide +kernel, rfl, by decide +kernel, by decide +kernel⟩
theorem scWk : FnScope NTt ["_law_tape", "_law_keys", "_law_deep"] (defScope sWalk) := ⟨rfl, rfl, rfl, by decide +kernel, rfl, by decide +kernel, by decide +kernel⟩
theorem np_of {H : Hp} {d l p : Addr} {n : Nat} {xs : List V} (t : Tape H d l n) (h : H p = some (.lst xs)) : p ≠ d := by
  obtain ⟨ns, a, f, hd, _⟩ := t
  exact ne_of h hd (by intro z; cases z)
theorem ok_test1 {j : Nat} {f fP fD fL fW : Addr} {fd fdP fdD fdL fdW : FuncData} (F : Fun K "_law_test" "_law_test" sTest f fd) (GP : FnOk P w K mg base CX0 2 fP fdP ["_law_tape", "_law_items"] spPick) (mP : mg "_law_pick" = some (.ref fP)) (kP : PySem.W.keepIn K (.ref fP) = true) (bP : Binds K fdP ["_law_tape", "_law_items"] [])
    (GD : FnOk P w K mg base CX0 1 fD fdD ["_law_tape", "_law_many"] spDraw) (mD : mg "_law_draw" = some (.ref fD)) (kD : PySem.W.keepIn K (.ref fD) = true) (bD : Binds K fdD ["_law_tape", "_law_many"] [])
    (GL : FnOk P w K mg base CX0 3 fL fdL ["_law_tape"] spLeaf) (mL : mg "_law_leaf" = some (.ref fL)) (kL : PySem.W.keepIn K (.ref fL) = true) (bL : Binds K fdL ["_law_tape"] [])
    (mF : mg "_law_test" = some (.ref f)) (kF : PySem.W.keepIn K (.ref f) = true) (bF : Binds K fd ["_law_tape", "_law_keys", "_law_deep"] []) (mW : mg "_law_walk" = some (.ref fW)) (kW : PySem.W.keepIn K (.ref fW) = true) (bW : Binds K fdW ["_law_tape", "_law_keys", "_law_deep"] [])
    (ihT : FnOk P w K mg base CX0 (j + 4) f fd ["_law_tape", "_law_keys", "_law_deep"] (spTm K gT j)) (ihW : FnOk P w K mg base CX0 (j + 4) fW fdW ["_law_tape", "_law_keys", "_law_deep"] (spTm K gW j)) : FnOk P w K mg base CX0 (j + 5) f fd ["_law_tape", "_law_keys", "_law_deep"] (spTm K gT (j + 1)) := by
  refine F.ok (k := j + 4) scTt (fun vs H Q E h => ?_) (fun cdv A outer s H vs Q E hr h => ?_)
  · obtain ⟨d, l, p, n, m, ks, _, rfl, _⟩ := h
    rfl
  · obtain ⟨d, l, p, n, m, ks, hmj, rfl, hT, hn, hp, hk, q⟩ := h
    have hr1 : Room 1 _ := hr.mono (show 1 ≤ j + 4 by omega)
    have hr2 : Room 2 _ := hr.mono (show 2 ≤ j + 4 by omega)
    have hr3 : Room 3 _ := hr.mono (show 3 ≤ j + 4 by omega)
    refine ⟨_, pss_cons (ps_set (i := 3) scTt.nd rfl (Or.inl rfl) (pe_ifExp (pt_cmpR op_gt (pv 2) pe_int (nomark _)) (pe_call GD hr1 (by rfl) mD kD bD .nil pass0 (pa_cons (pv 0) (pa_cons pe_int pa_nil))) (pe_call GD hr1 (by rfl) mD kD bD .nil pass0 (pa_cons (pv 0) (pa_cons pe_int pa_nil)))))
      (pss_cons (ps_if (pt_cmpR op_lt (pv 3) pe_int (nomark _)) (pss_one (ps_ret (pe_tup (pa_cons pe_str (pa_cons (pe_call GP hr2 (by rfl) mP kP bP .nil pass0 (pa_cons (pv 0) (pa_cons (pe_lst (pa_cons pe_str (pa_cons pe_str (pa_cons pe_str (pa_cons pe_str (pa_cons pe_str (pa_cons pe_str (pa_cons pe_str (pa_cons pe_str (pa_cons pe_str pa_nil)))))))))) pa_nil))) pa_nil))))) pss_nil)
      (pss_cons (ps_if (pt_cmpR op_eq (pv 3) pe_int (nomark _)) (pss_one (ps_ret (pe_tup (pa_cons pe_str (pa_cons (pe_call GL hr3 (by rfl) mL kL bL .nil pass0 (pa_cons (pv 0) pa_nil)) pa_nil))))) pss_nil)
      (pss_cons (ps_if (pt_cmpR op_eq (pv 3) pe_int (nomark _)) (pss_one (ps_ret (pe_tup (pa_cons pe_str (pa_cons (pe_call ihW hr (by rfl) mW kW bW .nil pass0 (pa_cons (pv 0) (pa_cons (pv 1) (pa_cons (pe_op op_sub (pv 2) pe_int) pa_nil)))) (pa_cons (pe_call ihT hr (by rfl) mF kF bF .nil pass0 (pa_cons (pv 0) (pa_cons (pv 1) (pa_cons (pe_op op_sub (pv 2) pe_int) pa_nil)))) pa_nil)))))) pss_nil)
      (pss_cons (ps_if (pt_cmpR op_eq (pv 3) pe_int (nomark _)) (pss_one (ps_ret (pe_tup (pa_cons pe_str (pa_cons (pe_call ihT hr (by rfl) mF kF bF .nil pass0 (pa_cons (pv 0) (pa_cons (pv 1) (pa_cons (pe_op op_sub (pv 2) pe_int) pa_nil)))) pa_nil))))) pss_nil)
      (pss_one (ps_ret (pe_tup (pa_cons (pe_call GP hr2 (by rfl) mP kP bP .nil pass0 (pa_cons (pv 0) (pa_cons (pe_lst (pa_cons pe_str (pa_cons pe_str pa_nil))) pa_nil))) (pa_cons (pe_call ihT hr (by rfl) mF kF bF .nil pass0 (pa_cons (pv 0) (pa_cons (pv 1) (pa_cons (pe_op op_sub (pv 2) pe_int) pa_nil)))) (pa_cons (pe_call ihT hr (by rfl) mF kF bF .nil pass0 (pa_cons (pv 0) (pa_cons (pv 1) (pa_cons (pe_op op_sub (pv 2) pe_int) pa_nil)))) pa_nil)))))))))), ?_⟩
    have cp := cT_pos m
    have gm := gTW m
    have sj : Stb d (JK p ks) := stb_list (np_of hT hp)
    have a_is : ∀ r : Int, Dr d l (JK p ks) _ [some (.ref d), some (.ref p), some (.int m), some (.int r)] _ (fun H v => Fv K d H 5 1 1 v) := fun r => dr_nd (e := 0) (n := 0) (k := 2) sj (daf (n := 0) (n2 := 0) sj (dr_str (x := "is") (by decide +kernel)) (daf (n := 0) (n2 := 0) sj (dr_w (dr_pick sj rfl st_w (dal_cons sj st_w (dr_txt (x := "null") (by decide +kernel)) (dal_cons sj st_w (dr_txt (x := "no") (by decide +kernel)) (dal_cons sj st_w (dr_txt (x := "yes") (by decide +kernel)) (dal_cons sj st_w (dr_txt (x := "number") (by decide +kernel)) (dal_cons sj st_w (dr_txt (x := "text") (by decide +kernel)) (dal_cons sj st_w (dr_txt (x := "list") (by decide +kernel)) (dal_cons sj st_w (dr_txt (x := "dict") (by decide +kernel)) (dal_cons sj st_w (dr_txt (x := "list") (by decide +kernel)) (dal_cons sj st_w (dr_txt (x := "dict") (by decide +kernel)) dal_nil))))))))) (by decide))) daf_nil)) (by decide)
    have a_eq : ∀ r : Int, Dr d l (JK p ks) _ [some (.ref d), some (.ref p), some (.int m), some (.int r)] _ (fun H v => Fv K d H 5 1 1 v) := fun r => dr_nd (e := 0) (n := 0) (k := 2) sj (daf (n := 0) (n2 := 0) sj (dr_str (x := "equal") (by decide +kernel)) (daf (n := 0) (n2 := 0) sj (dr_leaf (K := K) rfl) daf_nil)) (by decide)
    refine ⟨_, rfl, _, _, rfl, rfl, _, rfl, ite2 (fun c => ?_) (fun c => ?_)⟩
    · have c0 : 0 < (m : Int) := of_decide_eq_true c
      obtain ⟨k, rfl⟩ : ∃ k, m = k + 1 := ⟨m - 1, by omega⟩
      have ck := cT_pos k
      have cs := cT_succ k
      have gk := gTW k
      have gs := gT_succ k
      have tm : ∀ r : Int, Dr d l (JK p ks) _ [some (.ref d), some (.ref p), some (.int ((k + 1 : Nat) : Int)), some (.int r)] _ (fun H v => Fv K d H 5 (gT k) (k + 1) v) := fun r => dr_tm (j := j) rfl rfl rfl (by omega) hk
      have wk : ∀ r : Int, Dr d l (JK p ks) _ [some (.ref d), some (.ref p), some (.int ((k + 1 : Nat) : Int)), some (.int r)] _ (fun H v => Fv K d H 5 (gW k) (k + 1) v) := fun r => dr_tm (j := j) rfl rfl rfl (by omega) hk
      refine ⟨_, rfl, d, l, n, 7, rfl, hT, by omega, by decide, by decide, fun H1 r b1 t1 r0 r1 => ?_⟩
      have hp1 := sj _ _ b1 hp
      refine ⟨_, rfl, _, _, rfl, rfl, _, rfl, ite2 (fun c1 => ?_) (fun c1 => ?_)⟩
      · exact ret_run (a_is r H1 (n + 1) _ hp1 t1 (by omega) fun H2 v b2 t2 r2 => q H2 v (b1.trans b2) (t2.more (by omega)) (r2.mono (by omega) (by omega)))
      refine ⟨_, rfl, rfl, _, rfl, ite2 (fun c2 => ?_) (fun c2 => ?_)⟩
      · exact ret_run (a_eq r H1 (n + 1) _ hp1 t1 (by omega) fun H2 v b2 t2 r2 => q H2 v (b1.trans b2) (t2.more (by omega)) (r2.mono (by omega) (by omega)))
      refine ⟨_, rfl, rfl, _, rfl, ite2 (fun c3 => ?_) (fun c3 => ?_)⟩
      · exact ret_run (dr_nd sj (daf sj (dr_str (x := "at") (by decide +kernel)) (daf sj (wk r) (daf sj (tm r) daf_nil))) (by decide) H1 (n + 1) _ hp1 t1 (by omega) fun H2 v b2 t2 r2 => q H2 v (b1.trans b2) (t2.more (by omega)) (r2.mono (by omega) (by omega)))
      refine ⟨_, rfl, rfl, _, rfl, ite2 (fun c4 => ?_) (fun c4 => ?_)⟩
      · exact ret_run (dr_nd sj (daf sj (dr_str (x := "not") (by decide +kernel)) (daf sj (tm r) daf_nil)) (by decide) H1 (n + 1) _ hp1 t1 (by omega) fun H2 v b2 t2 r2 => q H2 v (b1.trans b2) (t2.more (by omega)) (r2.mono (by omega) (by omega)))
      · exact ret_run (dr_nd sj (daf sj (dr_w (dr_pick sj rfl st_w (dal_cons sj st_w (dr_txt (x := "and") (by decide +kernel)) (dal_cons sj st_w (dr_txt (x := "or") (by decide +kernel)) dal_nil)) (by decide))) (daf sj (tm r) (daf sj (tm r) daf_nil))) (by decide) H1 (n + 1) _ hp1 t1 (by omega) fun H2 v b2 t2 r2 => q H2 v (b1.trans b2) (t2.more (by omega)) (r2.mono (by omega) (by omega)))
    · refine ⟨_, rfl, d, l, n, 3, rfl, hT, by omega, by decide, by decide, fun H1 r b1 t1 r0 r1 => ?_⟩
      have hp1 := sj _ _ b1 hp
      refine ⟨_, rfl, _, _, rfl, rfl, _, rfl, ite2 (fun c1 => ?_) (fun c1 => ?_)⟩
      · exact ret_run (a_is r H1 (n + 1) _ hp1 t1 (by omega) fun H2 v b2 t2 r2 => q H2 v (b1.trans b2) (t2.more (by omega)) (r2.mono (by omega) (by omega)))
      refine ⟨_, rfl, rfl, _, rfl, ite2 (fun c2 => ?_) (fun c2 => ?_)⟩
      · exact ret_run (a_eq r H1 (n + 1) _ hp1 t1 (by omega) fun H2 v b2 t2 r2 => q H2 v (b1.trans b2) (t2.more (by omega)) (r2.mono (by omega) (by omega)))
      · exfalso
        have x1 : ¬ r < 2 := fun z => c1 (decide_eq_true z)
        have x2 : ¬ r = 2 := fun z => c2 (decide_eq_true (by rw [z]))
        omega
end
end Toy


namespace Toy
open PySem PySem.Spec L2 PyProof.Rows PySem.W
abbrev sChs : Stmt := top 47
section
variable {P : Program} {w : World} {K : PySem.W.Frag} {mg : Str → Option Value} {base : Heap}
theorem scCh : FnScope NTt ["_law_tape", "_law_keys", "_law_deep"] (defScope sChs) := ⟨rfl, rfl, rfl, by decide +kernel, rfl, by decide +kernel, by decide +kernel⟩
theorem ok_walk1 {j : Nat} {f fS fD fT : Addr} {fd fdS fdD fdT : FuncData} (F : Fun K "_law_walk" "_law_walk" sWalk f fd) (GS : FnOk P w K mg base CX0 3 fS fdS ["_law_tape", "_law_keys"] (spStep K)) (mS : mg "_law_step" = some (.ref fS)) (kS : PySem.W.keepIn K (.ref fS) = true) (bS : Binds K fdS ["_law_tape", "_law_keys"] [])
    (GD : FnOk P w K mg base CX0 1 fD fdD ["_law_tape", "_law_many"] spDraw) (mD : mg "_law_draw" = some (.ref fD)) (kD : PySem.W.keepIn K (.ref fD) = true) (bD : Binds K fdD ["_law_tape", "_law_many"] [])
    (mF : mg "_law_walk" = some (.ref f)) (kF : PySem.W.keepIn K (.ref f) = true) (bF : Binds K fd ["_law_tape", "_law_keys", "_law_deep"] []) (mT : mg "_law_test" = some (.ref fT)) (kT : PySem.W.keepIn K (.ref fT) = true) (bT : Binds K fdT ["_law_tape", "_law_keys", "_law_deep"] [])
    (ihT : FnOk P w K mg base CX0 (j + 4) fT fdT ["_law_tape", "_law_keys", "_law_deep"] (spTm K gT j)) (ihW : FnOk P w K mg base CX0 (j + 4) f fd ["_law_tape", "_law_keys", "_law_deep"] (spTm K gW j)) : FnOk P w K mg base CX0 (j + 5) f fd ["_law_tape", "_law_keys", "_law_deep"] (spTm K gW (j + 1)) := by
  refine F.ok (k := j + 4) scWk (fun vs H Q E h => ?_) (fun cdv A outer s H vs Q E hr h => ?_)
  · obtain ⟨d, l, p, n, m, ks, _, rfl, _⟩ := h
    rfl
  · obtain ⟨d, l, p, n, m, ks, hmj, rfl, hT, hn, hp, hk, q⟩ := h
    have hr1 : Room 1 _ := hr.mono (show 1 ≤ j + 4 by omega)
    have hr3 : Room 3 _ := hr.mono (show 3 ≤ j + 4 by omega)
    refine ⟨_, pss_cons (ps_set (i := 3) scWk.nd rfl (Or.inl rfl) (pe_ifExp (pt_cmpR op_gt (pv 2) pe_int (nomark _)) (pe_call GD hr1 (by rfl) mD kD bD .nil pass0 (pa_cons (pv 0) (pa_cons pe_int pa_nil))) pe_int))
      (pss_cons (ps_if (pt_cmpR op_lt (pv 3) pe_int (nomark _)) (pss_one (ps_ret (pe_call GS hr3 (by rfl) mS kS bS .nil pass0 (pa_cons (pv 0) (pa_cons (pv 1) pa_nil))))) pss_nil)
      (pss_cons (ps_if (pt_cmpR op_eq (pv 3) pe_int (nomark _)) (pss_one (ps_ret (pe_tup (pa_cons pe_str (pa_cons (pe_call ihW hr (by rfl) mF kF bF .nil pass0 (pa_cons (pv 0) (pa_cons (pv 1) (pa_cons (pe_op op_sub (pv 2) pe_int) pa_nil)))) (pa_cons (pe_call ihW hr (by rfl) mF kF bF .nil pass0 (pa_cons (pv 0) (pa_cons (pv 1) (pa_cons (pe_op op_sub (pv 2) pe_int) pa_nil)))) pa_nil)))))) pss_nil)
      (pss_one (ps_ret (pe_tup (pa_cons pe_str (pa_cons (pe_call ihT hr (by rfl) mT kT bT .nil pass0 (pa_cons (pv 0) (pa_cons (pv 1) (pa_cons (pe_op op_sub (pv 2) pe_int) pa_nil)))) (pa_cons (pe_call ihW hr (by rfl) mF kF bF .nil pass0 (pa_cons (pv 0) (pa_cons (pv 1) (pa_cons (pe_op op_sub (pv 2) pe_int) pa_nil)))) (pa_cons (pe_call ihW hr (by rfl) mF kF bF .nil pass0 (pa_cons (pv 0) (pa_cons (pv 1) (pa_cons (pe_op op_sub (pv 2) pe_int) pa_nil)))) pa_nil))))))))), ?_⟩
    have cp := cT_pos m
    have gm := gTW m
    have sj : Stb d (JK p ks) := stb_list (np_of hT hp)
    have a_st : ∀ r : Int, Dr d l (JK p ks) _ [some (.ref d), some (.ref p), some (.int m), some (.int r)] _ (fun H v => Fv K d H 5 1 1 v) := fun r => dr_step rfl rfl hk
    refine ⟨_, rfl, _, _, rfl, rfl, _, rfl, ite2 (fun c => ?_) (fun c => ?_)⟩
    · have c0 : 0 < (m : Int) := of_decide_eq_true c
      obtain ⟨k, rfl⟩ : ∃ k, m = k + 1 := ⟨m - 1, by omega⟩
      have ck := cT_pos k
      have cs := cT_succ k
      have gk := gTW k
      have gs := gW_succ k
      have te : ∀ r : Int, Dr d l (JK p ks) _ [some (.ref d), some (.ref p), some (.int ((k + 1 : Nat) : Int)), some (.int r)] _ (fun H v => Fv K d H 5 (gT k) (k + 1) v) := fun r => dr_tm (j := j) rfl rfl rfl (by omega) hk
      have tm : ∀ r : Int, Dr d l (JK p ks) _ [some (.ref d), some (.ref p), some (.int ((k + 1 : Nat) : Int)), some (.int r)] _ (fun H v => Fv K d H 5 (gW k) (k + 1) v) := fun r => dr_tm (j := j) rfl rfl rfl (by omega) hk
      refine ⟨_, rfl, d, l, n, 4, rfl, hT, by omega, by decide, by decide, fun H1 r b1 t1 r0 r1 => ?_⟩
      have hp1 := sj _ _ b1 hp
      refine ⟨_, rfl, _, _, rfl, rfl, _, rfl, ite2 (fun c1 => ?_) (fun c1 => ?_)⟩
      · exact ret_run (a_st r H1 (n + 1) _ hp1 t1 (by omega) fun H2 v b2 t2 r2 => q H2 v (b1.trans b2) (t2.more (by omega)) (r2.mono (by omega) (by omega)))
      refine ⟨_, rfl, rfl, _, rfl, ite2 (fun c2 => ?_) (fun c2 => ?_)⟩
      · exact ret_run (dr_nd sj (daf sj (dr_str (x := "pipe") (by decide +kernel)) (daf sj (tm r) (daf sj (tm r) daf_nil))) (by decide) H1 (n + 1) _ hp1 t1 (by omega) fun H2 v b2 t2 r2 => q H2 v (b1.trans b2) (t2.more (by omega)) (r2.mono (by omega) (by omega)))
      · exact ret_run (dr_nd sj (daf sj (dr_str (x := "if") (by decide +kernel)) (daf sj (te r) (daf sj (tm r) (daf sj (tm r) daf_nil)))) (by decide) H1 (n + 1) _ hp1 t1 (by omega) fun H2 v b2 t2 r2 => q H2 v (b1.trans b2) (t2.more (by omega)) (r2.mono (by omega) (by omega)))
    · refine ⟨_, rfl, _, _, rfl, rfl, _, rfl, ite2 (fun c1 => ?_) (fun c1 => absurd rfl c1)⟩
      exact ret_run (a_st 0 H n _ hp hT (by omega) fun H2 v b2 t2 r2 => q H2 v b2 (t2.more (by omega)) (r2.mono (by omega) (by omega)))
theorem ok_chs1 {j : Nat} {f fS fD fT fW : Addr} {fd fdS fdD fdT fdW : FuncData} (F : Fun K "_law_chooser" "_law_chooser" sChs f fd) (GS : FnOk P w K mg base CX0 3 fS fdS ["_law_tape", "_law_keys"] (spStep K)) (mS : mg "_law_step" = some (.ref fS)) (kS : PySem.W.keepIn K (.ref fS) = true) (bS : Binds K fdS ["_law_tape", "_law_keys"] [])
    (GD : FnOk P w K mg base CX0 1 fD fdD ["_law_tape", "_law_many"] spDraw) (mD : mg "_law_draw" = some (.ref fD)) (kD : PySem.W.keepIn K (.ref fD) = true) (bD : Binds K fdD ["_law_tape", "_law_many"] [])
    (mF : mg "_law_chooser" = some (.ref f)) (kF : PySem.W.keepIn K (.ref f) = true) (bF : Binds K fd ["_law_tape", "_law_keys", "_law_deep"] []) (mT : mg "_law_test" = some (.ref fT)) (kT : PySem.W.keepIn K (.ref fT) = true) (bT : Binds K fdT ["_law_tape", "_law_keys", "_law_deep"] []) (mW : mg "_law_walk" = some (.ref fW)) (kW : PySem.W.keepIn K (.ref fW) = true) (bW : Binds K fdW ["_law_tape", "_law_keys", "_law_deep"] [])
    (ihT : FnOk P w K mg base CX0 (j + 4) fT fdT ["_law_tape", "_law_keys", "_law_deep"] (spTm K gT j)) (ihW : FnOk P w K mg base CX0 (j + 4) fW fdW ["_law_tape", "_law_keys", "_law_deep"] (spTm K gW j)) (ihC : FnOk P w K mg base CX0 (j + 4) f fd ["_law_tape", "_law_keys", "_law_deep"] (spTm K gW j)) : FnOk P w K mg base CX0 (j + 5) f fd ["_law_tape", "_law_keys", "_law_deep"] (spTm K gW (j + 1)) := by
  refine F.ok (k := j + 4) scCh (fun vs H Q E h => ?_) (fun cdv A outer s H vs Q E hr h => ?_)
  · obtain ⟨d, l, p, n, m, ks, _, rfl, _⟩ := h
    rfl
  · obtain ⟨d, l, p, n, m, ks, hmj, rfl, hT, hn, hp, hk, q⟩ := h
    have hr1 : Room 1 _ := hr.mono (show 1 ≤ j + 4 by omega)
    have hr3 : Room 3 _ := hr.mono (show 3 ≤ j + 4 by omega)
    refine ⟨_, pss_cons (ps_set (i := 3) scCh.nd rfl (Or.inl rfl) (pe_ifExp (pt_cmpR op_gt (pv 2) pe_int (nomark _)) (pe_call GD hr1 (by rfl) mD kD bD .nil pass0 (pa_cons (pv 0) (pa_cons pe_int pa_nil))) (pe_call GD hr1 (by rfl) mD kD bD .nil pass0 (pa_cons (pv 0) (pa_cons pe_int pa_nil)))))
      (pss_cons (ps_if (pt_cmpR op_eq (pv 3) pe_int (nomark _)) (pss_one (ps_ret (pe_call GS hr3 (by rfl) mS kS bS .nil pass0 (pa_cons (pv 0) (pa_cons (pv 1) pa_nil))))) pss_nil)
      (pss_cons (ps_if (pt_cmpR op_eq (pv 3) pe_int (nomark _)) (pss_one (ps_ret (pe_tup (pa_cons pe_str pa_nil)))) pss_nil)
      (pss_cons (ps_if (pt_cmpR op_lt (pv 3) pe_int (nomark _)) (pss_one (ps_ret (pe_tup (pa_cons pe_str (pa_cons (pe_call ihC hr (by rfl) mF kF bF .nil pass0 (pa_cons (pv 0) (pa_cons (pv 1) (pa_cons (pe_op op_sub (pv 2) pe_int) pa_nil)))) (pa_cons (pe_call ihC hr (by rfl) mF kF bF .nil pass0 (pa_cons (pv 0) (pa_cons (pv 1) (pa_cons (pe_op op_sub (pv 2) pe_int) pa_nil)))) pa_nil)))))) pss_nil)
      (pss_cons (ps_if (pt_cmpR op_lt (pv 3) pe_int (nomark _)) (pss_one (ps_ret (pe_tup (pa_cons pe_str (pa_cons (pe_call ihC hr (by rfl) mF kF bF .nil pass0 (pa_cons (pv 0) (pa_cons (pv 1) (pa_cons (pe_op op_sub (pv 2) pe_int) pa_nil)))) (pa_cons (pe_call ihC hr (by rfl) mF kF bF .nil pass0 (pa_cons (pv 0) (pa_cons (pv 1) (pa_cons (pe_op op_sub (pv 2) pe_int) pa_nil)))) pa_nil)))))) pss_nil)
      (pss_cons (ps_if (pt_cmpR op_eq (pv 3) pe_int (nomark _)) (pss_one (ps_ret (pe_tup (pa_cons pe_str (pa_cons (pe_call ihT hr (by rfl) mT kT bT .nil pass0 (pa_cons (pv 0) (pa_cons (pv 1) (pa_cons (pe_op op_sub (pv 2) pe_int) pa_nil)))) (pa_cons (pe_call ihC hr (by rfl) mF kF bF .nil pass0 (pa_cons (pv 0) (pa_cons (pv 1) (pa_cons (pe_op op_sub (pv 2) pe_int) pa_nil)))) (pa_cons (pe_call ihC hr (by rfl) mF kF bF .nil pass0 (pa_cons (pv 0) (pa_cons (pv 1) (pa_cons (pe_op op_sub (pv 2) pe_int) pa_nil)))) pa_nil))))))) pss_nil)
      (pss_cons (ps_if (pt_cmpR op_eq (pv 3) pe_int (nomark _)) (pss_one (ps_ret (pe_tup (pa_cons pe_str (pa_cons (pe_call ihW hr (by rfl) mW kW bW .nil pass0 (pa_cons (pv 0) (pa_cons (pv 1) (pa_cons (pe_op op_sub (pv 2) pe_int) pa_nil)))) pa_nil))))) pss_nil)
      (pss_one (ps_ret (pe_tup (pa_cons pe_str (pa_cons (pe_call ihW hr (by rfl) mW kW bW .nil pass0 (pa_cons (pv 0) (pa_cons (pv 1) (pa_cons (pe_op op_sub (pv 2) pe_int) pa_nil)))) (pa_cons (pe_call ihC hr (by rfl) mF kF bF .nil pass0 (pa_cons (pv 0) (pa_cons (pv 1) (pa_cons (pe_op op_sub (pv 2) pe_int) pa_nil)))) pa_nil)))))))))))), ?_⟩
    have cp := cT_pos m
    have gm := gTW m
    have sj : Stb d (JK p ks) := stb_list (np_of hT hp)
    have a_st : ∀ r : Int, Dr d l (JK p ks) _ [some (.ref d), some (.ref p), some (.int m), some (.int r)] _ (fun H v => Fv K d H 5 1 1 v) := fun r => dr_step rfl rfl hk
    have a_ev : ∀ r : Int, Dr d l (JK p ks) _ [some (.ref d), some (.ref p), some (.int m), some (.int r)] _ (fun H v => Fv K d H 5 1 1 v) := fun r => dr_nd (e := 0) (n := 0) (k := 1) sj (daf (n := 0) (n2 := 0) sj (dr_str (x := "every") (by decide +kernel)) daf_nil) (by decide)
    refine ⟨_, rfl, _, _, rfl, rfl, _, rfl, ite2 (fun c => ?_) (fun c => ?_)⟩
    · have c0 : 0 < (m : Int) := of_decide_eq_true c
      obtain ⟨k, rfl⟩ : ∃ k, m = k + 1 := ⟨m - 1, by omega⟩
      have ck := cT_pos k
      have cs := cT_succ k
      have gk := gTW k
      have gs := gW_succ k
      have te : ∀ r : Int, Dr d l (JK p ks) _ [some (.ref d), some (.ref p), some (.int ((k + 1 : Nat) : Int)), some (.int r)] _ (fun H v => Fv K d H 5 (gT k) (k + 1) v) := fun r => dr_tm (j := j) rfl rfl rfl (by omega) hk
      have tm : ∀ r : Int, Dr d l (JK p ks) _ [some (.ref d), some (.ref p), some (.int ((k + 1 : Nat) : Int)), some (.int r)] _ (fun H v => Fv K d H 5 (gW k) (k + 1) v) := fun r => dr_tm (j := j) rfl rfl rfl (by omega) hk
      refine ⟨_, rfl, d, l, n, 9, rfl, hT, by omega, by decide, by decide, fun H1 r b1 t1 r0 r1 => ?_⟩
      have hp1 := sj _ _ b1 hp
      refine ⟨_, rfl, rfl, _, rfl, ite2 (fun c1 => ?_) (fun c1 => ?_)⟩
      · exact ret_run (a_st r H1 (n + 1) _ hp1 t1 (by omega) fun H2 v b2 t2 r2 => q H2 v (b1.trans b2) (t2.more (by omega)) (r2.mono (by omega) (by omega)))
      refine ⟨_, rfl, rfl, _, rfl, ite2 (fun c2 => ?_) (fun c2 => ?_)⟩
      · exact ret_run (a_ev r H1 (n + 1) _ hp1 t1 (by omega) fun H2 v b2 t2 r2 => q H2 v (b1.trans b2) (t2.more (by omega)) (r2.mono (by omega) (by omega)))
      refine ⟨_, rfl, _, _, rfl, rfl, _, rfl, ite2 (fun c3 => ?_) (fun c3 => ?_)⟩
      · exact ret_run (dr_nd sj (daf sj (dr_str (x := "pipe") (by decide +kernel)) (daf sj (tm r) (daf sj (tm r) daf_nil))) (by decide) H1 (n + 1) _ hp1 t1 (by omega) fun H2 v b2 t2 r2 => q H2 v (b1.trans b2) (t2.more (by omega)) (r2.mono (by omega) (by omega)))
      refine ⟨_, rfl, _, _, rfl, rfl, _, rfl, ite2 (fun c4 => ?_) (fun c4 => ?_)⟩
      · exact ret_run (dr_nd sj (daf sj (dr_str (x := "both") (by decide +kernel)) (daf sj (tm r) (daf sj (tm r) daf_nil))) (by decide) H1 (n + 1) _ hp1 t1 (by omega) fun H2 v b2 t2 r2 => q H2 v (b1.trans b2) (t2.more (by omega)) (r2.mono (by omega) (by omega)))
      refine ⟨_, rfl, rfl, _, rfl, ite2 (fun c5 => ?_) (fun c5 => ?_)⟩
      · exact ret_run (dr_nd sj (daf sj (dr_str (x := "if") (by decide +kernel)) (daf sj (te r) (daf sj (tm r) (daf sj (tm r) daf_nil)))) (by decide) H1 (n + 1) _ hp1 t1 (by omega) fun H2 v b2 t2 r2 => q H2 v (b1.trans b2) (t2.more (by omega)) (r2.mono (by omega) (by omega)))
      refine ⟨_, rfl, rfl, _, rfl, ite2 (fun c6 => ?_) (fun c6 => ?_)⟩
      · exact ret_run (dr_nd sj (daf sj (dr_str (x := "try") (by decide +kernel)) (daf sj (tm r) daf_nil)) (by decide) H1 (n + 1) _ hp1 t1 (by omega) fun H2 v b2 t2 r2 => q H2 v (b1.trans b2) (t2.more (by omega)) (r2.mono (by omega) (by omega)))
      · exact ret_run (dr_nd sj (daf sj (dr_str (x := "other") (by decide +kernel)) (daf sj (tm r) (daf sj (tm r) daf_nil))) (by decide) H1 (n + 1) _ hp1 t1 (by omega) fun H2 v b2 t2 r2 => q H2 v (b1.trans b2) (t2.more (by omega)) (r2.mono (by omega) (by omega)))
    · refine ⟨_, rfl, d, l, n, 2, rfl, hT, by omega, by decide, by decide, fun H1 r b1 t1 r0 r1 => ?_⟩
      have hp1 := sj _ _ b1 hp
      refine ⟨_, rfl, rfl, _, rfl, ite2 (fun c1 => ?_) (fun c1 => ?_)⟩
      · exact ret_run (a_st r H1 (n + 1) _ hp1 t1 (by omega) fun H2 v b2 t2 r2 => q H2 v (b1.trans b2) (t2.more (by omega)) (r2.mono (by omega) (by omega)))
      refine ⟨_, rfl, rfl, _, rfl, ite2 (fun c2 => ?_) (fun c2 => ?_)⟩
      · exact ret_run (a_ev r H1 (n + 1) _ hp1 t1 (by omega) fun H2 v b2 t2 r2 => q H2 v (b1.trans b2) (t2.more (by omega)) (r2.mono (by omega) (by omega)))
      · exfalso
        have x1 : ¬ r = 0 := fun z => c1 (decide_eq_true (by rw [z]))
        have x2 : ¬ r = 1 := fun z => c2 (decide_eq_true (by rw [z]))
        omega
theorem tm_zero {g : Nat → Nat} {f : Addr} {fd : FuncData} {x : Str} {st : Stmt} {N : List Str} (F : Fun K x x st f fd) (S : FnScope N ["_law_tape", "_law_keys", "_law_deep"] (defScope st)) : FnOk P w K mg base CX0 4 f fd ["_law_tape", "_law_keys", "_law_deep"] (spTm K g 0) :=
  F.ok (k := 3) S (fun vs H Q E h => by obtain ⟨d, l, p, n, m, ks, h0, _⟩ := h; exact absurd h0 (Nat.not_lt_zero _)) (fun cdv A outer s H vs Q E hr h => by obtain ⟨d, l, p, n, m, ks, h0, _⟩ := h; exact absurd h0 (Nat.not_lt_zero _))
end
end Toy


namespace Toy
open PySem PySem.Spec L2 PyProof.Rows PySem.W
abbrev sFl : Stmt := top 49
def cF : Nat → Nat
  | 0 => 10
  | m + 1 => 3 * cF m + 100
theorem cF_pos : ∀ m, 10 ≤ cF m
  | 0 => Nat.le_refl _
  | m + 1 => by
    have := cF_pos m
    rw [cF]
    omega
theorem cF_le {a b : Nat} (h : a ≤ b) : cF a ≤ cF b := by
  induction h with
  | refl => exact Nat.le_refl _
  | step _ ih =>
    rw [cF]
    omega
/-- most tuples of a filter -/
def gF : Nat → Nat
  | 0 => 2
  | m + 1 => 2 * gF m + 4
theorem gF_pos : ∀ m, 2 ≤ gF m
  | 0 => Nat.le_refl _
  | m + 1 => by
    have := gF_pos m
    rw [gF]
    omega
theorem gF_le {a b : Nat} (h : a ≤ b) : gF a ≤ gF b := by
  induction h with
  | refl => exact Nat.le_refl _
  | step _ ih =>
    rw [gF]
    omega
def spFl (K : PySem.W.Frag) (j : Nat) : Sp := fun vs H Q _ => ∃ (d l p : Addr) (n : Nat) (z : Int) (ks : List Str), (z < (j : Int) ∧ 0 < j) ∧ vs = [.ref d, .ref p, .int z] ∧ Tape H d l n ∧ n + cF z.toNat ≤ 900000 ∧ H p = some (.lst (ks.map V.str)) ∧ KeysOk ks ∧ ∀ H' v, But d H H' → Tape H' d l (n + cF z.toNat) → Fv K d H' 5 (gF z.toNat) (3 * z.toNat + 2) v → Q v H'
theorem dr_tm1 {K : PySem.W.Frag} {g : Nat → Nat} {d l p : Addr} {σ : L2.St} {ks : List Str} {J : Hp → Prop} (hJ : ∀ H, J H → JK p ks H) (h0 : σ[0]? = some (some (.ref d))) (h1 : σ[1]? = some (some (.ref p))) (hk : KeysOk ks) : Dr d l J (tCall (spTm K g 2) [] E0 (tCons (tVar 0) (tCons (tVar 1) (tCons (tC (.int 1)) tNil)))) σ 40 (fun H v => Fv K d H 5 (g 1) 2 v) :=
  fun H n Q j t b q => ⟨_, h0, _, h1, d, l, p, n, 1, ks, by decide, rfl, t, b, hJ _ j, hk, q⟩
theorem dr_fl0 {K : PySem.W.Frag} {d l p : Addr} {σ : L2.St} {ks : List Str} {J : Hp → Prop} {i : Nat} (hi : 0 < i) (hJ : ∀ H, J H → JK p ks H) (h0 : σ[0]? = some (some (.ref d))) (h1 : σ[1]? = some (some (.ref p))) (hk : KeysOk ks) : Dr d l J (tCall (spFl K i) [] E0 (tCons (tVar 0) (tCons (tVar 1) (tCons (tC (.int 0)) tNil)))) σ 10 (fun H v => Fv K d H 5 2 2 v) :=
  fun H n Q j t b q => ⟨_, h0, _, h1, d, l, p, n, 0, ks, ⟨by omega, hi⟩, rfl, t, b, hJ _ j, hk, q⟩
end Toy


namespace Toy
open PySem PySem.Spec L2 PyProof.Rows PySem.W
abbrev NFl : List Str := ["_law_tape", "_law_keys", "_law_deep", "_law_some_here", "_law_way", "_law_one", "_law_two", "_law_seat"]
abbrev tKey : TE := tCall spPick [] E0 (tCons (tVar 0) (tCons (tVar 1) tNil))
def JX (K : PySem.W.Frag) (d : Addr) (J : Hp → Prop) (L : Addr) (vs : List V) (m e : Nat) : Hp → Prop := fun H => J H ∧ (H L = some (.lst vs) ∧ ∀ v ∈ vs, Fv K d H 5 m e v)
theorem stb_x {K : PySem.W.Frag} {d : Addr} {J : Hp → Prop} {L : Addr} {vs : List V} {m e : Nat} (sj : Stb d J) (n : L ≠ d) : Stb d (JX K d J L vs m e) := fun H H' b z => ⟨sj _ _ b z.1, b _ _ n z.2.1, fun v hv => (z.2.2 v hv).but b⟩
def J12 (K : PySem.W.Frag) (d p : Addr) (ks : List Str) (one two : V) (m e : Nat) : Hp → Prop := fun H => JK p ks H ∧ (Fv K d H 5 m e one ∧ Fv K d H 5 m e two)
theorem stb_12 {K : PySem.W.Frag} {d p : Addr} {ks : List Str} {one two : V} {m e : Nat} (sj : Stb d (JK p ks)) : Stb d (J12 K d p ks one two m e) := fun H H' b z => ⟨sj _ _ b z.1, z.2.1.but b, z.2.2.but b⟩
def JC (K : PySem.W.Frag) (d : Addr) (J : Hp → Prop) (seat : V) (m e : Nat) : Hp → Prop := fun H => J H ∧ Fv K d H 5 m e seat
theorem stb_c {K : PySem.W.Frag} {d : Addr} {J : Hp → Prop} {seat : V} {m e : Nat} (sj : Stb d J) : Stb d (JC K d J seat m e) := fun H H' b z => ⟨sj _ _ b z.1, z.2.but b⟩
theorem dr_xy {d l : Addr} {J : Hp → Prop} {σ : L2.St} {x y : Str} (sj : Stb d J) (h0 : σ[0]? = some (some (.ref d))) (hx : okK x = true) (hy : okK y = true) : Dr d l J (tCall spPick [] E0 (tCons (tVar 0) (tCons (tLst (tCons (tC (.str x)) (tCons (tC (.str y)) tNil))) tNil))) σ 1 IsW :=
  (dr_pick sj h0 st_w (dal_cons sj st_w (dr_txt hx) (dal_cons sj st_w (dr_txt hy) dal_nil)) (by decide)).mono (fun _ _ z => z) (by decide)
section
variable {P : Program} {w : World} {K : PySem.W.Frag} {mg : Str → Option Value} {base : Heap}
theorem scFl : FnScope NFl ["_law_tape", "_law_keys", "_law_deep"] (defScope sFl) := ⟨rfl, rfl, rfl, by decide +kernel, rfl, by decide +kernel, by decide +kernel⟩
theorem ok_fl1 {j : Nat} {f fP fD fL fT fW fC : Addr} {fd fdP fdD fdL fdT fdW fdC : FuncData} (F : Fun K "_law_filter" "_law_filter" sFl f fd) (GP : FnOk P w K mg base CX0 2 fP fdP ["_law_tape", "_law_items"] spPick) (mP : mg "_law_pick" = some (.ref fP)) (kP : PySem.W.keepIn K (.ref fP) = true) (bP : Binds K fdP ["_law_tape", "_law_items"] [])
    (GD : FnOk P w K mg base CX0 1 fD fdD ["_law_tape", "_law_many"] spDraw) (mD : mg "_law_draw" = some (.ref fD)) (kD : PySem.W.keepIn K (.ref fD) = true) (bD : Binds K fdD ["_law_tape", "_law_many"] [])
    (GL : FnOk P w K mg base CX0 3 fL fdL ["_law_tape"] spLeaf) (mL : mg "_law_leaf" = some (.ref fL)) (kL : PySem.W.keepIn K (.ref fL) = true) (bL : Binds K fdL ["_law_tape"] [])
    (GT : FnOk P w K mg base CX0 6 fT fdT ["_law_tape", "_law_keys", "_law_deep"] (spTm K gT 2)) (mT : mg "_law_test" = some (.ref fT)) (kT : PySem.W.keepIn K (.ref fT) = true) (bT : Binds K fdT ["_law_tape", "_law_keys", "_law_deep"] [])
    (GW : FnOk P w K mg base CX0 6 fW fdW ["_law_tape", "_law_keys", "_law_deep"] (spTm K gW 2)) (mW : mg "_law_walk" = some (.ref fW)) (kW : PySem.W.keepIn K (.ref fW) = true) (bW : Binds K fdW ["_law_tape", "_law_keys", "_law_deep"] [])
    (GC : FnOk P w K mg base CX0 6 fC fdC ["_law_tape", "_law_keys", "_law_deep"] (spTm K gW 2)) (mC : mg "_law_chooser" = some (.ref fC)) (kC : PySem.W.keepIn K (.ref fC) = true) (bC : Binds K fdC ["_law_tape", "_law_keys", "_law_deep"] [])
    (mF : mg "_law_filter" = some (.ref f)) (kF : PySem.W.keepIn K (.ref f) = true) (bF : Binds K fd ["_law_tape", "_law_keys", "_law_deep"] [])
    (ih : FnOk P w K mg base CX0 (j + 7) f fd ["_law_tape", "_law_keys", "_law_deep"] (spFl K j)) : FnOk P w K mg base CX0 (j + 8) f fd ["_law_tape", "_law_keys", "_law_deep"] (spFl K (j + 1)) := by
  refine F.ok (k := j + 7) scFl (fun vs H Q E h => ?_) (fun cdv A outer s H vs Q E hr h => ?_)
  · obtain ⟨d, l, p, n, z, ks, _, rfl, _⟩ := h
    rfl
  · obtain ⟨d, l, p, n, z, ks, hzj, rfl, hT, hn, hp, hk, q⟩ := h
    have hr1 : Room 1 _ := hr.mono (show 1 ≤ j + 7 by omega)
    have hr2 : Room 2 _ := hr.mono (show 2 ≤ j + 7 by omega)
    have hr3 : Room 3 _ := hr.mono (show 3 ≤ j + 7 by omega)
    have hr6 : Room 6 _ := hr.mono (show 6 ≤ j + 7 by omega)
    refine ⟨_, pss_cons (ps_if (pt_cmpR op_le (pv 2) pe_int (nomark _))
        (pss_cons (ps_set (i := 3) scFl.nd rfl (Or.inl rfl) (pe_lst (pa_cons (pe_tup (pa_cons pe_str pa_nil)) (pa_cons (pe_tup (pa_cons pe_str pa_nil)) (pa_cons (pe_tup (pa_cons pe_str (pa_cons (pe_call GP hr2 (by rfl) mP kP bP .nil pass0 (pa_cons (pv 0) (pa_cons (pv 1) pa_nil))) pa_nil)))
            (pa_cons (pe_tup (pa_cons pe_str (pa_cons (pe_call GD hr1 (by rfl) mD kD bD .nil pass0 (pa_cons (pv 0) (pa_cons pe_int pa_nil))) pa_nil))) (pa_cons (pe_tup (pa_cons pe_str pa_nil)) (pa_cons (pe_tup (pa_cons pe_str pa_nil)) pa_nil))))))))
        (pss_cons (ps_set (i := 3) scFl.nd rfl (Or.inl rfl) (pe_op op_cat (pv 3) (pe_lst (pa_cons (pe_tup (pa_cons pe_str (pa_cons (pe_call GL hr3 (by rfl) mL kL bL .nil pass0 (pa_cons (pv 0) pa_nil)) pa_nil)))
            (pa_cons (pe_tup (pa_cons pe_str (pa_cons (pe_call GP hr2 (by rfl) mP kP bP .nil pass0 (pa_cons (pv 0) (pa_cons (pe_lst (pa_cons pe_str (pa_cons pe_str pa_nil))) pa_nil))) pa_nil))) pa_nil)))))
        (pss_one (ps_ret (pe_call GP hr2 (by rfl) mP kP bP .nil pass0 (pa_cons (pv 0) (pa_cons (pe_op op_cat (pv 3) (pe_lst (pa_cons (pe_tup (pa_cons pe_str (pa_cons (pe_call GP hr2 (by rfl) mP kP bP .nil pass0 (pa_cons (pv 0) (pa_cons (pe_lst (pa_cons pe_str (pa_cons pe_str pa_nil))) pa_nil))) (pa_cons (pe_tup pa_nil) pa_nil)))) pa_nil))) pa_nil))))))) pss_nil)
      (pss_cons (ps_set (i := 4) scFl.nd rfl (Or.inl rfl) (pe_call GD hr1 (by rfl) mD kD bD .nil pass0 (pa_cons (pv 0) (pa_cons pe_int pa_nil))))
      (pss_cons (ps_par (i := 5) (j := 6) rfl scFl.nd rfl rfl (by decide) rfl rfl (pa_cons (pe_call ih hr (by rfl) mF kF bF .nil pass0 (pa_cons (pv 0) (pa_cons (pv 1) (pa_cons (pe_op op_sub (pv 2) pe_int) pa_nil)))) (pa_cons (pe_call ih hr (by rfl) mF kF bF .nil pass0 (pa_cons (pv 0) (pa_cons (pv 1) (pa_cons (pe_op op_sub (pe_op op_sub (pv 2) pe_int) (pe_call GD hr1 (by rfl) mD kD bD .nil pass0 (pa_cons (pv 0) (pa_cons pe_int pa_nil)))) pa_nil)))) pa_nil)) (by rfl))
      (pss_cons (ps_if (pt_cmpR op_lt (pv 4) pe_int (nomark _)) (pss_one (ps_ret (pe_tup (pa_cons (pe_call GP hr2 (by rfl) mP kP bP .nil pass0 (pa_cons (pv 0) (pa_cons (pe_lst (pa_cons pe_str (pa_cons pe_str (pa_cons pe_str (pa_cons pe_str (pa_cons pe_str (pa_cons pe_str (pa_cons pe_str (pa_cons pe_str (pa_cons pe_str pa_nil)))))))))) pa_nil))) (pa_cons (pv 5) (pa_cons (pv 6) pa_nil)))))) pss_nil)
      (pss_cons (ps_if (pt_cmpR op_eq (pv 4) pe_int (nomark _)) (pss_one (ps_ret (pe_tup (pa_cons pe_str (pa_cons (pe_call GT hr6 (by rfl) mT kT bT .nil pass0 (pa_cons (pv 0) (pa_cons (pv 1) (pa_cons pe_int pa_nil)))) (pa_cons (pv 5) (pa_cons (pv 6) pa_nil))))))) pss_nil)
      (pss_cons (ps_if (pt_cmpR op_eq (pv 4) pe_int (nomark _)) (pss_one (ps_ret (pe_call GP hr2 (by rfl) mP kP bP .nil pass0 (pa_cons (pv 0) (pa_cons (pe_lst (pa_cons (pe_tup (pa_cons pe_str (pa_cons (pe_call GW hr6 (by rfl) mW kW bW .nil pass0 (pa_cons (pv 0) (pa_cons (pv 1) (pa_cons pe_int pa_nil)))) pa_nil)))
          (pa_cons (pe_tup (pa_cons pe_str (pa_cons (pe_call GW hr6 (by rfl) mW kW bW .nil pass0 (pa_cons (pv 0) (pa_cons (pv 1) (pa_cons pe_int pa_nil)))) (pa_cons (pv 5) pa_nil)))) pa_nil))) pa_nil))))) pss_nil)
      (pss_cons (ps_if (pt_cmpR op_eq (pv 4) pe_int (nomark _))
        (pss_cons (ps_set (i := 3) scFl.nd rfl (Or.inl rfl) (pe_lst (pa_cons (pe_tup (pa_cons pe_str (pa_cons (pv 5) pa_nil))) (pa_cons (pe_tup (pa_cons pe_str (pa_cons (pe_tup (pa_cons (pe_tup (pa_cons pe_str (pa_cons (pv 5) pa_nil))) (pa_cons (pe_tup (pa_cons pe_str (pa_cons (pv 6) pa_nil))) pa_nil))) pa_nil))) (pa_cons (pe_tup (pa_cons pe_str (pa_cons (pe_tup pa_nil) pa_nil))) (pa_cons (pe_tup (pa_cons pe_str (pa_cons (pv 5) pa_nil))) pa_nil))))))
        (pss_one (ps_ret (pe_call GP hr2 (by rfl) mP kP bP .nil pass0 (pa_cons (pv 0) (pa_cons (pe_op op_cat (pv 3) (pe_lst (pa_cons (pe_tup (pa_cons pe_str (pa_cons (pv 5) pa_nil))) pa_nil))) pa_nil)))))) pss_nil)
      (pss_cons (ps_if (pt_cmpR op_eq (pv 4) pe_int (nomark _)) (pss_one (ps_ret (pe_tup (pa_cons pe_str (pa_cons (pv 5) (pa_cons (pe_call GP hr2 (by rfl) mP kP bP .nil pass0 (pa_cons (pv 0) (pa_cons (pe_lst (pa_cons pe_str (pa_cons pe_str pa_nil))) pa_nil))) (pa_cons (pv 6) pa_nil))))))) pss_nil)
      (pss_cons (ps_if (pt_cmpR op_eq (pv 4) pe_int (nomark _)) (pss_one (ps_ret (pe_tup (pa_cons pe_str (pa_cons (pv 5) (pa_cons (pv 6) (pa_cons (pe_call ih hr (by rfl) mF kF bF .nil pass0 (pa_cons (pv 0) (pa_cons (pv 1) (pa_cons pe_int pa_nil)))) pa_nil))))))) pss_nil)
      (pss_cons (ps_if (pt_cmpR op_eq (pv 4) pe_int (nomark _)) (pss_one (ps_ret (pe_tup (pa_cons pe_str (pa_cons (pv 5) (pa_cons (pe_call GP hr2 (by rfl) mP kP bP .nil pass0 (pa_cons (pv 0) (pa_cons (pe_lst (pa_cons pe_str (pa_cons pe_str pa_nil))) pa_nil))) (pa_cons (pe_call ih hr (by rfl) mF kF bF .nil pass0 (pa_cons (pv 0) (pa_cons (pv 1) (pa_cons pe_int pa_nil)))) (pa_cons (pv 6) pa_nil)))))))) pss_nil)
      (pss_cons (ps_if (pt_cmpR op_eq (pv 4) pe_int (nomark _)) (pss_one (ps_ret (pe_tup (pa_cons pe_str (pa_cons (pe_call GP hr2 (by rfl) mP kP bP .nil pass0 (pa_cons (pv 0) (pa_cons (pe_lst (pa_cons pe_str (pa_cons pe_str pa_nil))) pa_nil)))
          (pa_cons (pe_call GP hr2 (by rfl) mP kP bP .nil pass0 (pa_cons (pv 0) (pa_cons (pe_lst (pa_cons (pe_tup pa_nil) (pa_cons (pe_tup (pa_cons pe_str pa_nil)) (pa_cons (pe_tup (pa_cons pe_str (pa_cons pe_str pa_nil))) pa_nil)))) pa_nil))) (pa_cons (pv 5) (pa_cons (pv 6) pa_nil)))))))) pss_nil)
      (pss_cons (ps_if (pt_cmpR op_eq (pv 4) pe_int (nomark _))
        (pss_cons (ps_set (i := 3) scFl.nd rfl (Or.inl rfl) (pe_lst (pa_cons (pe_tup (pa_cons pe_str (pa_cons (pe_call GP hr2 (by rfl) mP kP bP .nil pass0 (pa_cons (pv 0) (pa_cons (pe_lst (pa_cons pe_str (pa_cons pe_str (pa_cons pe_str pa_nil)))) pa_nil))) (pa_cons (pe_tup (pa_cons (pv 5) pa_nil)) pa_nil)))) (pa_cons (pe_tup (pa_cons pe_str (pa_cons pe_str (pa_cons (pe_tup (pa_cons (pv 5) (pa_cons (pv 6) pa_nil))) pa_nil)))) pa_nil))))
        (pss_one (ps_ret (pe_call GP hr2 (by rfl) mP kP bP .nil pass0 (pa_cons (pv 0) (pa_cons (pe_op op_cat (pv 3) (pe_lst (pa_cons (pe_tup (pa_cons pe_str (pa_cons (pe_call GD hr1 (by rfl) mD kD bD .nil pass0 (pa_cons (pv 0) (pa_cons pe_int pa_nil))) (pa_cons (pv 5) pa_nil)))) pa_nil))) pa_nil)))))) pss_nil)
      (pss_cons (ps_set (i := 7) scFl.nd rfl (Or.inl rfl) (pe_call GC hr6 (by rfl) mC kC bC .nil pass0 (pa_cons (pv 0) (pa_cons (pv 1) (pa_cons pe_int pa_nil)))))
      (pss_cons (ps_set (i := 3) scFl.nd rfl (Or.inl rfl) (pe_lst (pa_cons (pe_tup (pa_cons pe_str (pa_cons (pv 7) pa_nil))) (pa_cons (pe_tup (pa_cons pe_str (pa_cons (pv 7) pa_nil))) (pa_cons (pe_tup (pa_cons pe_str (pa_cons (pv 7) (pa_cons (pv 5) pa_nil)))) (pa_cons (pe_tup (pa_cons pe_str (pa_cons (pv 7) (pa_cons pe_str (pa_cons (pv 5) pa_nil))))) pa_nil))))))
      (pss_one (ps_ret (pe_call GP hr2 (by rfl) mP kP bP .nil pass0 (pa_cons (pv 0) (pa_cons (pe_op op_cat (pv 3) (pe_lst (pa_cons (pe_tup (pa_cons pe_str (pa_cons (pv 7) (pa_cons (pv 5) pa_nil)))) pa_nil))) pa_nil)))))))))))))))))), ?_⟩
    have npd := np_of hT hp
    have sj : Stb d (JK p ks) := stb_list npd
    refine ⟨_, rfl, _, _, rfl, rfl, _, rfl, ite2 (fun c => ?_) (fun c => ?_)⟩
    · have c0 : z ≤ 0 := of_decide_eq_true c
      have ez : z.toNat = 0 := by omega
      rw [ez] at hn q
      have e10 : cF 0 = 10 := rfl
      have g10 : gF 0 = 2 := rfl
      rw [e10] at hn q
      have key : Dr d l (JK p ks) tKey [some (.ref d), some (.ref p), some (.int z), none, none, none, none, none] 1 (fun H v => Fv K d H 5 0 0 v) := dr_key rfl rfl (fun _ z => z) hk
      have a1 := (dal (l := l) (σ := [some (.ref d), some (.ref p), some (.int z), none, none, none, none, none]) (K := K) (c := 5) (n' := 2) (e' := 2) sj (dr_nd (e := 0) sj (daf sj (dr_str (x := "same") (by decide +kernel)) daf_nil) (by decide)) ⟨by omega, by omega⟩ (dal (n' := 2) (e' := 2) sj (dr_nd (e := 0) sj (daf sj (dr_str (x := "every") (by decide +kernel)) daf_nil) (by decide)) ⟨by omega, by omega⟩ (dal (n' := 2) (e' := 2) sj (dr_nd (e := 0) sj (daf sj (dr_str (x := "field") (by decide +kernel)) (daf sj key daf_nil)) (by decide)) ⟨by omega, by omega⟩ (dal (n' := 2) (e' := 2) sj (dr_nd (e := 0) sj (daf sj (dr_str (x := "item") (by decide +kernel)) (daf sj (dr_drawF (c := 3) rfl (by decide)) daf_nil)) (by decide)) ⟨by omega, by omega⟩ (dal (n' := 2) (e' := 2) sj (dr_nd (e := 0) sj (daf sj (dr_str (x := "none") (by decide +kernel)) daf_nil) (by decide)) ⟨by omega, by omega⟩ (dal (n' := 2) (e' := 2) sj (dr_nd (e := 0) sj (daf sj (dr_str (x := "fail") (by decide +kernel)) daf_nil) (by decide)) ⟨by omega, by omega⟩ dal_nil))))))
      refine asg_run (lst_run fv_st a1 (by decide) hp hT (by omega) fun H1 L vs b1 t1 nLd hL r1 => ?_)
      have t1 : Tape H1 d l (n + 2) := t1.more (by omega)
      have sj1 : Stb d (JX K d (JK p ks) L vs 2 2) := stb_x sj nLd
      have a2 := (dal (l := l) (σ := [some (.ref d), some (.ref p), some (.int z), some (.ref L), none, none, none, none]) (K := K) (c := 5) (n' := 2) (e' := 2) sj1 (dr_nd (e := 0) sj1 (daf sj1 (dr_str (x := "leaf") (by decide +kernel)) (daf sj1 (dr_leaf (K := K) rfl) daf_nil)) (by decide)) ⟨by omega, by omega⟩ (dal (n' := 2) (e' := 2) sj1 (dr_nd (e := 0) sj1 (daf sj1 (dr_str (x := "name") (by decide +kernel)) (daf sj1 (dr_w (dr_xy sj1 rfl (x := "x") (y := "y") (by decide +kernel) (by decide +kernel))) daf_nil)) (by decide)) ⟨by omega, by omega⟩ dal_nil))
      have hl1 := r1.1
      refine asg_run (cat_run sj1 rfl (fun _ z => z.2) fv_st a2 (by omega) ⟨sj _ _ b1 hp, hL, r1.2⟩ t1 (by omega) fun H2 L2 ys b2 t2 nL2 hL2 r2 => ?_)
      have t2 : Tape H2 d l (n + 4) := t2.more (by omega)
      have hl2 := r2.1
      have sj2 : Stb d (JX K d (JK p ks) L2 ys 2 2) := stb_x sj nL2
      have a3 := (dal (l := l) (σ := [some (.ref d), some (.ref p), some (.int z), some (.ref L2), none, none, none, none]) (K := K) (c := 5) (n' := 2) (e' := 2) sj2 (dr_nd (e := 1) sj2 (daf sj2 (dr_str (x := "call") (by decide +kernel)) (daf sj2 (dr_w (dr_xy sj2 rfl (x := "f") (y := "g") (by decide +kernel) (by decide +kernel))) (daf sj2 (dr_nd (e := 0) sj2 daf_nil (by decide)) daf_nil))) (by decide)) ⟨by omega, by omega⟩ dal_nil)
      refine ret_run (dr_pick2 sj2 rfl rfl (fun _ z => z.2) fv_st a3 ⟨by omega, by omega⟩ H2 (n + 4) _ ⟨sj _ _ (b1.trans b2) hp, hL2, r2.2⟩ t2 (by omega) fun H3 v b3 t3 r3 => q H3 v ((b1.trans b2).trans b3) (t3.more (by omega)) r3)
    · have c0 : ¬ z ≤ 0 := fun e => c (decide_eq_true e)
      obtain ⟨k, rfl⟩ : ∃ k : Nat, z = ((k + 1 : Nat) : Int) := ⟨z.toNat - 1, by omega⟩
      have ez : (((k + 1 : Nat) : Int)).toNat = k + 1 := by omega
      rw [ez, cF, gF] at q
      rw [ez, cF] at hn
      have cp := cF_pos k
      have gp := gF_pos k
      refine ⟨_, rfl, d, l, n, 12, rfl, hT, by omega, by decide, by decide, fun H1 r b1 t1 r0 r1 => ?_⟩
      have ek : (((k : Nat) : Int)).toNat = k := by omega
      refine ⟨_, rfl, _, rfl, _, rfl, _, _, rfl, rfl, d, l, p, n + 1, ((k : Nat) : Int), ks, by omega, ?_, t1, by rw [ek]; omega, sj _ _ b1 hp, hk, fun H2 one b2 t2 f1 => ?_⟩
      · show [V.ref d, V.ref p, V.int (((k + 1 : Nat) : Int) - 1)] = _
        rw [show ((k + 1 : Nat) : Int) - 1 = (k : Int) by omega]
      rw [ek] at t2 f1
      refine ⟨_, rfl, _, rfl, _, rfl, _, _, rfl, rfl, _, rfl, d, l, n + 1 + cF k, 2, rfl, t2, by omega, by decide, by decide, fun H3 r' b3 t3 r0' r1' => ?_⟩
      have hz2 : (((k + 1 : Nat) : Int) - 1 - r').toNat ≤ k := by omega
      have cz := cF_le hz2
      have gz := gF_le hz2
      refine ⟨_, _, rfl, rfl, d, l, p, n + 1 + cF k + 1, ((k + 1 : Nat) : Int) - 1 - r', ks, by omega, rfl, t3, by omega, sj _ _ ((b1.trans b2).trans b3) hp, hk, fun H4 two b4 t4 f2 => ⟨_, _, rfl, ?_⟩⟩
      have t4 : Tape H4 d l (n + 2 + 2 * cF k) := t4.more (by omega)
      have b14 : But d H1 H4 := (b2.trans b3).trans b4
      have hp4 : JK p ks H4 := sj _ _ (b1.trans b14) hp
      have g1 : Fv K d H4 5 (gF k) (3 * k + 2) one := f1.but (b3.trans b4)
      have g2 : Fv K d H4 5 (gF k) (3 * k + 2) two := f2.mono gz (by omega)
      have s12 : Stb d (J12 K d p ks one two (gF k) (3 * k + 2)) := stb_12 sj
      have j4 : J12 K d p ks one two (gF k) (3 * k + 2) H4 := ⟨hp4, g1, g2⟩
      have q4 : ∀ {N E : Nat} H' v, But d H4 H' → Tape H' d l (n + (3 * cF k + 100)) → Fv K d H' 5 N E v → N ≤ 2 * gF k + 4 → E ≤ 3 * k + 5 → Q v H' := fun H' v b t z hN hE => q H' v ((b1.trans b14).trans b) t (z.mono hN (by omega))
      have o1 : ∀ σ : L2.St, σ[5]? = some (some one) → Dr d l (J12 K d p ks one two (gF k) (3 * k + 2)) (tVar 5) σ 0 (fun H v => Fv K d H 5 (gF k) (3 * k + 2) v) := fun σ h => dr_var h fun H j => j.2.1
      have o2 : ∀ σ : L2.St, σ[6]? = some (some two) → Dr d l (J12 K d p ks one two (gF k) (3 * k + 2)) (tVar 6) σ 0 (fun H v => Fv K d H 5 (gF k) (3 * k + 2) v) := fun σ h => dr_var h fun H j => j.2.2
      have gt1 : gT 1 = 3 := rfl
      have gw1 : gW 1 = 4 := rfl
      refine ⟨_, rfl, _, _, rfl, rfl, _, rfl, ite2 (fun c1 => ?_) (fun c1 => ?_)⟩
      · exact ret_run (dr_nd s12 (daf s12 (dr_w (dr_pick s12 rfl st_w (dal_cons s12 st_w (dr_txt (x := "pipe") (by decide +kernel)) (dal_cons s12 st_w (dr_txt (x := "both") (by decide +kernel)) (dal_cons s12 st_w (dr_txt (x := "pipe") (by decide +kernel)) (dal_cons s12 st_w (dr_txt (x := "sum") (by decide +kernel)) (dal_cons s12 st_w (dr_txt (x := "less") (by decide +kernel)) (dal_cons s12 st_w (dr_txt (x := "product") (by decide +kernel)) (dal_cons s12 st_w (dr_txt (x := "alike") (by decide +kernel)) (dal_cons s12 st_w (dr_txt (x := "before") (by decide +kernel)) (dal_cons s12 st_w (dr_txt (x := "catch") (by decide +kernel)) dal_nil))))))))) (by decide))) (daf s12 (o1 _ rfl) (daf s12 (o2 _ rfl) daf_nil))) (by decide) H4 _ _ j4 t4 (by omega) fun H5 v b5 t5 r5 => q4 H5 v b5 (t5.more (by omega)) r5 (by omega) (by omega))
      refine ⟨_, rfl, rfl, _, rfl, ite2 (fun c2 => ?_) (fun c2 => ?_)⟩
      · exact ret_run (dr_nd s12 (daf s12 (dr_str (x := "if") (by decide +kernel)) (daf s12 (dr_up (dr_tm1 (K := K) (g := gT) (fun _ j => j.1) rfl rfl hk) (Nat.le_refl _) (show 2 ≤ 3 * k + 2 by omega)) (daf s12 (o1 _ rfl) (daf s12 (o2 _ rfl) daf_nil)))) (by decide) H4 _ _ j4 t4 (by omega) fun H5 v b5 t5 r5 => q4 H5 v b5 (t5.more (by omega)) r5 (by omega) (by omega))
      refine ⟨_, rfl, rfl, _, rfl, ite2 (fun c2 => ?_) (fun c2 => ?_)⟩
      · exact ret_run (dr_pick s12 rfl fv_st (dal (n' := (2 * gF k + 4)) (e' := (3 * k + 5)) s12 (dr_nd s12 (daf s12 (dr_str (x := "try") (by decide +kernel)) (daf s12 (dr_up (dr_tm1 (K := K) (g := gW) (fun _ j => j.1) rfl rfl hk) (Nat.le_refl _) (show 2 ≤ 3 * k + 2 by omega)) daf_nil)) (by decide)) ⟨by omega, by omega⟩ (dal (n' := (2 * gF k + 4)) (e' := (3 * k + 5)) s12 (dr_nd s12 (daf s12 (dr_str (x := "other") (by decide +kernel)) (daf s12 (dr_up (dr_tm1 (K := K) (g := gW) (fun _ j => j.1) rfl rfl hk) (Nat.le_refl _) (show 2 ≤ 3 * k + 2 by omega)) (daf s12 (o1 _ rfl) daf_nil))) (by decide)) ⟨by omega, by omega⟩ dal_nil)) (by decide) H4 _ _ j4 t4 (by omega) fun H5 v b5 t5 r5 => q4 H5 v b5 (t5.more (by omega)) r5 (by omega) (by omega))
      refine ⟨_, rfl, rfl, _, rfl, ite2 (fun c2 => ?_) (fun c2 => ?_)⟩
      · have a1 := (dal (l := l) (σ := [some (.ref d), some (.ref p), some (.int ((k + 1 : Nat) : Int)), none, some (.int r), some one, some two, none]) (K := K) (c := 5) (n' := (2 * gF k + 4)) (e' := (3 * k + 5)) s12 (dr_nd s12 (daf s12 (dr_str (x := "list") (by decide +kernel)) (daf s12 (o1 _ rfl) daf_nil)) (by decide)) ⟨by omega, by omega⟩ (dal (n' := (2 * gF k + 4)) (e' := (3 * k + 5)) s12 (dr_nd s12 (daf s12 (dr_str (x := "dict") (by decide +kernel)) (daf s12 (dr_nd s12 (daf s12 (dr_nd s12 (daf s12 (dr_str (x := "a") (by decide +kernel)) (daf s12 (o1 _ rfl) daf_nil)) (by decide)) (daf s12 (dr_nd s12 (daf s12 (dr_str (x := "b") (by decide +kernel)) (daf s12 (o2 _ rfl) daf_nil)) (by decide)) daf_nil)) (by decide)) daf_nil)) (by decide)) ⟨by omega, by omega⟩ (dal (n' := (2 * gF k + 4)) (e' := (3 * k + 5)) s12 (dr_nd s12 (daf s12 (dr_str (x := "dict") (by decide +kernel)) (daf s12 (dr_nd (e := 0) s12 daf_nil (by decide)) daf_nil)) (by decide)) ⟨by omega, by omega⟩ (dal (n' := (2 * gF k + 4)) (e' := (3 * k + 5)) s12 (dr_nd s12 (daf s12 (dr_str (x := "first") (by decide +kernel)) (daf s12 (o1 _ rfl) daf_nil)) (by decide)) ⟨by omega, by omega⟩ dal_nil))))
        refine asg_run (lst_run fv_st a1 (by decide) j4 t4 (by omega) fun H5 L vs b5 t5 nLd hL r5 => ?_)
        have t5 : Tape H5 d l (n + 2 + 2 * cF k) := t5.more (by omega)
        have hl := r5.1
        have sx : Stb d (JX K d (J12 K d p ks one two (gF k) (3 * k + 2)) L vs (2 * gF k + 4) (3 * k + 5)) := stb_x s12 nLd
        have a2 := (dal (l := l) (σ := [some (.ref d), some (.ref p), some (.int ((k + 1 : Nat) : Int)), some (.ref L), some (.int r), some one, some two, none]) (K := K) (c := 5) (n' := (2 * gF k + 4)) (e' := (3 * k + 5)) sx (dr_nd sx (daf sx (dr_str (x := "fails") (by decide +kernel)) (daf sx (dr_var (i := 5) rfl fun H j => j.1.2.1) daf_nil)) (by decide)) ⟨by omega, by omega⟩ dal_nil)
        exact ret_run (dr_pick2 sx rfl rfl (fun _ z => z.2) fv_st a2 ⟨by omega, by omega⟩ H5 _ _ ⟨s12 _ _ b5 j4, hL, r5.2⟩ t5 (by omega) fun H6 v b6 t6 r6 => q4 H6 v (b5.trans b6) (t6.more (by omega)) r6 (by omega) (by omega))
      refine ⟨_, rfl, rfl, _, rfl, ite2 (fun c2 => ?_) (fun c2 => ?_)⟩
      · exact ret_run (dr_nd s12 (daf s12 (dr_str (x := "as") (by decide +kernel)) (daf s12 (o1 _ rfl) (daf s12 (dr_w (dr_xy s12 rfl (x := "x") (y := "y") (by decide +kernel) (by decide +kernel))) (daf s12 (o2 _ rfl) daf_nil)))) (by decide) H4 _ _ j4 t4 (by omega) fun H5 v b5 t5 r5 => q4 H5 v b5 (t5.more (by omega)) r5 (by omega) (by omega))
      refine ⟨_, rfl, rfl, _, rfl, ite2 (fun c2 => ?_) (fun c2 => ?_)⟩
      · exact ret_run (dr_nd s12 (daf s12 (dr_str (x := "when") (by decide +kernel)) (daf s12 (o1 _ rfl) (daf s12 (o2 _ rfl) (daf s12 (dr_up (dr_fl0 (K := K) (i := j) (by omega) (fun _ j => j.1) rfl rfl hk) (Nat.le_refl _) (show 2 ≤ 3 * k + 2 by omega)) daf_nil)))) (by decide) H4 _ _ j4 t4 (by omega) fun H5 v b5 t5 r5 => q4 H5 v b5 (t5.more (by omega)) r5 (by omega) (by omega))
      refine ⟨_, rfl, rfl, _, rfl, ite2 (fun c2 => ?_) (fun c2 => ?_)⟩
      · exact ret_run (dr_nd s12 (daf s12 (dr_str (x := "reduce") (by decide +kernel)) (daf s12 (o1 _ rfl) (daf s12 (dr_w (dr_xy s12 rfl (x := "x") (y := "y") (by decide +kernel) (by decide +kernel))) (daf s12 (dr_up (dr_fl0 (K := K) (i := j) (by omega) (fun _ j => j.1) rfl rfl hk) (Nat.le_refl _) (show 2 ≤ 3 * k + 2 by omega)) (daf s12 (o2 _ rfl) daf_nil))))) (by decide) H4 _ _ j4 t4 (by omega) fun H5 v b5 t5 r5 => q4 H5 v b5 (t5.more (by omega)) r5 (by omega) (by omega))
      refine ⟨_, rfl, rfl, _, rfl, ite2 (fun c2 => ?_) (fun c2 => ?_)⟩
      · exact ret_run (dr_nd s12 (daf s12 (dr_str (x := "def") (by decide +kernel)) (daf s12 (dr_w (dr_xy s12 rfl (x := "f") (y := "g") (by decide +kernel) (by decide +kernel))) (daf s12 (dr_up (dr_pick s12 rfl fv_st (dal (n' := 1) (e' := 1) s12 (dr_nd (e := 0) s12 daf_nil (by decide)) ⟨by omega, by omega⟩ (dal (n' := 1) (e' := 1) s12 (dr_nd (e := 0) s12 (daf s12 (dr_str (x := "g") (by decide +kernel)) daf_nil) (by decide)) ⟨by omega, by omega⟩ (dal (n' := 1) (e' := 1) s12 (dr_nd (e := 0) s12 (daf s12 (dr_str (x := "f") (by decide +kernel)) (daf s12 (dr_str (x := "h") (by decide +kernel)) daf_nil)) (by decide)) ⟨by omega, by omega⟩ dal_nil))) (by decide)) (Nat.le_refl _) (show 1 ≤ 3 * k + 2 by omega)) (daf s12 (o1 _ rfl) (daf s12 (o2 _ rfl) daf_nil))))) (by decide) H4 _ _ j4 t4 (by omega) fun H5 v b5 t5 r5 => q4 H5 v b5 (t5.more (by omega)) r5 (by omega) (by omega))
      refine ⟨_, rfl, rfl, _, rfl, ite2 (fun c2 => ?_) (fun c2 => ?_)⟩
      · have a1 := (dal (l := l) (σ := [some (.ref d), some (.ref p), some (.int ((k + 1 : Nat) : Int)), none, some (.int r), some one, some two, none]) (K := K) (c := 5) (n' := (2 * gF k + 4)) (e' := (3 * k + 5)) s12 (dr_nd s12 (daf s12 (dr_str (x := "call") (by decide +kernel)) (daf s12 (dr_w (dr_pick s12 rfl st_w (dal_cons s12 st_w (dr_txt (x := "f") (by decide +kernel)) (dal_cons s12 st_w (dr_txt (x := "g") (by decide +kernel)) (dal_cons s12 st_w (dr_txt (x := "h") (by decide +kernel)) dal_nil))) (by decide))) (daf s12 (dr_nd s12 (daf s12 (o1 _ rfl) daf_nil) (by decide)) daf_nil))) (by decide)) ⟨by omega, by omega⟩ (dal (n' := (2 * gF k + 4)) (e' := (3 * k + 5)) s12 (dr_nd s12 (daf s12 (dr_str (x := "call") (by decide +kernel)) (daf s12 (dr_str (x := "f") (by decide +kernel)) (daf s12 (dr_nd s12 (daf s12 (o1 _ rfl) (daf s12 (o2 _ rfl) daf_nil)) (by decide)) daf_nil))) (by decide)) ⟨by omega, by omega⟩ dal_nil))
        refine asg_run (lst_run fv_st a1 (by decide) j4 t4 (by omega) fun H5 L vs b5 t5 nLd hL r5 => ?_)
        have t5 : Tape H5 d l (n + 3 + 2 * cF k) := t5.more (by omega)
        have hl := r5.1
        have sx : Stb d (JX K d (J12 K d p ks one two (gF k) (3 * k + 2)) L vs (2 * gF k + 4) (3 * k + 5)) := stb_x s12 nLd
        have a2 := (dal (l := l) (σ := [some (.ref d), some (.ref p), some (.int ((k + 1 : Nat) : Int)), some (.ref L), some (.int r), some one, some two, none]) (K := K) (c := 5) (n' := (2 * gF k + 4)) (e' := (3 * k + 5)) sx (dr_nd sx (daf sx (dr_str (x := "take") (by decide +kernel)) (daf sx (dr_drawF (c := 4) rfl (by decide)) (daf sx (dr_var (i := 5) rfl fun H j => j.1.2.1) daf_nil))) (by decide)) ⟨by omega, by omega⟩ dal_nil)
        exact ret_run (dr_pick2 sx rfl rfl (fun _ z => z.2) fv_st a2 ⟨by omega, by omega⟩ H5 _ _ ⟨s12 _ _ b5 j4, hL, r5.2⟩ t5 (by omega) fun H6 v b6 t6 r6 => q4 H6 v (b5.trans b6) (t6.more (by omega)) r6 (by omega) (by omega))
      refine asg_run (dr_tm1 (K := K) (g := gW) (J := J12 K d p ks one two (gF k) (3 * k + 2)) (fun _ j => j.1) rfl rfl hk H4 _ _ j4 t4 (by omega) fun H5 seat b5 t5 f5 => ?_)
      have t5 : Tape H5 d l (n + 2 + 2 * cF k + 40) := t5
      have sc : Stb d (JC K d (J12 K d p ks one two (gF k) (3 * k + 2)) seat 4 (3 * k + 2)) := stb_c s12
      have p1 : ∀ σ : L2.St, σ[5]? = some (some one) → Dr d l (JC K d (J12 K d p ks one two (gF k) (3 * k + 2)) seat 4 (3 * k + 2)) (tVar 5) σ 0 (fun H v => Fv K d H 5 (gF k) (3 * k + 2) v) := fun σ h => dr_var h fun H j => j.1.2.1
      have p7 : ∀ σ : L2.St, σ[7]? = some (some seat) → Dr d l (JC K d (J12 K d p ks one two (gF k) (3 * k + 2)) seat 4 (3 * k + 2)) (tVar 7) σ 0 (fun H v => Fv K d H 5 4 (3 * k + 2) v) := fun σ h => dr_var h fun H j => j.2
      have a1 := (dal (l := l) (σ := [some (.ref d), some (.ref p), some (.int ((k + 1 : Nat) : Int)), none, some (.int r), some one, some two, some seat]) (K := K) (c := 5) (n' := (2 * gF k + 4)) (e' := (3 * k + 5)) sc (dr_nd sc (daf sc (dr_str (x := "places") (by decide +kernel)) (daf sc (p7 _ rfl) daf_nil)) (by decide)) ⟨by omega, by omega⟩ (dal (n' := (2 * gF k + 4)) (e' := (3 * k + 5)) sc (dr_nd sc (daf sc (dr_str (x := "drop") (by decide +kernel)) (daf sc (p7 _ rfl) daf_nil)) (by decide)) ⟨by omega, by omega⟩ (dal (n' := (2 * gF k + 4)) (e' := (3 * k + 5)) sc (dr_nd sc (daf sc (dr_str (x := "change") (by decide +kernel)) (daf sc (p7 _ rfl) (daf sc (p1 _ rfl) daf_nil))) (by decide)) ⟨by omega, by omega⟩ (dal (n' := (2 * gF k + 4)) (e' := (3 * k + 5)) sc (dr_nd sc (daf sc (dr_str (x := "add") (by decide +kernel)) (daf sc (p7 _ rfl) (daf sc (dr_str (x := "a") (by decide +kernel)) (daf sc (p1 _ rfl) daf_nil)))) (by decide)) ⟨by omega, by omega⟩ dal_nil))))
      refine asg_run (lst_run fv_st a1 (by decide) ⟨s12 _ _ b5 j4, f5.mono (by omega) (by omega)⟩ t5 (by omega) fun H6 L vs b6 t6 nLd hL r6 => ?_)
      have t6 : Tape H6 d l (n + 2 + 2 * cF k + 40) := t6.more (by omega)
      have hl := r6.1
      have sx : Stb d (JX K d (JC K d (J12 K d p ks one two (gF k) (3 * k + 2)) seat 4 (3 * k + 2)) L vs (2 * gF k + 4) (3 * k + 5)) := stb_x sc nLd
      have a2 := (dal (l := l) (σ := [some (.ref d), some (.ref p), some (.int ((k + 1 : Nat) : Int)), some (.ref L), some (.int r), some one, some two, some seat]) (K := K) (c := 5) (n' := (2 * gF k + 4)) (e' := (3 * k + 5)) sx (dr_nd sx (daf sx (dr_str (x := "append") (by decide +kernel)) (daf sx (dr_var (i := 7) rfl fun H j => j.1.2) (daf sx (dr_var (i := 5) rfl fun H j => j.1.1.2.1) daf_nil))) (by decide)) ⟨by omega, by omega⟩ dal_nil)
      exact ret_run (dr_pick2 sx rfl rfl (fun _ z => z.2) fv_st a2 ⟨by omega, by omega⟩ H6 _ _ ⟨sc _ _ b6 ⟨s12 _ _ b5 j4, f5.mono (by omega) (by omega)⟩, hL, r6.2⟩ t6 (by omega) fun H7 v b7 t7 r7 => q4 H7 v ((b5.trans b6).trans b7) (t7.more (by omega)) r7 (by omega) (by omega))
end
end Toy


namespace Toy
open PySem L2
section
variable {P : Program} {w : World} {K : PySem.W.Frag} {mg : Str → Option Value} {base : Heap}
theorem ok_tw {fP fD fL fS fT fW : Addr} {fdP fdD fdL fdS fdT fdW : FuncData} (FT : Fun K "_law_test" "_law_test" sTest fT fdT) (FW : Fun K "_law_walk" "_law_walk" sWalk fW fdW) (GP : FnOk P w K mg base CX0 2 fP fdP ["_law_tape", "_law_items"] spPick) (mP : mg "_law_pick" = some (.ref fP)) (kP : PySem.W.keepIn K (.ref fP) = true) (bP : Binds K fdP ["_law_tape", "_law_items"] [])
    (GD : FnOk P w K mg base CX0 1 fD fdD ["_law_tape", "_law_many"] spDraw) (mD : mg "_law_draw" = some (.ref fD)) (kD : PySem.W.keepIn K (.ref fD) = true) (bD : Binds K fdD ["_law_tape", "_law_many"] [])
    (GL : FnOk P w K mg base CX0 3 fL fdL ["_law_tape"] spLeaf) (mL : mg "_law_leaf" = some (.ref fL)) (kL : PySem.W.keepIn K (.ref fL) = true) (bL : Binds K fdL ["_law_tape"] [])
    (GS : FnOk P w K mg base CX0 3 fS fdS ["_law_tape", "_law_keys"] (spStep K)) (mS : mg "_law_step" = some (.ref fS)) (kS : PySem.W.keepIn K (.ref fS) = true) (bS : Binds K fdS ["_law_tape", "_law_keys"] [])
    (mT : mg "_law_test" = some (.ref fT)) (kT : PySem.W.keepIn K (.ref fT) = true) (bT : Binds K fdT ["_law_tape", "_law_keys", "_law_deep"] []) (mW : mg "_law_walk" = some (.ref fW)) (kW : PySem.W.keepIn K (.ref fW) = true) (bW : Binds K fdW ["_law_tape", "_law_keys", "_law_deep"] []) (j : Nat) :
    FnOk P w K mg base CX0 (j + 4) fT fdT ["_law_tape", "_law_keys", "_law_deep"] (spTm K gT j) ∧ FnOk P w K mg base CX0 (j + 4) fW fdW ["_law_tape", "_law_keys", "_law_deep"] (spTm K gW j) := by
  induction j with
  | zero => exact ⟨tm_zero FT scTt, tm_zero FW scWk⟩
  | succ j ih => exact ⟨ok_test1 FT GP mP kP bP GD mD kD bD GL mL kL bL mT kT bT mW kW bW ih.1 ih.2, ok_walk1 FW GS mS kS bS GD mD kD bD mW kW bW mT kT bT ih.1 ih.2⟩
theorem ok_chs {fD fS fT fW f : Addr} {fdD fdS fdT fdW fd : FuncData} (F : Fun K "_law_chooser" "_law_chooser" sChs f fd) (GS : FnOk P w K mg base CX0 3 fS fdS ["_law_tape", "_law_keys"] (spStep K)) (mS : mg "_law_step" = some (.ref fS)) (kS : PySem.W.keepIn K (.ref fS) = true) (bS : Binds K fdS ["_law_tape", "_law_keys"] [])
    (GD : FnOk P w K mg base CX0 1 fD fdD ["_law_tape", "_law_many"] spDraw) (mD : mg "_law_draw" = some (.ref fD)) (kD : PySem.W.keepIn K (.ref fD) = true) (bD : Binds K fdD ["_law_tape", "_law_many"] [])
    (mF : mg "_law_chooser" = some (.ref f)) (kF : PySem.W.keepIn K (.ref f) = true) (bF : Binds K fd ["_law_tape", "_law_keys", "_law_deep"] []) (mT : mg "_law_test" = some (.ref fT)) (kT : PySem.W.keepIn K (.ref fT) = true) (bT : Binds K fdT ["_law_tape", "_law_keys", "_law_deep"] []) (mW : mg "_law_walk" = some (.ref fW)) (kW : PySem.W.keepIn K (.ref fW) = true) (bW : Binds K fdW ["_law_tape", "_law_keys", "_law_deep"] [])
    (ih : ∀ j, FnOk P w K mg base CX0 (j + 4) fT fdT ["_law_tape", "_law_keys", "_law_deep"] (spTm K gT j) ∧ FnOk P w K mg base CX0 (j + 4) fW fdW ["_law_tape", "_law_keys", "_law_deep"] (spTm K gW j)) (j : Nat) : FnOk P w K mg base CX0 (j + 4) f fd ["_law_tape", "_law_keys", "_law_deep"] (spTm K gW j) := by
  induction j with
  | zero => exact tm_zero F scCh
  | succ j z => exact ok_chs1 F GS mS kS bS GD mD kD bD mF kF bF mT kT bT mW kW bW (ih j).1 (ih j).2 z
theorem ok_fl {f fP fD fL fT fW fC : Addr} {fd fdP fdD fdL fdT fdW fdC : FuncData} (F : Fun K "_law_filter" "_law_filter" sFl f fd) (GP : FnOk P w K mg base CX0 2 fP fdP ["_law_tape", "_law_items"] spPick) (mP : mg "_law_pick" = some (.ref fP)) (kP : PySem.W.keepIn K (.ref fP) = true) (bP : Binds K fdP ["_law_tape", "_law_items"] [])
    (GD : FnOk P w K mg base CX0 1 fD fdD ["_law_tape", "_law_many"] spDraw) (mD : mg "_law_draw" = some (.ref fD)) (kD : PySem.W.keepIn K (.ref fD) = true) (bD : Binds K fdD ["_law_tape", "_law_many"] [])
    (GL : FnOk P w K mg base CX0 3 fL fdL ["_law_tape"] spLeaf) (mL : mg "_law_leaf" = some (.ref fL)) (kL : PySem.W.keepIn K (.ref fL) = true) (bL : Binds K fdL ["_law_tape"] [])
    (GT : FnOk P w K mg base CX0 6 fT fdT ["_law_tape", "_law_keys", "_law_deep"] (spTm K gT 2)) (mT : mg "_law_test" = some (.ref fT)) (kT : PySem.W.keepIn K (.ref fT) = true) (bT : Binds K fdT ["_law_tape", "_law_keys", "_law_deep"] [])
    (GW : FnOk P w K mg base CX0 6 fW fdW ["_law_tape", "_law_keys", "_law_deep"] (spTm K gW 2)) (mW : mg "_law_walk" = some (.ref fW)) (kW : PySem.W.keepIn K (.ref fW) = true) (bW : Binds K fdW ["_law_tape", "_law_keys", "_law_deep"] [])
    (GC : FnOk P w K mg base CX0 6 fC fdC ["_law_tape", "_law_keys", "_law_deep"] (spTm K gW 2)) (mC : mg "_law_chooser" = some (.ref fC)) (kC : PySem.W.keepIn K (.ref fC) = true) (bC : Binds K fdC ["_law_tape", "_law_keys", "_law_deep"] [])
    (mF : mg "_law_filter" = some (.ref f)) (kF : PySem.W.keepIn K (.ref f) = true) (bF : Binds K fd ["_law_tape", "_law_keys", "_law_deep"] []) (j : Nat) : FnOk P w K mg base CX0 (j + 7) f fd ["_law_tape", "_law_keys", "_law_deep"] (spFl K j) := by
  induction j with
  | zero => exact F.ok (k := 6) scFl (fun vs H Q E h => by obtain ⟨d, l, p, n, m, ks, h0, _⟩ := h; exact absurd h0.2 (Nat.not_lt_zero _)) (fun cdv A outer s H vs Q E hr h => by obtain ⟨d, l, p, n, m, ks, h0, _⟩ := h; exact absurd h0.2 (Nat.not_lt_zero _))
  | succ j ih => exact ok_fl1 F GP mP kP bP GD mD kD bD GL mL kL bL GT mT kT bT GW mW kW bW GC mC kC bC mF kF bF ih
end
end Toy


/-! a text times a number -/
namespace L2
open PySem PySem.Spec PyProof.Rows
def repS (x : Str) (n : Nat) : Str := ⟨(List.replicate n x.cps).foldl (· ++ ·) #[]⟩
def rMulS : R2 := fun x y H Q => ∃ (t : Str) (k : Int), x = .str t ∧ y = .int k ∧ 1 < k ∧ k ≤ 1000 ∧ 0 < t.length ∧ t.length ≤ 1000 ∧ (repS t k.toNat).length ≤ sizeLine ∧ Q (.str (repS t k.toNat)) H
section
variable {X : Cx}
theorem op_mulS : OpR X (binaryOp .Mult) rMulS := by
  intro pins s σ H x y v u Q I rx ry h
  obtain ⟨t, k, rfl, rfl, k1, k2, l1, l2, hz, q⟩ := h
  obtain ⟨t1, rfl⟩ := rx
  obtain ⟨t2, rfl⟩ := ry
  have hll : t.length * k.toNat ≤ 1000000 := Nat.le_trans (Nat.mul_le_mul l2 (show k.toNat ≤ 1000 by omega)) (by decide)
  refine PySem.P.mul_str (by rw [decide_eq_false (by omega), decide_eq_false (by omega)]; rfl) (fun _ _ => ?_) (fun _ _ => ?_) ?_
  · have : (2 ^ 63 - 1 : Int) / 1000 ≤ (2 ^ 63 - 1) / k := by
      refine Int.le_ediv_of_mul_le (by omega) ?_
      have h2 : (2 ^ 63 - 1 : Int) / 1000 * k ≤ (2 ^ 63 - 1 : Int) / 1000 * 1000 := Int.mul_le_mul_of_nonneg_left k2 (by decide)
      refine Int.le_trans h2 (by decide)
    have h3 : (1000 : Int) < (2 ^ 63 - 1) / 1000 := by decide
    omega
  · unfold Builtin.Str.tooLong
    refine decide_eq_false ?_
    rw [sizeLine_eq]
    omega
  · rw [if_neg (by omega), if_neg]
    · exact ⟨hz, .str _, H, I.tok _, ⟨_, rfl⟩, q⟩
    · simp only [Bool.or_eq_true, beq_iff_eq, not_or]
      constructor <;> omega
end
end L2


namespace Toy
open PySem PySem.Spec L2 PyProof.Rows PySem.W
abbrev sOdd : Stmt := top 42
/-! ### values as they are displayed -/
def MkE (X : Cx) (z : Addr) (n e : Nat) (ex : Expr) : Prop := ∃ te, PE X ex te ∧ ∀ (σ : L2.St) (H : Hp) (Q : VK), (∃ o, H z = some o) → (∀ v H', Same H H' → Fv X.K z H' 5 n e v → Q v H') → te σ H Q
def MkA (X : Cx) (z : Addr) (n e : Nat) (es : List Expr) : Prop := ∃ ta, PA X es ta ∧ ∀ (σ : L2.St) (H : Hp) (Q : List V → Hp → Prop), (∃ o, H z = some o) → (∀ vs H', Same H H' → vs.length = es.length → (∀ v ∈ vs, Fv X.K z H' 5 n e v) → Q vs H') → ta σ H Q
def IntE (X : Cx) (e : Expr) (i : Int) : Prop := ∃ te, PE X e te ∧ ∀ (σ : L2.St) (H : Hp) (Q : VK), Q (.int i) H → te σ H Q
theorem Fv.same {K : PySem.W.Frag} {d : Addr} {H H' : Hp} {c n e : Nat} {v : V} (h : Fv K d H c n e v) (s : Same H H') : Fv K d H' c n e v := h.but (Same.but s d)
theorem del_new {H : Hp} {p z : Addr} {u : HO} (h : p ≠ z) : delH (upd H p u) z p = some u := by
  rw [delH_ne h, upd_same]
theorem fa_all {K : PySem.W.Frag} {d : Addr} {H : Hp} {c n e : Nat} : ∀ {vs : List V}, (∀ v ∈ vs, Fv K d H c n e v) → Fa K d H c vs.length (vs.length * n) e vs
  | [], _ => by rw [List.length_nil, Nat.zero_mul]; exact fa_nil
  | v :: vs, h => by
    have := fa_cons (h v List.mem_cons_self) (fa_all fun x hx => h x (List.mem_cons_of_mem _ hx))
    rw [List.length_cons, Nat.succ_mul, Nat.add_comm (vs.length * n) n]
    exact this
theorem fv_opq {K : PySem.W.Frag} {d p : Addr} {H : Hp} {c n e : Nat} (h : (∃ us, delH H d p = some (.lst us)) ∨ ∃ m, delH H d p = some (.dK m)) : Fv K d H c n e (.ref p) := by
  refine ⟨.opq, ?_, by simp [nd], by simp [dep], by simp [okd]⟩
  rcases h with ⟨us, h⟩ | ⟨m, h⟩
  · exact .lst h
  · exact .dct h
section
variable {X : Cx} {z : Addr} {n e : Nat} {pos : Pos} {ex : Expr} {es : List Expr}
theorem ie_const {i : Int} {k : Nat} : IntE X (.Constant (.int i) k pos) i := ⟨_, pe_int, fun _ _ _ q => q⟩
theorem ie_neg {i : Int} (h : IntE X ex i) : IntE X (.UnaryOp .USub ex pos) (-i) := by
  obtain ⟨t, p, k⟩ := h
  exact ⟨_, pe_un un_neg p, fun σ H Q q => k σ H _ ⟨i, rfl, q⟩⟩
theorem ie_pow {e2 : Expr} {i j : Int} (h : IntE X ex i) (h2 : IntE X e2 j) (c : 0 ≤ j ∧ j ≤ 1000000 ∧ i.natAbs < 2 ^ 64) : IntE X (.BinOp ex .Pow e2 pos) (i ^ j.toNat) := by
  obtain ⟨t, p, k⟩ := h
  obtain ⟨t2, p2, k2⟩ := h2
  exact ⟨_, pe_op op_pow p p2, fun σ H Q q => k σ H _ (k2 σ H _ ⟨i, j, rfl, rfl, c, q⟩)⟩
theorem mk_I {i : Int} (h : IntE X ex i) : MkE X z n e ex := by
  obtain ⟨t, p, k⟩ := h
  exact ⟨_, p, fun σ H Q _ q => k σ H Q (q _ H same_id ((fv_int (e := e) H i).mono (Nat.zero_le _) (Nat.le_refl _)))⟩
theorem mk_int {i : Int} {k : Nat} : MkE X z n e (.Constant (.int i) k pos) := mk_I ie_const
theorem mk_neg {i : Int} {k : Nat} {p : Pos} : MkE X z n e (.UnaryOp .USub (.Constant (.int i) k p) pos) := mk_I (ie_neg ie_const)
theorem mk_pow {i j : Int} {k k' : Nat} {p p' : Pos} (h : 0 ≤ j ∧ j ≤ 1000000 ∧ i.natAbs < 2 ^ 64) : MkE X z n e (.BinOp (.Constant (.int i) k p) .Pow (.Constant (.int j) k' p') pos) := mk_I (ie_pow ie_const ie_const h)
theorem mk_str {x : Str} {k : Nat} (ok : okK x = true) : MkE X z n e (.Constant (.str x) k pos) := ⟨_, pe_str, fun _ H _ _ q => q _ H same_id ((fv_str (e := e) H ok).mono (Nat.zero_le _) (Nat.le_refl _))⟩
theorem mk_bl {b : Bool} {k : Nat} : MkE X z n e (.Constant (.bool b) k pos) := ⟨_, pe_bl, fun _ H _ _ q => q _ H same_id ((fv_bl (e := e) H b).mono (Nat.zero_le _) (Nat.le_refl _))⟩
theorem mk_non {k : Nat} : MkE X z n e (.Constant .none k pos) := ⟨_, pe_non, fun _ H _ _ q => q _ H same_id ((fv_non (e := e) H).mono (Nat.zero_le _) (Nat.le_refl _))⟩
theorem mk_nil : MkA X z n e [] := ⟨_, pa_nil, fun _ H _ _ q => q [] H same_id rfl (fun _ h => by simp at h)⟩
theorem mk_cons (a : MkE X z n e ex) (r : MkA X z n e es) (he : starEach (ex :: es) X.env = (false, eval ex X.env) :: starEach es X.env := by rfl) : MkA X z n e (ex :: es) := by
  obtain ⟨te, p1, m1⟩ := a
  obtain ⟨ta, p2, m2⟩ := r
  refine ⟨_, pa_cons p1 p2 he, fun σ H Q hz q => ?_⟩
  refine m1 σ H _ hz fun v H1 s1 d1 => ?_
  obtain ⟨o, ho⟩ := hz
  exact m2 σ H1 _ ⟨o, s1 _ _ ho⟩ fun vs H2 s2 l2 d2 => q (v :: vs) H2 (fun b u h => s2 _ _ (s1 _ _ h)) (by rw [List.length_cons, List.length_cons, l2]) fun x hx => by
    rcases List.mem_cons.mp hx with rfl | hx
    · exact d1.same s2
    · exact d2 x hx
theorem mk_tup {x1 n' e' : Nat} (a : MkA X z n' e' es) (h : es.length ≤ 5 ∧ es.length * n' + 1 ≤ n ∧ e' + 1 ≤ e) : MkE X z n e (.Tuple es x1 pos) := by
  obtain ⟨ta, p1, m1⟩ := a
  refine ⟨_, pe_tup p1, fun σ H Q hz q => m1 σ H _ hz fun vs H1 s1 l1 d1 => ⟨few (by omega), fun p np => ?_⟩⟩
  obtain ⟨o, ho⟩ := hz
  have := mkF (c := 5) ⟨o, s1 _ _ ho⟩ np (fa_all d1) (by omega)
  rw [l1] at this
  exact q _ _ (same_new s1 np) (this.mono h.2.1 h.2.2)
theorem mk_lst {n' e' : Nat} (a : MkA X z n' e' es) (h : es.length ≤ 100) : MkE X z n e (.List es pos) := by
  obtain ⟨ta, p1, m1⟩ := a
  refine ⟨_, pe_lst p1, fun σ H Q hz q => m1 σ H _ hz fun vs H1 s1 l1 d1 => ⟨few (by omega), fun p np => ?_⟩⟩
  obtain ⟨o, ho⟩ := hz
  have npz : p ≠ z := (ne_of_none (s1 _ _ ho) np).symm
  exact q _ _ (same_new s1 np) (fv_opq (.inl ⟨vs, del_new npz⟩))
theorem mk_d0 : MkE X z n e (.Dict [] [] pos) := by
  refine ⟨_, pe_dnewK, fun σ H Q hz q p np => ?_⟩
  obtain ⟨o, ho⟩ := hz
  exact q _ _ (same_new same_id np) (fv_opq (.inr ⟨[], del_new (ne_of_none ho np).symm⟩))
theorem mk_d1 {e2 : Expr} {k0 n' e' : Nat} {kp : Pos} {k : Str} (h2 : MkE X z n' e' e2) : MkE X z n e (.Dict [some (.Constant (.str k) k0 kp)] [e2] pos) := by
  obtain ⟨te, p2, m2⟩ := h2
  refine ⟨_, pe_disp (pps_cons pe_str p2 pps_nil) (by rfl) (by rfl) (fun z => by cases z) (by show 1 ≤ 15; decide), fun σ H Q hz q p np => ?_⟩
  obtain ⟨o, ho⟩ := hz
  have s1 : Same H (upd H p (.dK [])) := same_new same_id np
  refine m2 σ _ _ ⟨o, s1 _ _ ho⟩ fun v H2 s2 d2 => ⟨s2 _ _ upd_same, [(Sum.inr k, v)], rfl, (by show 1 ≤ 15; decide), ?_⟩
  have npz : p ≠ z := (ne_of_none ho np).symm
  refine q _ _ (fun b u h => ?_) (fv_opq (.inr ⟨_, del_new npz⟩))
  rw [upd_ne (ne_of_none h np)]
  exact s2 _ _ (s1 _ _ h)
theorem mk_d1i {e2 : Expr} {k0 n' e' : Nat} {kp : Pos} {i : Int} (h2 : MkE X z n' e' e2) : MkE X z n e (.Dict [some (.Constant (.int i) k0 kp)] [e2] pos) := by
  obtain ⟨te, p2, m2⟩ := h2
  refine ⟨_, pe_disp (pps_cons pe_int p2 pps_nil) (by rfl) (by rfl) (fun z => by cases z) (by show 1 ≤ 15; decide), fun σ H Q hz q p np => ?_⟩
  obtain ⟨o, ho⟩ := hz
  have s1 : Same H (upd H p (.dK [])) := same_new same_id np
  refine m2 σ _ _ ⟨o, s1 _ _ ho⟩ fun v H2 s2 d2 => ⟨s2 _ _ upd_same, [(Sum.inl i, v)], rfl, (by show 1 ≤ 15; decide), ?_⟩
  have npz : p ≠ z := (ne_of_none ho np).symm
  refine q _ _ (fun b u h => ?_) (fv_opq (.inr ⟨_, del_new npz⟩))
  rw [upd_ne (ne_of_none h np)]
  exact s2 _ _ (s1 _ _ h)
theorem mk_dr {d l : Addr} {J : Hp → Prop} {σ : L2.St} {ta : TA} (k : ∀ (σ : L2.St) (H : Hp) (Q : List V → Hp → Prop), (∃ o, H d = some o) → (∀ vs H', Same H H' → vs.length = es.length → (∀ v ∈ vs, Fv X.K d H' 5 n e v) → Q vs H') → ta σ H Q) : DrA d l J ta σ 0 (AllR es.length (fun H v => Fv X.K d H 5 n e v)) :=
  fun H N Q j t b q => k σ H Q t.at.1 fun vs H' s hl hv => q H' vs (Same.but s d) (t.same s) ⟨hl, hv⟩
end
/-- the items of the list that a statement sets, adds, or hands on as the last thing -/
def elts : Stmt → List Expr
  | .Assign _ (.List es _) _ => es
  | .Assign _ (.BinOp _ _ (.List es _) _) _ => es
  | .Return (some (.Call _ [_, .BinOp _ _ (.List es _) _] _ _)) _ => es
  | _ => []
section
variable {X : Cx} {z : Addr}
theorem oa1 : MkA X z 3 2 (elts (partOf sOdd 0)) :=
  mk_cons mk_non (mk_cons mk_bl (mk_cons mk_bl (mk_cons mk_int (mk_cons mk_int (mk_cons mk_neg (mk_cons mk_int (mk_cons (mk_pow ⟨by decide, by decide, by decide⟩)
    (mk_cons (mk_str (by decide +kernel)) (mk_cons (mk_str (by decide +kernel)) (mk_cons (mk_str (by decide +kernel)) (mk_cons (mk_str (by decide +kernel)) (mk_cons (mk_str (by decide +kernel)) (mk_cons (mk_tup (n' := 0) (e' := 0) mk_nil (by decide)) (mk_cons (mk_lst (n' := 0) (e' := 0) mk_nil (by decide)) (mk_cons mk_d0
    (mk_cons (mk_tup (n' := 0) (e' := 0) (mk_cons (mk_str (by decide +kernel)) mk_nil) (by decide)) (mk_cons (mk_lst (n' := 0) (e' := 0) (mk_cons (mk_str (by decide +kernel)) mk_nil) (by decide)) (mk_cons (mk_tup (n' := 0) (e' := 0) (mk_cons mk_int mk_nil) (by decide)) mk_nil))))))))))))))))))
theorem oa2 : MkA X z 3 2 (elts (partOf sOdd 1)) :=
  mk_cons (mk_tup (n' := 0) (e' := 0) (mk_cons (mk_str (by decide +kernel)) mk_nil) (by decide)) (mk_cons (mk_lst (n' := 0) (e' := 0) (mk_cons (mk_str (by decide +kernel)) mk_nil) (by decide)) (mk_cons (mk_tup (n' := 0) (e' := 0) (mk_cons (mk_str (by decide +kernel)) (mk_cons (mk_str (by decide +kernel)) mk_nil)) (by decide))
    (mk_cons (mk_tup (n' := 0) (e' := 0) (mk_cons (mk_str (by decide +kernel)) (mk_cons mk_int mk_nil)) (by decide)) (mk_cons (mk_tup (n' := 0) (e' := 0) (mk_cons (mk_str (by decide +kernel)) (mk_cons mk_bl mk_nil)) (by decide)) (mk_cons (mk_tup (n' := 0) (e' := 0) (mk_cons (mk_str (by decide +kernel)) (mk_cons mk_int mk_nil)) (by decide))
    (mk_cons (mk_d1 (n' := 0) (e' := 0) mk_int) (mk_cons (mk_d1i (n' := 0) (e' := 0) (mk_str (by decide +kernel))) mk_nil)))))))
theorem oa3 : MkA X z 3 2 (elts (partOf sOdd 2)) :=
  mk_cons (mk_tup (n' := 0) (e' := 0) (mk_cons (mk_str (by decide +kernel)) (mk_cons (mk_str (by decide +kernel)) mk_nil)) (by decide)) (mk_cons (mk_tup (n' := 0) (e' := 0) (mk_cons (mk_str (by decide +kernel)) (mk_cons (mk_str (by decide +kernel)) mk_nil)) (by decide)) (mk_cons (mk_tup (n' := 1) (e' := 1) (mk_cons (mk_str (by decide +kernel)) (mk_cons (mk_tup (n' := 0) (e' := 0) mk_nil (by decide)) mk_nil)) (by decide))
    (mk_cons (mk_tup (n' := 0) (e' := 0) (mk_cons (mk_str (by decide +kernel)) (mk_cons mk_int mk_nil)) (by decide)) (mk_cons (mk_tup (n' := 1) (e' := 1) (mk_cons (mk_tup (n' := 0) (e' := 0) mk_nil (by decide)) mk_nil) (by decide)) (mk_cons (mk_lst (n' := 1) (e' := 1) (mk_cons (mk_tup (n' := 0) (e' := 0) mk_nil (by decide)) mk_nil) (by decide))
    (mk_cons (mk_lst (n' := 0) (e' := 0) (mk_cons (mk_lst (n' := 0) (e' := 0) mk_nil (by decide)) mk_nil) (by decide)) (mk_cons (mk_tup (n' := 0) (e' := 0) (mk_cons mk_non mk_nil) (by decide)) (mk_cons (mk_tup (n' := 0) (e' := 0) (mk_cons (mk_str (by decide +kernel)) mk_nil) (by decide)) mk_nil))))))))
theorem oa4 : MkA X z 3 2 (elts (partOf sOdd 3)) :=
  mk_cons mk_int (mk_cons mk_neg (mk_cons mk_int (mk_cons mk_int (mk_cons (mk_str (by decide +kernel)) (mk_cons (mk_str (by decide +kernel)) (mk_cons (mk_tup (n' := 0) (e' := 0) (mk_cons (mk_str (by decide +kernel)) (mk_cons mk_non mk_nil)) (by decide)) (mk_cons (mk_tup (n' := 0) (e' := 0) (mk_cons mk_bl mk_nil) (by decide))
    (mk_cons (mk_tup (n' := 0) (e' := 0) (mk_cons mk_int (mk_cons mk_int mk_nil)) (by decide)) (mk_cons (mk_tup (n' := 0) (e' := 0) (mk_cons (mk_str (by decide +kernel)) (mk_cons mk_int mk_nil)) (by decide)) mk_nil)))))))))
end
def spOdd (K : PySem.W.Frag) : Sp := fun vs H Q _ => ∃ (d l : Addr) (n : Nat), vs = [.ref d] ∧ Tape H d l n ∧ n + 1 ≤ 900000 ∧ ∀ H' v, But d H H' → Tape H' d l (n + 1) → Fv K d H' 5 3 2 v → Q v H'
def JL (K : PySem.W.Frag) (d L : Addr) (vs : List V) (n e : Nat) : Hp → Prop := fun H => H L = some (.lst vs) ∧ ∀ v ∈ vs, Fv K d H 5 n e v
theorem stb_l {K : PySem.W.Frag} {d L : Addr} {vs : List V} {n e : Nat} (h : L ≠ d) : Stb d (JL K d L vs n e) := fun H H' b z => ⟨b _ _ h z.1, fun v hv => (z.2 v hv).but b⟩
section
variable {P : Program} {w : World} {K : PySem.W.Frag} {mg : Str → Option Value} {base : Heap}
theorem scO : FnScope ["_law_tape", "_law_some_here"] ["_law_tape"] (defScope sOdd) := ⟨rfl, rfl, rfl, by decide +kernel, rfl, by decide +kernel, by decide +kernel⟩
theorem ok_odd {f fP : Addr} {fd fdP : FuncData} (F : Fun K "_law_odd" "_law_odd" sOdd f fd) (GP : FnOk P w K mg base CX0 2 fP fdP ["_law_tape", "_law_items"] spPick) (mP : mg "_law_pick" = some (.ref fP)) (kP : PySem.W.keepIn K (.ref fP) = true) (bP : Binds K fdP ["_law_tape", "_law_items"] []) : FnOk P w K mg base CX0 3 f fd ["_law_tape"] (spOdd K) := by
  refine F.ok scO (fun vs H Q E h => ?_) (fun cdv A outer s H vs Q E hr h => ?_)
  · obtain ⟨d, l, n, rfl, _⟩ := h
    rfl
  · obtain ⟨d, l, n, rfl, hT, hn, q⟩ := h
    obtain ⟨t1, p1, k1⟩ := oa1 (X := (cxOf CX0 P w K mg base ["_law_tape", "_law_some_here"] "_law_odd" (defScope sOdd) f cdv A outer s H E).nox) (z := d)
    obtain ⟨t2, p2, k2⟩ := oa2 (X := (cxOf CX0 P w K mg base ["_law_tape", "_law_some_here"] "_law_odd" (defScope sOdd) f cdv A outer s H E).nox) (z := d)
    obtain ⟨t3, p3, k3⟩ := oa3 (X := (cxOf CX0 P w K mg base ["_law_tape", "_law_some_here"] "_law_odd" (defScope sOdd) f cdv A outer s H E).nox) (z := d)
    obtain ⟨t4, p4, k4⟩ := oa4 (X := (cxOf CX0 P w K mg base ["_law_tape", "_law_some_here"] "_law_odd" (defScope sOdd) f cdv A outer s H E).nox) (z := d)
    refine ⟨_, pss_cons (ps_set (i := 1) scO.nd rfl (Or.inl rfl) (pe_lst p1)) (pss_cons (ps_set (i := 1) scO.nd rfl (Or.inl rfl) (pe_op op_cat (pv 1) (pe_lst p2))) (pss_cons (ps_set (i := 1) scO.nd rfl (Or.inl rfl) (pe_op op_cat (pv 1) (pe_lst p3)))
      (pss_one (ps_ret (pe_call GP hr rfl mP kP bP .nil pass0 (pa_cons (pv 0) (pa_cons (pe_op op_cat (pv 1) (pe_lst p4)) pa_nil))))))), ?_⟩
    have l1 : (elts (partOf sOdd 0)).length = 19 := rfl
    have l2 : (elts (partOf sOdd 1)).length = 8 := rfl
    have l3 : (elts (partOf sOdd 2)).length = 9 := rfl
    have l4 : (elts (partOf sOdd 3)).length = 10 := rfl
    refine asg_run (lst_run (l := l) (J := fun _ => True) fv_st (mk_dr k1) (by omega) trivial hT (by omega) fun H1 L vs b1 t1' nL hL r1 => ?_)
    have g1 := r1.1
    refine asg_run (cat_run (J := JL K d L vs 3 2) (stb_l nL) rfl (fun _ z => z) fv_st (mk_dr k2) (by omega) ⟨hL, r1.2⟩ t1' (by omega) fun H2 L2 ys b2 t2' nL2 hL2 r2 => ?_)
    have g2 := r2.1
    refine asg_run (cat_run (J := JL K d L2 ys 3 2) (stb_l nL2) rfl (fun _ z => z) fv_st (mk_dr k3) (by omega) ⟨hL2, r2.2⟩ t2' (by omega) fun H3 L3 zs b3 t3' nL3 hL3 r3 => ?_)
    have g3 := r3.1
    exact ret_run (dr_pick2 (J := JL K d L3 zs 3 2) (R := fun H v => Fv K d H 5 3 2 v) (stb_l nL3) rfl rfl (fun _ z => z) fv_st (mk_dr k4) ⟨by omega, by omega⟩ H3 _ _ ⟨hL3, r3.2⟩ t3' (by omega) fun H4 v b4 t4' r4 => q H4 v ((b1.trans b2).trans (b3.trans b4)) (t4'.more (by omega)) r4)
end
end Toy


/-! a tuple backwards -/
namespace L2
open PySem PySem.Spec PyProof.Rows HT
section
variable {prog : Program} {w : World} {A : Around} {E : Value → Shared → Prop} {s : Shared}
theorem adjust_rev (n : Nat) : Builtin.Slice.sliceAdjust none none (-1) (n : Int) = ((n : Int) - 1, -1) := by
  unfold Builtin.Slice.sliceAdjust
  simp
theorem places_rev (n : Nat) : Builtin.Slice.slicePlaces ((n : Int) - 1) (-1) (-1) = n := by
  unfold Builtin.Slice.slicePlaces
  have h1 : ¬ ((-1 : Int) > 0) := by omega
  simp only [h1, if_false]
  by_cases h : (n : Int) - 1 > -1
  · rw [if_pos h]
    have : (n : Int) - 1 - -1 - 1 = (n : Int) - 1 := by omega
    rw [this, show -(-1 : Int) = 1 by decide, Int.ediv_one]
    omega
  · rw [if_neg h]
    omega
theorem sliceApplied_rev {sl : Addr} {u : Tok} {n : Nat} {Q : Int × Int × Nat → Shared → Prop} (hs : s.heap.IsSliceOf sl .none .none (.int (-1) u))
    (h : Q ((n : Int) - 1, -1, n) s) : wpAny (model prog w) A (Builtin.Slice.sliceApplied (.ref sl) (pure (n : Int))) Q E s := by
  obtain ⟨os, hos, hcs, hds⟩ := id hs
  unfold Builtin.Slice.sliceApplied Builtin.Slice.sliceFields
  refine wpAny_bind (wpAny_bind (wpAny_field hos hds (x := .none) rfl (wpAny_bind (wpAny_field hos hds (x := .none) rfl (wpAny_bind (wpAny_field hos hds (x := .int (-1) u) rfl (wpAny_pure ?_)))))))
  refine wpAny_bind (slicePart_int ?_)
  show wpAny _ _ (if ((-1 : Int) == 0) = true then _ else _) _ _ s
  rw [if_neg (by decide)]
  refine wpAny_bind (slicePart_none (wpAny_bind (slicePart_none (wpAny_bind (wpAny_pure ?_)))))
  show wpAny _ _ (match Builtin.Slice.sliceAdjust none none (-1) (n : Int) with | (lo, hi) => pure (lo, (-1 : Int), Builtin.Slice.slicePlaces lo hi (-1))) _ _ s
  rw [adjust_rev]
  show wpAny _ _ (pure (((n : Int) - 1), (-1 : Int), Builtin.Slice.slicePlaces ((n : Int) - 1) (-1) (-1))) _ _ s
  rw [places_rev]
  exact wpAny_pure h
theorem fm_congr {α β : Type} {f g : α → Option β} : ∀ {l : List α}, (∀ x ∈ l, f x = g x) → l.filterMap f = l.filterMap g
  | [], _ => rfl
  | a :: l, h => by
    rw [List.filterMap_cons, List.filterMap_cons, h a List.mem_cons_self, fm_congr fun x hx => h x (List.mem_cons_of_mem _ hx)]
theorem pick_rev (xs : Array Value) : ((List.range xs.size).filterMap fun (m : Nat) => xs[((xs.size : Int) - 1 + (m : Int) * -1).toNat]?).toArray = xs.toList.reverse.toArray := by
  congr 1
  have e : (List.range xs.size).filterMap (fun (m : Nat) => xs[((xs.size : Int) - 1 + (m : Int) * -1).toNat]?) = (List.range xs.size).filterMap (fun m => xs.toList.reverse[m]?) := by
    refine fm_congr fun m hm => ?_
    rw [List.mem_range] at hm
    rw [List.getElem?_reverse (by simpa using hm)]
    have : ((xs.size : Int) - 1 + (m : Int) * -1).toNat = xs.toList.length - 1 - m := by
      rw [Array.length_toList]
      omega
    rw [this, Array.getElem?_toList]
  rw [e]
  have z : ∀ l : List Value, (List.range l.length).filterMap (fun m => l[m]?) = l := by
    intro l
    have := List.filterMap_map (f := fun m => l[m]?) (g := id) (l := List.range l.length)
    refine List.ext_getElem? fun i => ?_
    have h2 : (List.range l.length).filterMap (fun m => l[m]?) = (List.range l.length).filterMap (fun m => some (l.getD m .none)) := by
      refine fm_congr fun m hm => ?_
      rw [List.mem_range] at hm
      simp [hm]
    rw [h2, List.filterMap_eq_map']
    rw [List.getElem?_map]
    by_cases hi : i < l.length
    · rw [List.getElem?_range hi]
      simp [hi]
    · rw [List.getElem?_eq_none (by simpa using hi), List.getElem?_eq_none (by omega)]
      rfl
  have := z xs.toList.reverse
  rw [List.length_reverse, Array.length_toList] at this
  exact this
theorem getItem_tuple_rev {t sl : Addr} {items : Array Value} {u : Tok} {Q : Value → Shared → Prop} (ht : IsTup s.heap t items) (hs : s.heap.IsSliceOf sl .none .none (.int (-1) u))
    (h : Q (.ref s.heap.objs.size) { s with heap := s.heap.push { cls := .type "tuple", data := .seq items.toList.reverse.toArray } })
    (hsz : items.size ≤ sizeLine) : wpAny (model prog w) A (getItem (.ref t) (.ref sl)) Q E s := by
  have htake : sizeOk (.seq items.toList.reverse.toArray) := by
    show items.toList.reverse.toArray.size ≤ sizeLine
    rw [List.size_toArray, List.length_reverse, Array.length_toList]
    exact hsz
  obtain ⟨os, hos, hcs, hds⟩ := id hs
  have hTs : s.TypeIs (.ref sl) "slice" := ⟨os, hos, hcs⟩
  unfold getItem
  try with_reducible refine wpAny_holding ?_
  first | refine wpAny_bind (wpAny_pure ?_) | skip
  refine wpAny_bind (wpAny_sequenceKey ht.typeIs (by decide) ?_)
  refine wpAny_bind (wpAny_callSpecial?_slot (name := Str.ofString "__getitem__") ht.typeIs PyProof.Rows.slot_tuple_getitem
    (wpAny_call_entry PyProof.Rows.slot_tuple_getitem ht.typeIs entry_tuple_getitem ?_ (args_tuple_getitem _ _)))
  show wpAny _ _ (Builtin.Tuple.tupleItemsOf (.ref t) >>= _) _ _ s
  refine wpAny_bind (tupleItemsOf_ ht ?_)
  refine wpAny_bind (wpAny_typeOf hTs ?_)
  rw [if_pos (by decide)]
  refine wpAny_bind (sliceApplied_rev hs ?_)
  have hno : ¬ ((((items.size : Int) - 1) == 0 && (-1 : Int) == 1 && items.size == items.size) = true) := by
    intro q
    rw [Bool.and_eq_true, Bool.and_eq_true] at q
    exact absurd (eq_of_beq q.1.2) (by decide)
  show wpAny _ _ (if (((items.size : Int) - 1) == 0 && (-1 : Int) == 1 && items.size == items.size) = true then _ else _) _ _ s
  rw [if_neg hno, pick_rev]
  first
    | exact wpAny_bind (m := Builtin.Tuple.tupleExact _) (wpAny_newObj_type (wpAny_pure ⟨_, rfl, wpAny_pure h⟩) htake)
    | exact wpAny_bind (m := Builtin.Tuple.tupleExact _) (wpAny_newObj_type (wpAny_bind (wpAny_pure (wpAny_pure ⟨_, rfl, wpAny_pure h⟩))) htake)
    | exact wpAny_bind (wpAny_bind (m := Builtin.Tuple.tupleExact _) (wpAny_newObj_type (wpAny_pure (wpAny_pure ⟨_, rfl, wpAny_pure h⟩)) htake))
    | exact wpAny_bind (wpAny_bind (m := Builtin.Tuple.tupleExact _) (wpAny_newObj_type (wpAny_pure ⟨_, rfl, wpAny_pure h⟩) htake))
end
section
variable {X : Cx}
def tRevT (K : PySem.W.Frag) (te : TE) : TE := fun σ H Q => te σ H fun x H1 => ∃ a xs, x = .ref a ∧ SqT K H1 a xs ∧ ∀ p, H1 p = none → Q (.ref p) (upd H1 p (.tup xs.reverse))
theorem pe_revT {e : Expr} {te : TE} {k : Nat} {p1 p2 p3 pos : Pos} (he : PE X e te) : PE X (.Subscript e (.Slice none none (some (.UnaryOp .USub (.Constant (.int 1) k p1) p2)) p3) pos) (tRevT X.K te) := by
  refine ⟨fun pins s σ H Q I h => ?_⟩
  refine Subscript_ (thn (he.run pins s σ H _ I h) fun v s1 ⟨x, H1, I1, r1, q1⟩ => ?_)
  obtain ⟨a, xs, ex, hx, q⟩ := q1
  subst ex
  cases r1
  have hst : PO X (some (.UnaryOp .USub (.Constant (.int 1) k p1) p2)) (tPart (tUn (rU fun i => .int (-i)) (tC (.int 1)))) := po_some (pe_un un_neg pe_int)
  refine wpAny_Slice (thn (po_none.run pins s1 σ H1 (fun o H2 => o = none ∧ H2 = H1) I1 ⟨rfl, rfl⟩) fun vl s2 ⟨l, H2, I2, pl, el, e2⟩ => ?_)
  subst el e2
  refine thn (po_none.run pins s2 σ H2 (fun o H3 => o = none ∧ H3 = H2) I2 ⟨rfl, rfl⟩) fun vu s3 ⟨u, H3, I3, pu, eu, e3⟩ => ?_
  subst eu e3
  refine thn (hst.run pins s3 σ H3 (fun o H4 => o = some (-1) ∧ H4 = H3) I3 ⟨1, rfl, -1, rfl, rfl, rfl⟩) fun vs s4 ⟨o, H4, I4, ps, eo, e4⟩ => ?_
  subst eo e4
  have I5 : Inv X pins σ H4 { s4 with heap := s4.heap.push { cls := .type "slice", data := .fields #[vl, vu, vs] } } := I4.kept (t' := s4.toks) fun b ob q => Heap.get?_push_of_some _ q
  obtain ⟨its, r, ht, hz⟩ := I5.tuple hx
  have hlen := r.length
  cases pl
  cases pu
  cases ps
  show wpAny (model X.prog X.w) X.A (subscriptTail e (.Slice none none (some (.UnaryOp .USub (.Constant (.int 1) k p1) p2)) p3) (.ref a) (.ref s4.heap.objs.size)) (EP X pins σ Q) X.xe _
  refine tail_any (ops := [.ref a, .ref s4.heap.objs.size]) ht.typeIs (PyProof.Rows.slot_tuple_getitem.lookup) ?_ (by with_unfolding_all rfl)
  refine getItem_tuple_rev ht (Heap.IsSliceOf.new _ _ _ _) ?_ (by rw [List.size_toArray]; omega)
  refine ⟨.ref _, _, I5.laid (t' := s4.toks) (o := .tup xs.reverse) (fun b ob q => Heap.get?_push_of_some _ q) (Nat.le_refl _) ?_, rfl, q _ (I5.hok.fresh (Nat.le_refl _))⟩
  exact ⟨by rw [List.length_reverse]; exact hz, _, r.reverse, IsTup.new _ _⟩
end
end L2


/-! a text beside a dict; a tuple beside the empty one -/
namespace PySem.SeqAt
open AutoSeq1 (wpAny_loadPart')
open MeetsSeq
theorem str_eq_declines_dict (b : Str) (u : Tok) (l : Addr) (c : Value) (items : Array DictEntry) (n : Nat) (dd : Option Addr) (sl : Array (Option Value)) :
    Meets (Builtin.«str.__eq__» ⟨[.str b u, .ref l], []⟩) (fun _ R s => s.heap.get? l = some { cls := c, dict := dd, data := .dict items n, slots := sl } ∧ R (.ok (.ret .notImplemented)) s) :=
  .of_wp fun prog w A R s h => by obtain ⟨hp, g, d, tk, os⟩ := s; obtain ⟨hl, h⟩ := h; wp_walk using wpAny_loadPart' hl, wpAny_load hl; exact ⟨_, rfl, h⟩
theorem dict_eq_declines_str (l : Addr) (items : Array DictEntry) (n : Nat) (dd : Option Addr) (sl : Array (Option Value)) (b : Str) (u : Tok) :
    Meets (Builtin.«dict.__eq__» ⟨[.ref l, .str b u], []⟩) (fun _ R s => s.heap.get? l = some { cls := .type "dict", dict := dd, data := .dict items n, slots := sl } ∧ R (.ok (.ret .notImplemented)) s) :=
  .of_wp fun prog w A R s h => by obtain ⟨hp, g, d, tk, os⟩ := s; obtain ⟨hl, h⟩ := h; have f1 := F.sub_str_dict; wp_walk using wpAny_loadPart' hl, wpAny_load hl; exact ⟨_, rfl, h⟩
section
variable {A : Around} {s : Shared}
theorem RcAt.str_dict {l : Addr} {items : Array DictEntry} {n : Nat} {dd : Option Addr} {sl : Array (Option Value)} (b : Str) (u : Tok) (ho : s.heap.get? l = some { cls := .type "dict", dict := dd, data := .dict items n, slots := sl }) (hu : A.units < cLine) : RcAt A s (.str b u) (.ref l) false := fun prog w E Q h => by
  exact rc_eq_decline_or (k := false) (typeIs_str s b u) ⟨_, ho, rfl⟩ (by decide) F.sub_dict_str F.slot_str_eq F.slot_dict_eq_refl
    (fun _ hq => call_meets F.slot_str_eq (typeIs_str s b u) F.entry_str_eq (F.args_str_eq_2 _ _) (str_eq_declines_dict b u l (.type "dict") items n dd sl) ⟨ho, hq⟩)
    (fun _ hq => call_meets F.slot_dict_eq_refl ⟨_, ho, rfl⟩ F.entry_dict_eq (F.args_dict_eq_2 _ _) (dict_eq_declines_str l items n dd sl b u) ⟨ho, hq⟩)
    (fun _ hq => wpAny_of_eq (rfl : isSame (.str b u) (.ref l) = pure false) hq) (.inr hu) h
theorem EqAt.str_dict {l : Addr} {items : Array DictEntry} {n : Nat} {dd : Option Addr} {sl : Array (Option Value)} (b : Str) (u : Tok) (ho : s.heap.get? l = some { cls := .type "dict", dict := dd, data := .dict items n, slots := sl }) (hu : A.units < cLine) : EqAt A s (.str b u) (.ref l) false := fun prog w E Q h => by
  unfold eqBool
  refine wpAny_holding ?_
  refine wpAny_ite_split (fun hab => absurd (eq_of_beq hab) nofun) (fun _ => ?_)
  exact wpAny_bind (RcAt.str_dict b u ho hu prog w E _ (wpAny_truthy_bool h))
end
theorem tuple_ne0 (l b : Addr) (items : Array Value) (n n2 : Nat) (dd dd2 : Option Addr) (sl sl2 : Array (Option Value)) :
    Meets (Builtin.«tuple.__ne__» ⟨[.ref l, .ref b], []⟩)
      (fun A R s => s.heap.get? l = some { cls := .type "tuple", dict := dd, data := .seq items n, slots := sl } ∧ s.heap.get? b = some { cls := .type "tuple", dict := dd2, data := .seq #[] n2, slots := sl2 } ∧
        R (.ok (.ret (.bool (items.size != 0)))) s) :=
  .of_wp fun prog w A R s h => by
    obtain ⟨hp, g, d, tk, os⟩ := s; obtain ⟨hl, hb, h⟩ := h
    have f2 := AutoSeq1.sub_tuple_tuple
    have hZ : (items.toList.zip (#[] : Array Value).toList) = [] := by simp
    wp_walk using wpAny_loadPart' hl, wpAny_loadPart' hb, wpAny_forIn_list _ (fun rest b s' => b.1 = none ∧ s' = ⟨hp, g, d, tk, os⟩ ∧ rest = []) _
    case turn =>
      rintro ⟨y, x⟩ rest b s' ⟨hb', rfl, hz⟩
      cases hz
    case fin =>
      rintro ⟨b1, b2⟩ s' ⟨hb', rfl, hz⟩
      simp only at hb'
      subst hb'
      wp_walk
      exact ⟨_, rfl, by simpa [Builtin.Tuple.tupleCompareSizes] using h⟩
    case h =>
      exact ⟨rfl, rfl, hZ⟩
theorem RcNe.tuple0 {A : Around} {s : Shared} {prog : Program} {w : World} {E : Value → Shared → Prop} {l b : Addr} {items : Array Value} {Q : Value → Shared → Prop} (hl : s.heap.IsTuple l items) (hb : s.heap.IsTuple b #[]) (hu : A.units < cLine)
    (h : Q (.bool (items.size != 0)) s) : wpAny (model prog w) A (compareOp .NotEq (.ref l) (.ref b)) Q E s := by
  obtain ⟨⟨cls, dd, data, sl⟩, ho, hc, n, hd⟩ := id hl
  obtain ⟨⟨cls2, dd2, data2, sl2⟩, ho2, hc2, n2, hd2⟩ := id hb
  simp only at hc hd hc2 hd2
  subst hc hd hc2 hd2
  exact richCompare_meets_room (op := .NotEq) ⟨_, ho, rfl⟩ ⟨_, ho2, rfl⟩ F.slot_tuple_ne F.entry_tuple_ne (F.args_tuple_ne_2 _ _) (tuple_ne0 l b items n n2 dd dd2 sl sl2)
    ⟨ho, ho2, show Value.bool (items.size != 0) ≠ Value.notImplemented ∧ Q (.bool (items.size != 0)) s from ⟨(fun x => nomatch x), h⟩⟩ hu
end PySem.SeqAt
namespace L2
open PySem PySem.Spec PyProof.Rows
section
variable {X : Cx}
def rNe0 (K : PySem.W.Frag) : R2 := fun x y H Q => ∃ (a b : Addr) (xs : List V), x = .ref a ∧ y = .ref b ∧ SqT K H a xs ∧ SqT K H b [] ∧ Q (.bl (!xs.isEmpty)) H
theorem op_neT0 (hu : X.A.units + 64 < cLine) : OpR X (compareOp .NotEq) (rNe0 X.K) := by
  intro pins s σ H x y v u Q I rx ry h
  obtain ⟨a, b, xs, rfl, rfl, ha, hb, q⟩ := h
  cases rx
  cases ry
  obtain ⟨its, r, pl, _⟩ := I.tuple ha
  obtain ⟨its2, r2, pl2, _⟩ := I.tuple hb
  cases r2
  refine SeqAt.RcNe.tuple0 pl pl2 (by omega) ⟨.bl _, H, I, rfl, ?_⟩
  have e : (its.toArray.size != 0) = !xs.isEmpty := by
    rw [List.size_toArray, ← r.length]
    cases xs <;> rfl
  rw [e]
  exact q
def rEq0 (K : PySem.W.Frag) : R2 := fun x y H Q => ∃ (a b : Addr) (xs : List V), x = .ref a ∧ y = .ref b ∧ SqT K H a xs ∧ SqT K H b [] ∧ Q (.bl xs.isEmpty) H
theorem op_eqT0 (hu : X.A.units + 64 < cLine) : OpR X (compareOp .Eq) (rEq0 X.K) := by
  intro pins s σ H x y v u Q I rx ry h
  obtain ⟨a, b, xs, rfl, rfl, ha, hb, q⟩ := h
  cases rx
  cases ry
  obtain ⟨its, r, pl, _⟩ := I.tuple ha
  obtain ⟨its2, r2, pl2, _⟩ := I.tuple hb
  cases r2
  refine SeqAt.eq_tupleAt (e := fun _ => true) pl pl2 (by omega) (fun j h1 h2 => by simp at h2) ⟨.bl _, H, I, rfl, ?_⟩
  have e : ((List.range (min its.toArray.size ([] : List Value).toArray.size)).all (fun _ => true) && its.toArray.size == ([] : List Value).toArray.size) = xs.isEmpty := by
    rw [List.size_toArray, ← r.length]
    cases xs <;> simp
  rw [e]
  exact q
/-- a value in a tuple of texts -/
def rInTx (K : PySem.W.Frag) : R2 := fun x y H Q => ∃ (p : Addr) (ks : List Str), y = .ref p ∧ SqT K H p (ks.map V.str) ∧ ((flatV x = true ∧ Q (.bl (inV x (ks.map V.str))) H) ∨ ∃ a, x = .ref a ∧ ((∃ us, SqL K H a us) ∨ (∃ us, SqT K H a us) ∨ ∃ m, H a = some (.dK m)) ∧ Q (.bl false) H)
theorem op_inTx (hu : X.A.units + 65 < cLine) : OpR X (compareOp .In) (rInTx X.K) := by
  intro pins s σ H x y v u Q I rx ry h
  obtain ⟨p, ks, rfl, hp, h⟩ := h
  rcases h with ⟨fx, q⟩ | ⟨a, rfl, ha, q⟩
  · exact op_in_seq pins s σ H x _ v u Q I rx ry ⟨p, _, rfl, .inr hp, fx, List.all_eq_true.mpr fun z hz => by
      obtain ⟨k, _, rfl⟩ := List.mem_map.mp hz
      rfl, q⟩
  · cases rx
    cases ry
    obtain ⟨its, r, pl, hz⟩ := I.tuple hp
    have hu1 : X.A.in1.units < cLine := by
      show X.A.units + 1 < cLine
      omega
    refine SeqAt.in_tupleAt (fun _ => false) pl (fun w hw => ?_) ⟨.bl _, H, I, rfl, ?_⟩
    · have hw' : w ∈ its := by simpa using hw
      obtain ⟨k, t, rfl⟩ : ∃ k t, w = Value.str k t := by
        have : ∀ {ks : List Str} {us : List Value}, Vals (ks.map V.str) us → ∀ u ∈ us, ∃ k t, u = Value.str k t := by
          intro ks us hv
          induction ks generalizing us with
          | nil => cases hv; intro u hu; cases hu
          | cons k ks ih =>
            cases hv with
            | cons r1 r2 =>
              obtain ⟨t, rfl⟩ := r1
              intro u hu
              rcases List.mem_cons.mp hu with rfl | hu
              · exact ⟨k, t, rfl⟩
              · exact ih r2 u hu
        exact this r w hw'
      rcases ha with ⟨us, ha⟩ | ⟨us, ha⟩ | ⟨m, ha⟩
      · obtain ⟨its2, _, pl2, _⟩ := I.list ha
        exact SeqAt.EqAt.str_list k t pl2.isList hu1
      · obtain ⟨its2, _, pl2, _⟩ := I.tuple ha
        exact SeqAt.EqAt.str_tuple k t pl2 hu1
      · obtain ⟨_, _, vs, _, o, es, ep, ho, hc, hd, _⟩ := (show ObjOk X.prog X.w H s.heap a (.dK m) from I.hok a _ ha)
        obtain ⟨cls, dd, data, sl⟩ := o
        have hc1 := hc.1
        simp only at hc1 hd
        subst hc1 hd
        exact SeqAt.EqAt.str_dict k t ho hu1
    · have e : its.toArray.any (fun _ => false) = false := by simp
      rw [e]
      exact q
end
end L2


namespace Toy
open PySem L2
abbrev sShuf : Stmt := top 41
/-! ### a row of texts in any order -/
theorem erase_perm {α : Type} : ∀ (l : List α) (j : Nat) (h : j < l.length), (l[j] :: l.eraseIdx j).Perm l
  | x :: l, 0, _ => List.Perm.refl _
  | x :: l, j + 1, h => (List.Perm.swap x _ _).trans (.cons x (erase_perm l j (Nat.lt_of_succ_lt_succ h)))
theorem erase_map {α β : Type} (f : α → β) : ∀ (l : List α) (j : Nat), (l.map f).eraseIdx j = (l.eraseIdx j).map f
  | [], _ => rfl
  | _ :: _, 0 => rfl
  | x :: l, j + 1 => congrArg (f x :: ·) (erase_map f l j)
/-- all that stood stands, but at d, at a list L and at a list G -/
def spShuf : Sp := fun vs H Q _ => ∃ (d l p : Addr) (n : Nat) (ks : List Str), vs = [.ref d, .ref p] ∧ Tape H d l n ∧ n ≤ 900000 ∧ H p = some (.lst (ks.map V.str)) ∧ ks.length ≤ 20 ∧ (∀ k ∈ ks, PyData.strOk k = true) ∧
  ∀ H' R (ys : List Str), But d H H' → Tape H' d l (n + ks.length) → H R = none → H' R = some (.lst (ys.map V.str)) → ys.Perm ks → Q (.ref R) H'
section
variable {P : Program} {w : World} {K : PySem.W.Frag} {mg : Str → Option Value} {base : Heap}
theorem scSh : FnScope ["_law_tape", "_law_items", "_law_left", "_law_got"] ["_law_tape", "_law_items"] (defScope sShuf) := ⟨rfl, rfl, rfl, by decide +kernel, rfl, by decide +kernel, by decide +kernel⟩
theorem ok_shuf {f fD : Addr} {fd fdD : FuncData} (F : Fun K "_law_shuffled" "_law_shuffled" sShuf f fd) (GD : FnOk P w K mg base CX0 1 fD fdD ["_law_tape", "_law_many"] spDraw) (mD : mg "_law_draw" = some (.ref fD)) (kD : PySem.W.keepIn K (.ref fD) = true) (bD : Binds K fdD ["_law_tape", "_law_many"] []) (mLen : mg "len" = none) (mList : mg "list" = none) :
    FnOk P w K mg base CX0 2 f fd ["_law_tape", "_law_items"] spShuf := by
  refine F.ok scSh (fun vs H Q E h => ?_) (fun cdv A outer s H vs Q E hr h => ?_)
  · obtain ⟨d, l, p, n, ks, rfl, _⟩ := h
    rfl
  · obtain ⟨d, l, p, n, ks, rfl, hT, hn, hp, hlen, hok, q⟩ := h
    refine ⟨_, pss_cons (ps_par (i := 2) (j := 3) rfl scSh.nd rfl rfl (by decide) rfl rfl (pa_cons (pe_callTy call_list_of (by rfl) mList (by decide +kernel) (pa_cons (pv 1) pa_nil)) (pa_cons (pe_lst pa_nil) pa_nil)) (by rfl))
      (pss_cons (ps_while PassesOwn.never (pt_cmpR (op_neD hr.units) (pv 2) (pe_lst pa_nil) (nomark _))
        (pss_one (ps_expr (pe_bm PySem.F.plainAttrs_list PySem.F.slot_list_append PySem.F.type_list_append mt_append (pv 3) (pa_cons (pe_bm PySem.F.plainAttrs_list PySem.F.slot_list_pop PySem.F.type_list_pop mt_popAt (pv 2)
          (pa_cons (pe_call GD hr (by rfl) mD kD bD .nil pass0 (pa_cons (pv 0) (pa_cons (pe_callB call_len_seq (by rfl) mLen PySem.boot_len (pa_cons (pv 2) pa_nil)) pa_nil))) pa_nil)) pa_nil)))))
      (pss_one (ps_ret (pv 3)))), ?_⟩
    refine ⟨_, rfl, p, _, rfl, .inl (SqL.of hp), fun L nL => ⟨Nat.zero_le _, fun G nG => ⟨_, _, rfl, ?_⟩⟩⟩
    have nLG : L ≠ G := ne_of_none upd_same nG
    have nG0 : H G = none := by rw [upd_ne nLG.symm] at nG; exact nG
    have hd0 : ∃ o, H d = some o := by
      obtain ⟨ns, a, f, h1, _⟩ := hT
      exact ⟨_, h1⟩
    obtain ⟨od, hd0⟩ := hd0
    have ndL : d ≠ L := ne_of_none hd0 nL
    have hl0 : ∃ o, H l = some o := by
      obtain ⟨ns, a, f, _, h1, _⟩ := hT
      exact ⟨_, h1⟩
    obtain ⟨ol, hl0⟩ := hl0
    have nlL : l ≠ L := ne_of_none hl0 nL
    have nlG : l ≠ G := ne_of_none hl0 nG0
    have ndG : d ≠ G := ne_of_none hd0 nG0
    refine ⟨fun m σ H' => ∃ xs ys : List Str, m = xs.length ∧ σ = [some (.ref d), some (.ref p), some (.ref L), some (.ref G)] ∧ (xs ++ ys).Perm ks ∧ Tape H' d l (n + ys.length) ∧ H' L = some (.lst (xs.map V.str)) ∧ H' G = some (.lst (ys.map V.str)) ∧ But d H H',
      ⟨_, ks, [], rfl, rfl, by rw [List.append_nil], (hT.same (same_new (same_new (fun _ _ z => z) nL) nG)), (upd_ne nLG).trans upd_same, upd_same, Same.but (same_new (same_new (fun _ _ z => z) nL) nG) d⟩, fun m σ H1 hW => ?_⟩
    obtain ⟨xs, ys, rfl, rfl, hpm, hT1, hL, hG, hb⟩ := hW
    have okx : ∀ k ∈ xs, PyData.strOk k = true := fun k hk => hok k (hpm.mem_iff.mp (List.mem_append_left _ hk))
    have lens : xs.length + ys.length = ks.length := by rw [← List.length_append]; exact hpm.length_eq
    refine ⟨_, rfl, Nat.zero_le _, fun e ne => ⟨.list (xs.map PyData.str), .list [], .lst (SqL.of ((upd_ne (ne_of_none hL ne)).trans hL)) (dpStrs xs), .lst (SqL.of upd_same) .nil, shapedStrs okx, by decide +kernel, _, rfl, ?_⟩⟩
    have s1 : Same H1 (upd H1 e (.lst [])) := same_new (fun _ _ z => z) ne
    cases xs with
    | nil =>
      have hq : (!PyData.eqv (.list (List.map PyData.str [])) (.list [])) = false := by decide +kernel
      rw [hq]
      refine iteF ⟨_, rfl, q _ G ys (hb.trans (Same.but s1 d)) (hT1.same s1 |> fun t => by
        have e2 : ys.length = ks.length := by simpa using lens
        rw [e2] at t
        exact t) nG0 (s1 _ _ hG) (by simpa using hpm)⟩
    | cons x xs =>
      have hq : (!PyData.eqv (.list (List.map PyData.str (x :: xs))) (.list [])) = true := by
        simp [PyData.eqv, PyData.eqvAll]
      rw [hq]
      refine iteT ?_
      have hL1 := s1 _ _ hL
      have hG1 := s1 _ _ hG
      have lp : (List.map V.str (x :: xs)).length = xs.length + 1 := by rw [List.length_map]; rfl
      refine ⟨fun σ' H' => ∃ xs' ys' : List Str, xs.length = xs'.length ∧ σ' = [some (.ref d), some (.ref p), some (.ref L), some (.ref G)] ∧ (xs' ++ ys').Perm ks ∧ Tape H' d l (n + ys'.length) ∧ H' L = some (.lst (xs'.map V.str)) ∧ H' G = some (.lst (ys'.map V.str)) ∧ But d H H',
        fun σ' H' ⟨xs', ys', h1, h2⟩ => ⟨xs.length, Nat.lt_succ_self _, xs', ys', h1, h2⟩, ?_⟩
      have lens' : xs.length + 1 + ys.length = ks.length := by simpa using lens
      refine ⟨_, rfl, .inl ⟨rfl, _, SqL.of hG1⟩, _, rfl, .inl ⟨rfl, _, SqL.of hL1⟩, _, rfl, _, rfl, L, _, rfl, .inl (SqL.of hL1), d, l, n + ys.length, _, rfl, hT1.same s1, by omega, by rw [lp]; omega, by rw [lp]; omega, fun H2 r b2 t2 r0 r1 => ?_⟩
      rw [lp] at r1
      obtain ⟨j, rfl⟩ : ∃ j : Nat, r = (j : Int) := ⟨r.toNat, by omega⟩
      have hj : j < (x :: xs).length := by simp only [List.length_cons]; omega
      have hL2 := b2 _ _ ndL.symm hL1
      have hG2 := b2 _ _ ndG.symm hG1
      have g1 : (List.map V.str (x :: xs))[j]? = some (.str (x :: xs)[j]) := by rw [List.getElem?_map, List.getElem?_eq_getElem hj]; rfl
      refine ⟨L, _, _, j, _, rfl, rfl, hL2, by omega, by omega, by rw [seqIndex_of (by omega) (by rw [lp]; omega)]; simp, g1, ?_⟩
      refine ⟨G, _, _, rfl, rfl, (upd_ne nLG.symm).trans hG2, small1000 (by rw [List.length_map]; omega), (x :: xs).eraseIdx j, ys ++ [(x :: xs)[j]], ?_, rfl, ?_, ?_, ?_, ?_, ?_⟩
      · rw [List.length_eraseIdx, if_pos hj]
        simp
      · refine List.Perm.trans ?_ hpm
        have z := erase_perm (x :: xs) j hj
        have z2 : ((x :: xs).eraseIdx j ++ (ys ++ [(x :: xs)[j]])).Perm ((x :: xs)[j] :: (x :: xs).eraseIdx j ++ ys) := by
          rw [← List.append_assoc]
          exact List.perm_append_comm.trans (by simp)
        exact z2.trans (List.Perm.append_right ys z)
      · rw [List.length_append]
        obtain ⟨ms, a, f', h1, h2, h3⟩ := t2
        exact ⟨ms, a, f', by rw [upd_ne ndG, upd_ne ndL]; exact h1, by rw [upd_ne nlG, upd_ne nlL]; exact h2, h3⟩
      · rw [upd_ne nLG, upd_same, erase_map]
      · rw [upd_same, List.map_append]
        rfl
      · intro b o hb0 ho
        have h2 := b2 _ _ hb0 (s1 _ _ (hb b o hb0 ho))
        rw [upd_ne (ne_of_none ho nG0), upd_ne (ne_of_none ho nL)]
        exact h2
end
end Toy


namespace Toy
open PySem PySem.Spec L2 PyProof.Rows PySem.W
abbrev sBent : Stmt := top 48
/-! ### of what kind a value is -/
def isTup : Dt → Bool
  | .tup _ => true
  | _ => false
def isStr : Dt → Bool
  | .str _ => true
  | _ => false
def isBl : Dt → Bool
  | .bl _ => true
  | _ => false
def isInt : Dt → Bool
  | .int _ => true
  | .bl _ => true
  | _ => false
theorem tyT {K : PySem.W.Frag} {H : Hp} {a : Addr} {xs : List V} (h : SqT K H a xs) : TyX K H (.ref a) (.type "tuple") := by
  rcases h with (h | ⟨o, h⟩) | ⟨o, its, n, hk, hc, _⟩
  · exact .base (.tup h)
  · exact .fTuple h
  · exact .kTuple hk hc
section
variable {K : PySem.W.Frag} {H : Hp} {v : V} {t : Dt} {Q : VK}
theorem isi_tup (h : Dv K H v t) (q : Q (.bl (isTup t)) H) : rIsi K [v, .ty "tuple"] H Q := by
  cases h with
  | non => exact ⟨_, _, _, _, _, rfl, .ty _, .base .non, kit_ty (r := false) (by decide +kernel), q⟩
  | bl b => exact ⟨_, _, _, _, _, rfl, .ty _, .base (.bl b), kit_ty (r := false) (by decide +kernel), q⟩
  | int i => exact ⟨_, _, _, _, _, rfl, .ty _, .base (.int i), kit_ty (r := false) (by decide +kernel), q⟩
  | str x => exact ⟨_, _, _, _, _, rfl, .ty _, .base (.str x), kit_ty (r := false) (by decide +kernel), q⟩
  | tup hs _ => exact ⟨_, _, _, _, _, rfl, .ty _, tyT hs, kit_ty (r := true) (by decide +kernel), q⟩
  | lst hs => exact ⟨_, _, _, _, _, rfl, .ty _, .base (.lst hs), kit_ty (r := false) (by decide +kernel), q⟩
  | dct hs => exact ⟨_, _, _, _, _, rfl, .ty _, .base (.dK hs), kit_ty (r := false) (by decide +kernel), q⟩
theorem isi_str (h : Dv K H v t) (q : Q (.bl (isStr t)) H) : rIsi K [v, .ty "str"] H Q := by
  cases h with
  | non => exact ⟨_, _, _, _, _, rfl, .ty _, .base .non, kit_ty (r := false) (by decide +kernel), q⟩
  | bl b => exact ⟨_, _, _, _, _, rfl, .ty _, .base (.bl b), kit_ty (r := false) (by decide +kernel), q⟩
  | int i => exact ⟨_, _, _, _, _, rfl, .ty _, .base (.int i), kit_ty (r := false) (by decide +kernel), q⟩
  | str x => exact ⟨_, _, _, _, _, rfl, .ty _, .base (.str x), kit_ty (r := true) (by decide +kernel), q⟩
  | tup hs _ => exact ⟨_, _, _, _, _, rfl, .ty _, tyT hs, kit_ty (r := false) (by decide +kernel), q⟩
  | lst hs => exact ⟨_, _, _, _, _, rfl, .ty _, .base (.lst hs), kit_ty (r := false) (by decide +kernel), q⟩
  | dct hs => exact ⟨_, _, _, _, _, rfl, .ty _, .base (.dK hs), kit_ty (r := false) (by decide +kernel), q⟩
theorem isi_int (h : Dv K H v t) (q : Q (.bl (isInt t)) H) : rIsi K [v, .ty "int"] H Q := by
  cases h with
  | non => exact ⟨_, _, _, _, _, rfl, .ty _, .base .non, kit_ty (r := false) (by decide +kernel), q⟩
  | bl b => exact ⟨_, _, _, _, _, rfl, .ty _, .base (.bl b), kit_ty (r := true) (by decide +kernel), q⟩
  | int i => exact ⟨_, _, _, _, _, rfl, .ty _, .base (.int i), kit_ty (r := true) (by decide +kernel), q⟩
  | str x => exact ⟨_, _, _, _, _, rfl, .ty _, .base (.str x), kit_ty (r := false) (by decide +kernel), q⟩
  | tup hs _ => exact ⟨_, _, _, _, _, rfl, .ty _, tyT hs, kit_ty (r := false) (by decide +kernel), q⟩
  | lst hs => exact ⟨_, _, _, _, _, rfl, .ty _, .base (.lst hs), kit_ty (r := false) (by decide +kernel), q⟩
  | dct hs => exact ⟨_, _, _, _, _, rfl, .ty _, .base (.dK hs), kit_ty (r := false) (by decide +kernel), q⟩
theorem isi_bl (h : Dv K H v t) (q : Q (.bl (isBl t)) H) : rIsi K [v, .ty "bool"] H Q := by
  cases h with
  | non => exact ⟨_, _, _, _, _, rfl, .ty _, .base .non, kit_ty (r := false) (by decide +kernel), q⟩
  | bl b => exact ⟨_, _, _, _, _, rfl, .ty _, .base (.bl b), kit_ty (r := true) (by decide +kernel), q⟩
  | int i => exact ⟨_, _, _, _, _, rfl, .ty _, .base (.int i), kit_ty (r := false) (by decide +kernel), q⟩
  | str x => exact ⟨_, _, _, _, _, rfl, .ty _, .base (.str x), kit_ty (r := false) (by decide +kernel), q⟩
  | tup hs _ => exact ⟨_, _, _, _, _, rfl, .ty _, tyT hs, kit_ty (r := false) (by decide +kernel), q⟩
  | lst hs => exact ⟨_, _, _, _, _, rfl, .ty _, .base (.lst hs), kit_ty (r := false) (by decide +kernel), q⟩
  | dct hs => exact ⟨_, _, _, _, _, rfl, .ty _, .base (.dK hs), kit_ty (r := false) (by decide +kernel), q⟩
theorem isT {σ : L2.St} (h : Dv K H v t) (q : Q (.bl (isTup t)) H) : tCons (tC (.ty "tuple")) tNil σ H (fun xs H2 => rIsi K (v :: xs) H2 Q) := isi_tup h q
theorem isS {σ : L2.St} (h : Dv K H v t) (q : Q (.bl (isStr t)) H) : tCons (tC (.ty "str")) tNil σ H (fun xs H2 => rIsi K (v :: xs) H2 Q) := isi_str h q
theorem isI {σ : L2.St} (h : Dv K H v t) (q : Q (.bl (isInt t)) H) : tCons (tC (.ty "int")) tNil σ H (fun xs H2 => rIsi K (v :: xs) H2 Q) := isi_int h q
theorem isB {σ : L2.St} (h : Dv K H v t) (q : Q (.bl (isBl t)) H) : tCons (tC (.ty "bool")) tNil σ H (fun xs H2 => rIsi K (v :: xs) H2 Q) := isi_bl h q
end
section
variable {K : PySem.W.Frag} {H : Hp} {a b : Addr} {xs ys : List V} {Q : VK}
theorem cut_whole {lo hi : Option Int} (h : HT.sIx xs.length 0 lo = 0 ∧ HT.sIx xs.length xs.length hi = xs.length) : cutV xs lo hi = xs := by
  unfold cutV
  rw [h.1, h.2, List.drop_zero, Nat.sub_zero, List.take_length]
theorem sl_run {lo hi : Option Int} (h : SqT K H a xs) (q : ∀ H' c, Same H H' → SqT K H' c (cutV xs lo hi) → Q (.ref c) H') : rSlA K (.ref a) lo hi H Q :=
  ⟨a, xs, rfl, h, fun hw => q H a same_id (by rw [cut_whole hw]; exact h), fun _ p np => q _ p (same_new same_id np) (SqT.of upd_same)⟩
theorem sl_runN {σ : L2.St} {lo : Option Int} (h : SqT K H a xs) (q : ∀ H' c, Same H H' → SqT K H' c (cutV xs lo none) → Q (.ref c) H') : tNoPart σ H (fun u H3 => rSlA K (.ref a) lo u H3 Q) := sl_run (hi := none) h q
theorem catT_run (ha : SqT K H a xs) (hb : SqT K H b ys) (hl : xs.length + ys.length ≤ 1000) (q : ∀ H' c, Same H H' → SqT K H' c (xs ++ ys) → Q (.ref c) H') : rCatA K (.ref a) (.ref b) H Q :=
  ⟨a, b, xs, ys, rfl, rfl, ha, hb, few hl, fun e => q H b same_id (by rw [e]; exact hb), fun _ e => q H a same_id (by rw [e, List.append_nil]; exact ha), fun _ _ p np => q _ p (same_new same_id np) (SqT.of upd_same)⟩
theorem sqT_off {d : Addr} {m : List (Key × V)} (h : SqT K H a xs) (hd : H d = some (.dK m)) : SqT K (delH H d) a xs := by
  rcases h with (h | ⟨o, h⟩) | h
  · exact .inl (.inl ((delH_ne (fun e => by rw [e, hd] at h; cases h)).trans h))
  · exact .inl (.inr ⟨o, (delH_ne (fun e => by rw [e, hd] at h; cases h)).trans h⟩)
  · exact .inr h
theorem sqT_on {d : Addr} (h : SqT K (delH H d) a xs) : SqT K H a xs := same_seqT (Same.off d) h
theorem Tape.dK {H : Hp} {d l : Addr} {n : Nat} (t : Tape H d l n) : ∃ m, H d = some (.dK m) := by
  obtain ⟨ns, a, f, h1, _⟩ := t
  exact ⟨_, h1⟩
theorem dv_on {d : Addr} {v : V} {t : Dt} (h : Dv K (delH H d) v t) : Dv K H v t := dvM (Same.off d) h
theorem dvl_on {d : Addr} {v : List V} {t : List Dt} (h : DvL K (delH H d) v t) : DvL K H v t := dvLM (Same.off d) h
end
theorem ndL_split {ts : List Dt} {j : Nat} {x : Dt} (h : ts[j]? = some x) : ts = ts.take j ++ x :: ts.drop (j + 1) := by
  have hj : j < ts.length := (List.getElem?_eq_some_iff.mp h).1
  have e : ts[j] = x := (List.getElem?_eq_some_iff.mp h).2
  rw [← e, List.getElem_cons_drop, List.take_append_drop]
theorem cut_head {xs : List V} {i : Nat} (h : i ≤ xs.length) : cutV xs none (some (i : Int)) = xs.take i := by
  unfold cutV
  rw [show HT.sIx xs.length xs.length (some (i : Int)) = min i xs.length from HT.sIx_nat _ _ i, HT.sIx_none, List.drop_zero, Nat.sub_zero, Nat.min_eq_left h]
theorem cut_tail {xs : List V} {i : Nat} (h : i ≤ xs.length) : cutV xs (some (i : Int)) none = xs.drop i := by
  unfold cutV
  rw [show HT.sIx xs.length 0 (some (i : Int)) = min i xs.length from HT.sIx_nat _ _ i, HT.sIx_none, Nat.min_eq_left h]
  exact List.take_of_length_le (by rw [List.length_drop]; exact Nat.le_refl _)
theorem sIx_m1 (n d : Nat) : HT.sIx n d (some (-1)) = n - 1 := by
  show (if (-1 : Int) < 0 then ((-1 : Int) + (n : Int)).toNat else min (-1 : Int).toNat n) = n - 1
  rw [if_pos (by decide)]
  omega
theorem cut_but (xs : List V) : cutV xs none (some (-1)) = xs.take (xs.length - 1) := by
  unfold cutV
  rw [sIx_m1, HT.sIx_none, List.drop_zero, Nat.sub_zero]
theorem cut_last (xs : List V) : cutV xs (some (-1)) none = xs.drop (xs.length - 1) := by
  unfold cutV
  rw [sIx_m1, HT.sIx_none]
  exact List.take_of_length_le (by rw [List.length_drop]; exact Nat.le_refl _)
theorem ndL_take (n : Nat) (ts : List Dt) : ndL (ts.take n) + ndL (ts.drop n) = ndL ts := by
  rw [← ndL_app, List.take_append_drop]
theorem depL_take (n : Nat) (ts : List Dt) : max (depL (ts.take n)) (depL (ts.drop n)) = depL ts := by
  rw [← depL_app, List.take_append_drop]
theorem okdL_take (c n : Nat) (ts : List Dt) : (okdL c (ts.take n) && okdL c (ts.drop n)) = okdL c ts := by
  rw [← okdL_app, List.take_append_drop]
theorem ndL_rev : ∀ ts : List Dt, ndL ts.reverse = ndL ts
  | [] => rfl
  | t :: ts => by rw [List.reverse_cons, ndL_app, ndL_rev ts]; simp only [ndL]; omega
theorem depL_rev : ∀ ts : List Dt, depL ts.reverse = depL ts
  | [] => rfl
  | t :: ts => by rw [List.reverse_cons, depL_app, depL_rev ts]; simp only [depL]; omega
theorem okdL_rev (c : Nat) : ∀ ts : List Dt, okdL c ts.reverse = okdL c ts
  | [] => rfl
  | t :: ts => by rw [List.reverse_cons, okdL_app, okdL_rev c ts]; simp only [okdL, Bool.and_true, Bool.true_and, Bool.and_comm]
theorem if_rest {t : TT} {b r : TS} {D : Ends} {σ : L2.St} {H : Hp} (J : Hp → Prop) (hr : ∀ H0, J H0 → r D σ H0) (ht : ∀ Q : Bool → Hp → Prop, (∀ H0, J H0 → Q false H0) → (∀ H0, b { D with nx := r D } σ H0 → Q true H0) → t σ H Q) : tSeq (tIfS t b tNext) r D σ H :=
  ht _ (fun H0 j => by
    show (if false = true then _ else _)
    rw [if_neg Bool.false_ne_true]
    exact hr H0 j) fun H0 h => by
    show (if true = true then _ else _)
    rw [if_pos rfl]
    exact h
theorem ite_or {c : Bool} {A B G : Prop} (h : if c = true then A else B) (f : c = true → A → G) (g : c = false → B → G) : G := by
  cases c with
  | true => exact f rfl (by simpa using h)
  | false => exact g rfl (by simpa using h)
/-- a value in another's stead, no greater than a bend of it may be -/
def Bend (K : PySem.W.Frag) (d : Addr) (H : Hp) (c : Nat) (t : Dt) (v : V) : Prop := ∃ t', Dv K (delH H d) v t' ∧ nd t' ≤ 2 * nd t + 8 ∧ dep t' ≤ dep t + 5 ∧ okd (c + 1) t' = true
theorem Bend.but {K : PySem.W.Frag} {d : Addr} {H H' : Hp} {c : Nat} {t : Dt} {v : V} (h : Bend K d H c t v) (b : But d H H') : Bend K d H' c t v := by
  obtain ⟨t', h1, h2⟩ := h
  exact ⟨t', dvM (But.off b) h1, h2⟩
def spBent (K : PySem.W.Frag) (j : Nat) : Sp := fun vs H Q _ => ∃ (d l p : Addr) (n c : Nat) (x : V) (t : Dt) (us : List V), dep t < j ∧ vs = [.ref d, x, .ref p] ∧ Tape H d l n ∧ n + 3 * j ≤ 900000 ∧ Dv K (delH H d) x t ∧ okd c t = true ∧ 5 ≤ c ∧ c ≤ 100 ∧ H p = some (.lst us) ∧ us ≠ [] ∧ us.length ≤ 100 ∧ (∀ u ∈ us, Fv K d H 5 8 5 u) ∧
  ∀ H' v, But d H H' → Tape H' d l (n + 3 * j) → Bend K d H' c t v → Q v H'
abbrev NBe : List Str := ["_law_tape", "_law_x", "_law_some_here", "_law_at", "_law_way"]
section
variable {P : Program} {w : World} {K : PySem.W.Frag} {mg : Str → Option Value} {base : Heap}
theorem scBe : FnScope NBe ["_law_tape", "_law_x", "_law_some_here"] (defScope sBent) := ⟨rfl, rfl, rfl, by decide +kernel, rfl, by decide +kernel, by decide +kernel⟩
theorem ok_bent {f fD fP : Addr} {fd fdD fdP : FuncData} (F : Fun K "_law_bent" "_law_bent" sBent f fd)
    (GD : FnOk P w K mg base CX0 1 fD fdD ["_law_tape", "_law_many"] spDraw) (mD : mg "_law_draw" = some (.ref fD)) (kD : PySem.W.keepIn K (.ref fD) = true) (bD : Binds K fdD ["_law_tape", "_law_many"] [])
    (GP : FnOk P w K mg base CX0 2 fP fdP ["_law_tape", "_law_items"] spPick) (mP : mg "_law_pick" = some (.ref fP)) (kP : PySem.W.keepIn K (.ref fP) = true) (bP : Binds K fdP ["_law_tape", "_law_items"] [])
    (mF : mg "_law_bent" = some (.ref f)) (kF : PySem.W.keepIn K (.ref f) = true) (bF : Binds K fd ["_law_tape", "_law_x", "_law_some_here"] []) (mI : mg "isinstance" = none) (mLi : mg "list" = none) (mTu : mg "tuple" = none) (mLen : mg "len" = none) : ∀ j : Nat, FnOk P w K mg base CX0 (j + 3) f fd ["_law_tape", "_law_x", "_law_some_here"] (spBent K j) := by
  intro j
  induction j with
  | zero => exact F.ok (k := 2) scBe (fun vs H Q E h => by obtain ⟨d, l, p, n, c, x, t, us, h0, _⟩ := h; exact absurd h0 (Nat.not_lt_zero _)) (fun cdv A outer s H vs Q E hr h => by obtain ⟨d, l, p, n, c, x, t, us, h0, _⟩ := h; exact absurd h0 (Nat.not_lt_zero _))
  | succ j ih =>
    refine F.ok (k := j + 3) scBe (fun vs H Q E h => ?_) (fun cdv A outer s H vs Q E hr h => ?_)
    · obtain ⟨d, l, p, n, c, x, t, us, _, rfl, _⟩ := h
      rfl
    · obtain ⟨d, l, p, n, c, x, t, us, htj, rfl, hT, hn, hx, hok, c5, c100, hp, hne, hlu, hus, q⟩ := h
      have hr1 : Room 1 _ := hr.mono (show 1 ≤ j + 3 by omega)
      have hr2 : Room 2 _ := hr.mono (show 2 ≤ j + 3 by omega)
      have hu := hr.units
      refine ⟨_, pss_cons (ps_if (PW.pt (pw_and (pt_val (pe_callB call_isi (by rfl) mI PyProof.Rows.boot_isinstance (pa_cons (pv 1) (pa_cons (pe_bltn (v := .ty "tuple") (by rfl) mTu (by decide +kernel) rfl) pa_nil))))
            (pw_and (pt_cmpR (op_neT0 hu) (pv 1) (pe_tup pa_nil) (nomark _)) (pw_and1 (pt_cmpR op_gt (pe_call GD hr1 (by rfl) mD kD bD .nil pass0 (pa_cons (pv 0) (pa_cons pe_int pa_nil))) pe_int (nomark _))))))
          (pss_cons (ps_set (i := 3) scBe.nd rfl (Or.inl rfl) (pe_call GD hr1 (by rfl) mD kD bD .nil pass0 (pa_cons (pv 0) (pa_cons (pe_callB call_len_seq (by rfl) mLen PySem.boot_len (pa_cons (pv 1) pa_nil)) pa_nil))))
          (pss_one (ps_ret (pe_op op_catA (pe_op op_catA (pe_slice sl_tupA (pv 1) po_none (po_some (pv 3))) (pe_tup (pa_cons (pe_call ih hr (by rfl) mF kF bF .nil pass0 (pa_cons (pv 0) (pa_cons (pe_ix ix_tup (pv 1) (pv 3) (fun _ _ => rfl)) (pa_cons (pv 2) pa_nil)))) pa_nil)))
            (pe_slice sl_tupA (pv 1) (po_some (pe_op op_add (pv 3) pe_int)) po_none))))) pss_nil)
        (pss_cons (ps_set (i := 4) scBe.nd rfl (Or.inl rfl) (pe_call GD hr1 (by rfl) mD kD bD .nil pass0 (pa_cons (pv 0) (pa_cons pe_int pa_nil))))
        (pss_cons (ps_if (PW.pt (pw_and (pt_val (pe_callB call_isi (by rfl) mI PyProof.Rows.boot_isinstance (pa_cons (pv 1) (pa_cons (pe_bltn (v := .ty "tuple") (by rfl) mTu (by decide +kernel) rfl) pa_nil)))) (pw_and1 (pt_cmpR op_gt (pv 4) pe_int (nomark _)))))
          (pss_one (ps_ret (pe_ix ix_list (pe_lst (pa_cons (pe_callTy call_list_of (by rfl) mLi (by decide +kernel) (pa_cons (pv 1) pa_nil)) (pa_cons (pe_slice sl_tupA (pv 1) po_none (po_some (pe_un un_neg pe_int))) (pa_cons (pe_op op_catA (pv 1) (pe_slice sl_tupA (pv 1) (po_some (pe_un un_neg pe_int)) po_none)) (pa_cons (pe_revT (pv 1)) pa_nil))))) (pe_op op_sub (pv 4) pe_int) (fun _ _ => rfl)))) pss_nil)
        (pss_one (ps_ret (pe_call GP hr2 (by rfl) mP kP bP .nil pass0 (pa_cons (pv 0) (pa_cons (pv 2) pa_nil))))))), ?_⟩
      have hxH := dv_on hx
      refine if_rest (fun H0 => ∃ n0, But d H H0 ∧ Tape H0 d l n0 ∧ n0 ≤ n + 1) ?_ ?_
      · rintro H0 ⟨n0, b0, t0, hn0⟩
        have hx0 := dvM (But.off b0) hx
        refine asg_run ⟨_, rfl, d, l, n0, 6, rfl, t0, by omega, by decide, by decide, fun H2 r b2 t2 r0 r1 => ?_⟩
        have hx2 := dvM (But.off b2) hx0
        have b02 := b0.trans b2
        refine if_rest (fun H1 => H1 = H2) ?_ ?_
        · rintro H1 rfl
          exact ret_run ⟨_, rfl, _, rfl, d, l, p, n0 + 1, us, rfl, t2, by omega, b02 _ _ (np_of hT hp) hp, hne, by omega, fun H3 v b3 t3 hv => by
            obtain ⟨u, g1, g2, g3, g4⟩ := ((hus v hv).but b02).but b3
            exact q H3 v (b02.trans b3) (t3.more (by omega)) ⟨u, g1, by omega, by omega, okd_mono (by omega) u g4⟩⟩
        · intro Q' qF qT
          refine ⟨_, rfl, isT (dv_on hx2) ⟨_, rfl, ?_⟩⟩
          cases hx2 with
          | @tup a xs ts hs hall =>
            refine iteT ⟨_, rfl, _, _, rfl, rfl, _, rfl, ?_⟩
            by_cases c1 : r > 1
            · rw [decide_eq_true c1]
              refine qT H2 (ret_run ?_)
              have lx := dvl_len hall
              simp only [okd, Bool.and_eq_true, decide_eq_true_eq] at hok
              obtain ⟨m, hm⟩ := t2.dK
              refine ⟨_, rfl, a, xs, rfl, .inr (sqT_on hs), fun L nL => ?_⟩
              have s3 : Same H2 (upd H2 L (.lst xs)) := same_new same_id nL
              have hL3 : (upd H2 L (.lst xs)) L = some (.lst xs) := upd_same
              generalize upd H2 L (.lst xs) = H3 at s3 hL3 ⊢
              refine ⟨_, rfl, 1, rfl, -1, rfl, sl_run (same_seqT s3 (sqT_on hs)) fun H4 A s4 hA => ?_⟩
              rw [cut_but] at hA
              have s24 := s3.trans s4
              refine ⟨_, rfl, _, rfl, 1, rfl, -1, rfl, sl_runN (same_seqT s24 (sqT_on hs)) fun H5 B s5 hB => ?_⟩
              rw [cut_last] at hB
              have s25 := s24.trans s5
              refine catT_run (same_seqT s25 (sqT_on hs)) hB (by rw [List.length_drop]; omega) fun H6 C s6 hC => ?_
              have s26 := s25.trans s6
              refine ⟨_, rfl, a, xs, rfl, same_seqT s26 (sqT_on hs), fun R nR => ?_⟩
              have s7 : Same H6 (upd H6 R (.tup xs.reverse)) := same_new same_id nR
              have hR7 : SqT K (upd H6 R (.tup xs.reverse)) R xs.reverse := SqT.of upd_same
              generalize upd H6 R (.tup xs.reverse) = H7 at s7 hR7 ⊢
              have s27 := s26.trans s7
              refine ⟨few (by show 4 ≤ 1000; decide), fun G nG => ?_⟩
              have s8 : Same H7 (upd H7 G (.lst [.ref L, .ref A, .ref C, .ref R])) := same_new same_id nG
              have hG8 : (upd H7 G (.lst [.ref L, .ref A, .ref C, .ref R])) G = some (.lst [.ref L, .ref A, .ref C, .ref R]) := upd_same
              have s28 := s27.trans s8
              have hd8 := s28 _ _ hm
              have tp : ∀ {b : Addr} {zs : List V} {es : List Dt}, SqT K H7 b zs → DvL K (delH H2 d) zs es → nd (.tup es) ≤ 2 * nd (.tup ts) + 8 → dep (.tup es) ≤ dep (.tup ts) + 5 → okd (c + 1) (.tup es) = true → Bend K d (upd H7 G (.lst [.ref L, .ref A, .ref C, .ref R])) c (.tup ts) (.ref b) :=
                fun h1 h2 h3 h4 h5 => ⟨_, .tup (sqT_off (same_seqT s8 h1) hd8) (dvLM (Same.delH s28 d) h2), h3, h4, h5⟩
              have z1 := ndL_take (ts.length - 1) ts
              have z2 := depL_take (ts.length - 1) ts
              have z3 := okdL_take (c + 1) (ts.length - 1) ts
              have hok1 := okdL_mono (Nat.le_succ c) ts hok.2
              rw [show okdL (c + 1) ts = true from hok1, Bool.and_eq_true] at z3
              have w1 : Bend K d (upd H7 G (.lst [.ref L, .ref A, .ref C, .ref R])) c (.tup ts) (.ref L) := by
                have hL8 := s8 _ _ (s7 _ _ (s6 _ _ (s5 _ _ (s4 _ _ hL3))))
                refine ⟨.opq, .lst ((delH_ne (ne_of_none hm nL).symm).trans hL8), by simp [nd], by simp [dep], by simp [okd]⟩
              have w2 := tp (same_seqT (s5.trans (s6.trans s7)) hA) (by rw [lx]; exact dvl_take _ hall) (by rw [nd, nd]; omega) (by rw [dep, dep]; omega) (by
                rw [okd, Bool.and_eq_true, decide_eq_true_eq, List.length_take]
                exact ⟨by omega, z3.1⟩)
              have w3 := tp (same_seqT s7 hC) (by rw [lx]; exact dvl_app hall (dvl_drop _ hall)) (by rw [nd, nd, ndL_app]; omega) (by rw [dep, dep, depL_app]; omega) (by
                rw [okd, Bool.and_eq_true, decide_eq_true_eq, List.length_append, List.length_drop, okdL_app, Bool.and_eq_true]
                exact ⟨by omega, hok1, z3.2⟩)
              have w4 := tp hR7 (dvl_rev hall) (by rw [nd, nd, ndL_rev]; omega) (by rw [dep, dep, depL_rev]; omega) (by
                rw [okd, Bool.and_eq_true, decide_eq_true_eq, List.length_reverse, okdL_rev]
                exact ⟨by omega, hok1⟩)
              have fin : ∀ v, Bend K d (upd H7 G (.lst [.ref L, .ref A, .ref C, .ref R])) c (.tup ts) v → Q v (upd H7 G (.lst [.ref L, .ref A, .ref C, .ref R])) := fun v hv => q _ v (b02.trans (Same.but s28 d)) ((t2.same s28).more (by omega)) hv
              have hr4 : r = 2 ∨ r = 3 ∨ r = 4 ∨ r = 5 := by omega
              rcases hr4 with rfl | rfl | rfl | rfl
              · exact ⟨_, rfl, _, _, rfl, rfl, G, _, 0, _, rfl, rfl, SqL.of hG8, rfl, fin _ w1⟩
              · exact ⟨_, rfl, _, _, rfl, rfl, G, _, 1, _, rfl, rfl, SqL.of hG8, rfl, fin _ w2⟩
              · exact ⟨_, rfl, _, _, rfl, rfl, G, _, 2, _, rfl, rfl, SqL.of hG8, rfl, fin _ w3⟩
              · exact ⟨_, rfl, _, _, rfl, rfl, G, _, 3, _, rfl, rfl, SqL.of hG8, rfl, fin _ w4⟩
            · rw [decide_eq_false c1]
              exact qF H2 rfl
          | _ => exact iteF (qF H2 rfl)
      · intro Q' qF qT
        have fF : Q' false H := qF H ⟨n, But.refl, hT, by omega⟩
        refine ⟨_, rfl, isT hxH ⟨_, rfl, ?_⟩⟩
        cases hx with
        | @tup a xs ts hs hall =>
          have lx := dvl_len hall
          simp only [okd, Bool.and_eq_true, decide_eq_true_eq] at hok
          refine iteT ⟨_, rfl, few (by show 0 ≤ 1000; decide), fun T nT => ?_⟩
          have s1 : Same H (upd H T (.tup [])) := same_new same_id nT
          have hT1 : SqT K (upd H T (.tup [])) T [] := SqT.of upd_same
          generalize upd H T (.tup []) = H1 at s1 hT1 ⊢
          refine ⟨a, T, xs, rfl, rfl, same_seqT s1 (sqT_on hs), hT1, _, rfl, ?_⟩
          by_cases hxe : xs = []
          · subst hxe
            exact iteF (qF H1 ⟨n, Same.but s1 d, hT.same s1, by omega⟩)
          have hxp : (!xs.isEmpty) = true := by
            cases xs with
            | nil => exact absurd rfl hxe
            | cons _ _ => rfl
          rw [hxp]
          refine iteT ⟨_, rfl, d, l, n, 4, rfl, hT.same s1, by omega, by decide, by decide, fun H2 r b2 t2 r0 r1 => ?_⟩
          have b02 : But d H H2 := (Same.but s1 d).trans b2
          refine ⟨_, _, rfl, rfl, _, rfl, ?_⟩
          by_cases c1 : r > 0
          · rw [decide_eq_true c1]
            refine qT H2 (asg_run ?_)
            have hs2 : SqT K H2 a xs := sqT_on (same_seqT (But.off b02) hs)
            have lp : 0 < xs.length := List.length_pos_iff.mpr hxe
            refine ⟨_, rfl, _, rfl, a, xs, rfl, .inr hs2, d, l, n + 1, _, rfl, t2, by omega, by omega, by omega, fun H3 k b3 t3 k0 k1 => ?_⟩
            obtain ⟨i, rfl⟩ : ∃ i : Nat, k = (i : Int) := ⟨k.toNat, by omega⟩
            have hi : i < xs.length := by omega
            have hxi : xs[i]? = some xs[i] := List.getElem?_eq_getElem hi
            obtain ⟨ti, hti, hdi⟩ := dvl_get hall hxi
            have b03 := b02.trans b3
            have hs3 : SqT K H3 a xs := sqT_on (same_seqT (But.off b03) hs)
            refine ret_run ⟨_, rfl, _, rfl, (i : Int), rfl, sl_run hs3 fun H4 A s4 hA => ?_⟩
            rw [cut_head (by omega)] at hA
            have b04 := b03.trans (Same.but s4 d)
            have hdt : dep ti ≤ depL ts := dep_mem (List.mem_of_getElem? hti)
            have hokt : okd c ti = true := by
              have := hok.2
              rw [okdL_all] at this
              exact List.all_eq_true.mp this ti (List.mem_of_getElem? hti)
            rw [dep] at htj
            refine ⟨_, rfl, _, rfl, _, rfl, a, xs, (i : Int), xs[i], rfl, rfl, same_seqT s4 hs3, atI_nat hxi, _, rfl, d, l, p, n + 2, c, xs[i], ti, us, by omega, rfl, t3.same s4, by omega, dvM (But.off b04) hdi, hokt, c5, c100, b04 _ _ (np_of hT hp) hp, hne, hlu, fun u hu => (hus u hu).but b04, fun H5 v b5 t5 hv => ?_⟩
            obtain ⟨t', g1, g2, g3, g4⟩ := hv
            obtain ⟨m4, hm4⟩ := (t3.same s4).dK
            have hA5 : SqT K H5 A (xs.take i) := sqT_on (same_seqT (But.off b5) (sqT_off hA hm4))
            refine ⟨few (by show 1 ≤ 1000; decide), fun T2 nT2 => ?_⟩
            have s6 : Same H5 (upd H5 T2 (.tup [v])) := same_new same_id nT2
            have hT6 : SqT K (upd H5 T2 (.tup [v])) T2 [v] := SqT.of upd_same
            generalize upd H5 T2 (.tup [v]) = H6 at s6 hT6 ⊢
            refine catT_run (same_seqT s6 hA5) hT6 (by rw [List.length_take, List.length_singleton]; omega) fun H7 B s7 hB => ?_
            have b07 : But d H H7 := b04.trans (b5.trans ((Same.but s6 d).trans (Same.but s7 d)))
            have hs7 : SqT K H7 a xs := sqT_on (same_seqT (But.off b07) hs)
            refine ⟨_, rfl, _, rfl, _, _, rfl, rfl, (i : Int) + 1, rfl, sl_runN hs7 fun H8 C s8 hC => ?_⟩
            rw [show cutV xs (some ((i : Int) + 1)) none = xs.drop (i + 1) from cut_tail (i := i + 1) (by omega)] at hC
            refine catT_run (same_seqT s8 hB) hC (by simp only [List.length_append, List.length_take, List.length_drop, List.length_singleton]; omega) fun H9 R s9 hR => ?_
            have s59 : Same H5 H9 := s6.trans (s7.trans (s8.trans s9))
            have b09 : But d H H9 := b07.trans ((Same.but s8 d).trans (Same.but s9 d))
            obtain ⟨m9, hm9⟩ := (t5.same s59).dK
            refine q H9 (.ref R) b09 ((t5.same s59).more (by omega)) ⟨.tup (ts.take i ++ [t'] ++ ts.drop (i + 1)), .tup (sqT_off hR hm9) (dvl_app (dvl_app (dvl_take i (dvLM (But.off b09) hall)) (.cons (dvM (Same.delH s59 d) g1) .nil)) (dvl_drop (i + 1) (dvLM (But.off b09) hall))), ?_, ?_, ?_⟩
            · have e := congrArg ndL (ndL_split hti)
              rw [ndL_app, ndL] at e
              rw [nd, nd, ndL_app, ndL_app]
              simp only [ndL]
              omega
            · have e := congrArg depL (ndL_split hti)
              rw [depL_app, depL] at e
              rw [dep, dep, depL_app, depL_app]
              simp only [depL]
              omega
            · have e := congrArg (okdL c) (ndL_split hti)
              rw [okdL_app, okdL, hok.2] at e
              have e2 := e.symm
              simp only [Bool.and_eq_true] at e2
              rw [okd, okdL_app, okdL_app]
              simp only [okdL, Bool.and_true, Bool.and_eq_true, decide_eq_true_eq]
              refine ⟨?_, ⟨okdL_mono (Nat.le_succ c) _ e2.1, g4⟩, okdL_mono (Nat.le_succ c) _ e2.2.2⟩
              simp only [List.length_append, List.length_take, List.length_drop, List.length_singleton]
              omega
          · rw [decide_eq_false c1]
            exact qF H2 ⟨n + 1, b02, t2, by omega⟩
        | _ => exact iteF fF
end
end Toy


namespace Toy
open PySem PySem.Spec L2 PyProof.Rows PySem.W
abbrev sSome : Stmt := top 59
theorem dr_twice {K : PySem.W.Frag} {d l : Addr} {J : Hp → Prop} {σ : L2.St} {te : TE} {m n e : Nat} (h : Dr d l J te σ m (fun H v => Fv K d H 5 n e v)) : Dr d l J (tOp (rRepT K) (tTup (tCons te tNil)) (tC (.int 2))) σ m (fun H v => Fv K d H 5 (n + (n + 0) + 1) (e + 1) v) := fun H N Q j t b q =>
  h H N _ j t b fun H4 v b4 t4 hv => ⟨few (by show 1 ≤ 1000; decide), fun T nT => by
    have s5 : Same H4 (upd H4 T (.tup [v])) := same_new same_id nT
    refine ⟨T, 2, [v], rfl, rfl, SqT.of upd_same, by simp, by decide, by decide, by show 1 ≤ 1000; decide, fun T2 nT2 => ?_⟩
    have hv5 := hv.but (Same.but s5 d)
    have hd5 := (t4.same s5).at.1
    refine q _ (.ref T2) (b4.trans ((Same.but s5 d).new nT2)) ((t4.same s5).same (same_new same_id nT2)) ?_
    exact mkF (c := 5) (k := 2) hd5 nT2 (fa_cons hv5 (fa_cons hv5 fa_nil)) (by decide)⟩
def spSome (K : PySem.W.Frag) : Sp := fun vs H Q _ => ∃ (d l p : Addr) (n : Nat) (ks : List Str), vs = [.ref d, .ref p] ∧ Tape H d l n ∧ n + 300 ≤ 900000 ∧ H p = some (.lst (ks.map V.str)) ∧ KeysOk ks ∧
  ∀ H' L us, But d H H' → Tape H' d l (n + 300) → H' L = some (.lst us) → us ≠ [] → us.length ≤ 100 → (∀ u ∈ us, Fv K d H' 5 8 5 u) → Q (.ref L) H'
abbrev NSo : List Str := ["_law_tape", "_law_keys", "_law_rows"]
section
variable {P : Program} {w : World} {K : PySem.W.Frag} {mg : Str → Option Value} {base : Heap}
theorem scSo : FnScope NSo ["_law_tape", "_law_keys"] (defScope sSome) := ⟨rfl, rfl, rfl, by decide +kernel, rfl, by decide +kernel, by decide +kernel⟩
theorem ok_some {f fO fF fT : Addr} {fd fdO fdF fdT : FuncData} (F : Fun K "_law_some" "_law_some" sSome f fd)
    (GO : FnOk P w K mg base CX0 3 fO fdO ["_law_tape"] (spOdd K)) (mO : mg "_law_odd" = some (.ref fO)) (kO : PySem.W.keepIn K (.ref fO) = true) (bO : Binds K fdO ["_law_tape"] [])
    (GF : FnOk P w K mg base CX0 11 fF fdF ["_law_tape", "_law_keys", "_law_deep"] (spFl K 4)) (mF : mg "_law_filter" = some (.ref fF)) (kF : PySem.W.keepIn K (.ref fF) = true) (bF : Binds K fdF ["_law_tape", "_law_keys", "_law_deep"] [])
    (GT : FnOk P w K mg base CX0 7 fT fdT ["_law_tape", "_law_keys", "_law_deep"] (spTm K gT 3)) (mT : mg "_law_test" = some (.ref fT)) (kT : PySem.W.keepIn K (.ref fT) = true) (bT : Binds K fdT ["_law_tape", "_law_keys", "_law_deep"] []) : FnOk P w K mg base CX0 12 f fd ["_law_tape", "_law_keys"] (spSome K) := by
  refine F.ok (k := 11) scSo (fun vs H Q E h => ?_) (fun cdv A outer s H vs Q E hr h => ?_)
  · obtain ⟨d, l, p, n, ks, rfl, _⟩ := h
    rfl
  · obtain ⟨d, l, p, n, ks, rfl, hT, hn, hp, hk, q⟩ := h
    have hr3 : Room 3 _ := hr.mono (show 3 ≤ 11 by omega)
    have hr7 : Room 7 _ := hr.mono (show 7 ≤ 11 by omega)
    refine ⟨_, pss_cons (ps_set (i := 2) scSo.nd rfl (Or.inl rfl) (pe_lst (pa_cons (pe_call GO hr3 (by rfl) mO kO bO .nil pass0 (pa_cons (pv 0) pa_nil)) (pa_cons (pe_call GO hr3 (by rfl) mO kO bO .nil pass0 (pa_cons (pv 0) pa_nil))
        (pa_cons pe_str (pa_cons pe_str (pa_cons pe_str (pa_cons pe_str (pa_cons pe_bl (pa_cons pe_int (pa_cons (pe_op op_add (pe_op op_pow pe_int pe_int) pe_int) (pa_cons (pe_op op_mulS pe_str pe_int) (pa_cons (pe_tup (pa_cons pe_str pa_nil)) (pa_cons (pe_tup (pa_cons pe_str (pa_cons pe_str pa_nil))) pa_nil))))))))))))))
      (pss_one (ps_ret (pe_op op_cat (pv 2) (pe_lst (pa_cons (pe_call GF hr (by rfl) mF kF bF .nil pass0 (pa_cons (pv 0) (pa_cons (pv 1) (pa_cons pe_int pa_nil)))) (pa_cons (pe_call GT hr7 (by rfl) mT kT bT .nil pass0 (pa_cons (pv 0) (pa_cons (pv 1) (pa_cons pe_int pa_nil))))
        (pa_cons (pe_tup (pa_cons pe_str pa_nil)) (pa_cons (pe_tup (pa_cons pe_str (pa_cons pe_str pa_nil))) (pa_cons (pe_op op_repT (pe_tup (pa_cons (pe_tup (pa_cons pe_str (pa_cons (pe_tup (pa_cons pe_str pa_nil)) pa_nil))) pa_nil)) pe_int) (pa_cons pe_str pa_nil)))))))))), ?_⟩
    have npd := np_of hT hp
    have sj : Stb d (JK p ks) := stb_list npd
    have odd : ∀ {σ : L2.St}, σ[0]? = some (some (.ref d)) → Dr d l (JK p ks) (tCall (spOdd K) [] E0 (tCons (tVar 0) tNil)) σ 1 (fun H v => Fv K d H 5 3 2 v) := fun h0 H n Q j t b q => ⟨_, h0, d, l, n, rfl, t, b, fun H' v b' t' r => q H' v b' t' r⟩
    refine asg_run (lst_run (J := JK p ks) (R := fun H v => Fv K d H 5 8 5 v) fv_st (dal sj (odd rfl) ⟨by decide, by decide⟩ (dal sj (odd rfl) ⟨by decide, by decide⟩
      (dal (e := 0) sj (dr_str (by decide +kernel)) ⟨by decide, by decide⟩ (dal (e := 0) sj (dr_str (by decide +kernel)) ⟨by decide, by decide⟩ (dal (e := 0) sj (dr_str (by decide +kernel)) ⟨by decide, by decide⟩ (dal (e := 0) sj (dr_str (by decide +kernel)) ⟨by decide, by decide⟩
      (dal (e := 0) sj dr_bl ⟨by decide, by decide⟩ (dal (e := 0) sj dr_int ⟨by decide, by decide⟩ (dal (m := 0) (n := 0) (e := 0) sj (fun H n Q j t b q => ⟨_, _, rfl, rfl, ⟨by decide, by decide, by decide⟩, _, _, rfl, rfl, q H _ (fun _ _ _ z => z) t (fv_int H _)⟩) ⟨by decide, by decide⟩
      (dal (m := 0) (n := 0) (e := 0) sj (fun H n Q j t b q => ⟨_, _, rfl, rfl, by decide, by decide, by decide, by decide, by decide +kernel, q H _ (fun _ _ _ z => z) t (fv_str H (by decide +kernel))⟩) ⟨by decide, by decide⟩
      (dal sj (dr_nd (e := 0) sj (daf sj (dr_str (by decide +kernel)) daf_nil) (by decide)) ⟨by decide, by decide⟩ (dal sj (dr_nd (e := 0) sj (daf sj (dr_str (by decide +kernel)) (daf sj (dr_str (by decide +kernel)) daf_nil)) (by decide)) ⟨by decide, by decide⟩ dal_nil)))))))))))) (by decide) hp hT (by omega) fun H1 L vs b1 t1 nLd hL r1 => ?_)
    have t1 : Tape H1 d l (n + 2) := t1.more (by omega)
    have hl1 := r1.1
    have s2 : Stb d (JX K d (JK p ks) L vs 8 5) := stb_x sj nLd
    have e1 : cF 1 = 130 := rfl
    have e2 : cT 1 = 40 := rfl
    have g1 : gF 1 = 8 := rfl
    have g2 : gT 1 = 3 := rfl
    refine ret_run (cat_run (J := JX K d (JK p ks) L vs 8 5) (R := fun H v => Fv K d H 5 8 5 v) s2 rfl (fun _ z => z.2) fv_st
      (dal (m := 130) (n := 8) (e := 5) s2 (fun H n Q j t b q => ⟨_, rfl, _, rfl, d, l, p, n, 1, ks, ⟨by decide, by decide⟩, rfl, t, by show n + 130 ≤ 900000; omega, j.1, hk, fun H' v b' t' r => q H' v b' t' r⟩) ⟨by decide, by decide⟩
      (dal (m := 40) (n := 3) (e := 2) s2 (fun H n Q j t b q => ⟨_, rfl, _, rfl, d, l, p, n, 1, ks, by decide, rfl, t, by show n + 40 ≤ 900000; omega, j.1, hk, fun H' v b' t' r => q H' v b' t' r⟩) ⟨by decide, by decide⟩
      (dal s2 (dr_nd (e := 0) s2 (daf s2 (dr_str (by decide +kernel)) daf_nil) (by decide)) ⟨by decide, by decide⟩ (dal s2 (dr_nd (e := 0) s2 (daf s2 (dr_str (by decide +kernel)) (daf s2 (dr_str (by decide +kernel)) daf_nil)) (by decide)) ⟨by decide, by decide⟩
      (dal (m := 0 + (0 + (0 + 0) + 0)) (n := 2 + (2 + 0) + 1) (e := 2 + 1) s2 ?_ ⟨by decide, by decide⟩ (dal (e := 0) s2 (dr_str (by decide +kernel)) ⟨by decide, by decide⟩ dal_nil)))))) (by omega) ⟨sj _ _ b1 hp, hL, r1.2⟩ t1 (by omega) fun H2 L2 ys b2 t2 nL2 hL2 r2 => q H2 L2 ys (b1.trans b2) (t2.more (by omega)) hL2 (fun e => by have := r2.1; rw [e] at this; simp at this) (by have := r2.1; omega) r2.2)
    exact dr_twice (n := 2) (e := 2) (dr_up (dr_nd (e := 1) s2 (daf s2 (dr_str (by decide +kernel)) (daf s2 (dr_nd (e := 0) s2 (daf s2 (dr_str (by decide +kernel)) daf_nil) (by decide)) daf_nil)) (by decide)) (by decide) (by decide))
end
end Toy


namespace Toy
open PySem PySem.Spec L2 PyProof.Rows PySem.W
/-! ### comprehensions: which items are kept, what is made of each -/
section
variable {J : It} {n : Nat} {G : Hp → Prop} {Y : Nat → Hp → V → Hp → Prop} {g : TG} {tt : TT} {te : TE} {vs : List Nat} {σ : L2.St} {H1 : Hp} {D : Addr} {Qd : Hp → Prop}
/-- a list of those that are kept: it is empty where none is -/
theorem lc_none (w : Walk J n G Y) (b : Nat → Bool) (hn : n ≤ 900) (nD : H1 D = none) (hG : ∀ H, Same H1 H → G H) (hY : ∀ i H x H', Y i H x H' → H' = H)
    (hs : ∀ i x H (P1 : V → Hp → Prop) (P0 : Hp → Prop), i < n → Same H1 H → Y i H x H → (b i = true → ∀ y H2, Same H H2 → P1 y H2) → (b i = false → ∀ H2, Same H H2 → P0 H2) → g x (wipe σ vs) H fun σ2 H2 => wipe σ2 vs = wipe σ vs ∧ tt σ2 H2 fun c H3 => if c = true then te σ2 H3 P1 else P0 H3)
    (hd : ∀ H acc, Same H1 H → H D = some (.lst acc) → acc.isEmpty = ((List.range n).all fun i => !b i) → Qd H) :
    ∃ W : Nat → Nat → Hp → Prop, (∃ m, W 0 m (upd H1 D (.lst []))) ∧ ∀ i m H, W i m H →
      (J.stop i H ∧ Qd H) ∨ (J.go i H ∧ ∃ Nx : Hp → Prop, (∀ H', Nx H' → ∃ m', m' < m ∧ W (i + 1) m' H') ∧ ∀ x H', J.yld i H x H' → g x (wipe σ vs) H' fun σ2 H2 => wipe σ2 vs = wipe σ vs ∧ tt σ2 H2 fun b H3 =>
        if b = true then te σ2 H3 fun y H4 => ∃ acc, H4 D = some (.lst acc) ∧ acc.length < sizeLine ∧ Nx (upd H4 D (.lst (acc ++ [y]))) else Nx H3) := by
  refine lc_it w (fun i H => Same H1 H ∧ ∃ acc, H D = some (.lst acc) ∧ acc.length ≤ i ∧ acc.isEmpty = ((List.range i).all fun i => !b i)) ⟨same_new same_id nD, [], upd_same, Nat.le_refl _, rfl⟩ (fun i H _ p => hG H p.1) ?_ ?_
  · rintro i x H H' hi ⟨s1, acc, hD, la, ha⟩ y
    have e := hY _ _ _ _ y
    subst e
    refine hs i x H' _ _ hi s1 y (fun hb z H2 s2 => ?_) (fun hb H2 s2 => ?_)
    · refine ⟨acc, s2 _ _ hD, small1000 (by omega), same_put (s1.trans s2) nD, acc ++ [z], upd_same, ?_, ?_⟩
      · rw [List.length_append, List.length_singleton]
        omega
      · rw [List.range_succ, List.all_append]
        simp only [List.all_cons, List.all_nil, hb]
        simp
    · refine ⟨s1.trans s2, acc, s2 _ _ hD, by omega, ?_⟩
      rw [List.range_succ, List.all_append, ha]
      simp only [List.all_cons, List.all_nil, hb]
      simp
  · rintro H ⟨s1, acc, hD, la, ha⟩
    exact hd H acc s1 hD ha
/-- a list of what is made of each -/
theorem lc_map (w : Walk J n G Y) (f : Nat → V) (hn : n ≤ 900) (nD : H1 D = none) (hG : ∀ H, Same H1 H → G H) (hY : ∀ i H x H', Y i H x H' → H' = H)
    (hs : ∀ i x H (P1 : V → Hp → Prop), i < n → Same H1 H → Y i H x H → (∀ H2, Same H H2 → P1 (f i) H2) → g x (wipe σ vs) H fun σ2 H2 => wipe σ2 vs = wipe σ vs ∧ te σ2 H2 P1)
    (hd : ∀ H, Same H1 H → H D = some (.lst ((List.range n).map f)) → Qd H) :
    ∃ W : Nat → Nat → Hp → Prop, (∃ m, W 0 m (upd H1 D (.lst []))) ∧ ∀ i m H, W i m H →
      (J.stop i H ∧ Qd H) ∨ (J.go i H ∧ ∃ Nx : Hp → Prop, (∀ H', Nx H' → ∃ m', m' < m ∧ W (i + 1) m' H') ∧ ∀ x H', J.yld i H x H' → g x (wipe σ vs) H' fun σ2 H2 => wipe σ2 vs = wipe σ vs ∧ tYes σ2 H2 fun b H3 =>
        if b = true then te σ2 H3 fun y H4 => ∃ acc, H4 D = some (.lst acc) ∧ acc.length < sizeLine ∧ Nx (upd H4 D (.lst (acc ++ [y]))) else Nx H3) := by
  refine lc_it w (fun i H => Same H1 H ∧ H D = some (.lst ((List.range i).map f))) ⟨same_new same_id nD, upd_same⟩ (fun i H _ p => hG H p.1) ?_ ?_
  · rintro i x H H' hi ⟨s1, hD⟩ y
    have e := hY _ _ _ _ y
    subst e
    refine hs i x H' _ hi s1 y fun H2 s2 => ⟨_, s2 _ _ hD, small1000 (by rw [List.length_map, List.length_range]; omega), same_put (s1.trans s2) nD, ?_⟩
    rw [upd_same, List.range_succ, List.map_append]
    rfl
  · rintro H ⟨s1, hD⟩
    exact hd H s1 hD
end
theorem yAt_same {xs : List V} : ∀ i H x H', YAt xs i H x H' → H' = H := fun _ _ _ _ y => y.1
theorem yFn_same {f : Nat → V} : ∀ i H x H', YFn f i H x H' → H' = H := fun _ _ _ _ y => y.1
/-- a list beside an empty list -/
theorem op_eqE {X : Cx} (hu : X.A.units + 64 < cLine) : OpR X (compareOp .Eq) (fun x y H Q => ∃ (a b : Addr) (xs : List V), x = .ref a ∧ y = .ref b ∧ H a = some (.lst xs) ∧ H b = some (.lst []) ∧ Q (.bl xs.isEmpty) H) := by
  intro pins s σ H x y v u Q I rx ry h
  obtain ⟨a, b, xs, rfl, rfl, ha, hb, q⟩ := h
  cases rx
  cases ry
  obtain ⟨its, r, pl, _⟩ := I.list (SqL.of ha)
  obtain ⟨its2, r2, pl2, _⟩ := I.list (SqL.of hb)
  cases r2
  have hu' : X.A.units < cLine := by omega
  cases r with
  | nil =>
    exact SeqAt.eq_listAt (e := fun _ => true) pl.isList pl2.isList rfl hu' (fun j h1 _ => by simp at h1) ⟨.bl true, H, I, rfl, q⟩
  | cons r1 rr =>
    exact SeqAt.eq_list_lengthsAt pl.isList pl2.isList (by simp) hu' ⟨.bl false, H, I, rfl, q⟩
/-! ### words, names, leaves -/
def lower (c : Nat) : Bool := decide (97 ≤ c) && decide (c ≤ 122)
def shown (c : Nat) : Bool := decide (32 ≤ c) && decide (c ≤ 126)
def wordS (x : Str) : Bool := (decide (1 ≤ x.length) && decide (x.length ≤ 8)) && x.cps.toList.all lower
def wordsL : List Str := ["null", "yes", "no", "each", "none", "fail", "try", "other", "if", "then", "else", "end", "when", "as", "catch", "reduce", "first", "take", "fails", "def", "in", "change", "drop", "places", "add", "append", "is", "equal", "at", "and", "or", "not"]
def sortsL : List Str := ["null", "no", "yes", "number", "text", "list", "dict"]
def wordD : Dt → Bool
  | .str x => wordS x
  | _ => false
def freeD : Dt → Bool
  | .str x => wordS x && !decide (x ∈ wordsL)
  | _ => false
def leafD : Dt → Bool
  | .non => true
  | .bl _ => true
  | .int i => decide (-(10 ^ 30) ≤ i) && decide (i ≤ 10 ^ 30)
  | .str x => decide (x.length ≤ 200) && x.cps.toList.all shown
  | _ => false
def wholeD : Dt → Bool
  | .int i => decide (0 ≤ i) && decide (i ≤ 99)
  | _ => false
def sortD : Dt → Bool
  | .str x => decide (x ∈ sortsL)
  | _ => false
theorem low_mem (c : Nat) : decide (c ∈ ("abcdefghijklmnopqrstuvwxyz" : Str).cps.toList) = lower c := by
  have e : ("abcdefghijklmnopqrstuvwxyz" : Str).cps.toList = (List.range 26).map (97 + ·) := by decide +kernel
  rw [e, Bool.eq_iff_iff, decide_eq_true_eq]
  unfold lower
  rw [Bool.and_eq_true, decide_eq_true_eq, decide_eq_true_eq, List.mem_map]
  constructor
  · rintro ⟨k, hk, rfl⟩
    rw [List.mem_range] at hk
    omega
  · intro h
    exact ⟨c - 97, by rw [List.mem_range]; omega, by omega⟩
theorem all_range {α : Type} (xs : List α) (p : α → Bool) (f : Nat → Bool) (h : ∀ i (hi : i < xs.length), f i = p xs[i]) : (List.range xs.length).all f = xs.all p := by
  rw [Bool.eq_iff_iff, List.all_eq_true, List.all_eq_true]
  constructor
  · intro z x hx
    obtain ⟨i, hi, rfl⟩ := List.getElem_of_mem hx
    rw [← h i hi]
    exact z i (List.mem_range.mpr hi)
  · intro z i hi
    rw [List.mem_range] at hi
    rw [h i hi]
    exact z _ (List.getElem_mem hi)
/-- the i-th sign -/
def sg (x : Str) (i : Nat) : Nat := x.cps.toList.getD i 0
theorem sg_of {x : Str} {i c : Nat} (h : x.cps[i]? = some c) : sg x i = c := by
  unfold sg
  rw [List.getD_eq_getElem?_getD, Array.getElem?_toList, h]
  rfl
theorem all_sg (x : Str) (p : Nat → Bool) : ((List.range x.cps.size).all fun i => p (sg x i)) = x.cps.toList.all p := by
  have e : x.cps.size = x.cps.toList.length := by simp
  rw [e]
  refine all_range _ p _ fun i hi => ?_
  unfold sg
  rw [List.getD_eq_getElem?_getD, List.getElem?_eq_getElem hi]
  rfl
/-- a question about one value -/
def spM (K : PySem.W.Frag) (m : Dt → Bool) : Sp := fun vs H Q _ => ∃ v t, vs = [v] ∧ Dv K H v t ∧ okd 300 t = true ∧ ∀ H', Same H H' → Q (.bl (m t)) H'
abbrev sWordL : Stmt := top 52
abbrev sFreeL : Stmt := top 53
abbrev sLeafL : Stmt := top 54
abbrev sWholeL : Stmt := top 55
section
variable {P : Program} {w : World} {K : PySem.W.Frag} {mg : Str → Option Value} {base : Heap}
theorem scWd : FnScope ["_law_x", "_law_sign"] ["_law_x"] (defScope sWordL) := ⟨rfl, rfl, rfl, by decide +kernel, rfl, by decide +kernel, by decide +kernel⟩
theorem scFrL : FnScope ["_law_x", "_law_words"] ["_law_x"] (defScope sFreeL) := ⟨rfl, rfl, rfl, by decide +kernel, rfl, by decide +kernel, by decide +kernel⟩
theorem scLfL : FnScope ["_law_x", "_law_sign"] ["_law_x"] (defScope sLeafL) := ⟨rfl, rfl, rfl, by decide +kernel, rfl, by decide +kernel, by decide +kernel⟩
theorem scWhL : FnScope ["_law_x", "_law_most"] ["_law_x", "_law_most"] (defScope sWholeL) := ⟨rfl, rfl, rfl, by decide +kernel, rfl, by decide +kernel, by decide +kernel⟩
theorem ok_wordL {f : Addr} {fd : FuncData} (F : Fun K "_law_is_word" "_law_is_word" sWordL f fd) (mI : mg "isinstance" = none) (mS : mg "str" = none) (mLen : mg "len" = none) : FnOk P w K mg base CX0 1 f fd ["_law_x"] (spM K wordD) := by
  refine F.ok scWd (fun vs H Q E h => ?_) (fun cdv A outer s H vs Q E hr h => ?_)
  · obtain ⟨v, t, rfl, _⟩ := h
    rfl
  · obtain ⟨v, t, rfl, hv, hok, q⟩ := h
    have hu := hr.units
    refine ⟨_, pss_cons (ps_if (PW.pt (pw_or (pt_not (pt_val (pe_callB call_isi (by rfl) mI PyProof.Rows.boot_isinstance (pa_cons (pv 0) (pa_cons (pe_bltn (v := .ty "str") (by rfl) mS (by decide +kernel) rfl) pa_nil)))))
          (pw_or1 (pt_not (pt_chain op_le op_le pe_int (pe_callB call_len_str (by rfl) mLen PySem.boot_len (pa_cons (pv 0) pa_nil)) pe_int))))) (pss_one (ps_ret pe_bl)) pss_nil)
      (pss_one (ps_ret (pe_cmpR (op_eqE hu) (pe_lc (own := [("_law_sign", 1)]) (g := gName 1) (te := tVar 1) (by rfl) scWd.nd (pi_str (pv 0))
        (blkOk_by (own := [("_law_sign", 1)]) (N := ["_law_x", "_law_sign"]) (sc := defScope sWordL) (by decide +kernel)) (fun _ _ _ _ _ => pg_name (i := 1) scWd.nd rfl (Or.inl rfl))
        (fun _ _ _ _ _ => pts_one (pt_cmpR op_notInS (pv 1) pe_str (by with_unfolding_all rfl))) (fun _ _ _ _ _ => pv 1)) (pe_lst pa_nil) (nomark _)))), ?_⟩
    refine ⟨_, rfl, isS hv ⟨_, rfl, ?_⟩⟩
    cases hv with
    | str x =>
      have hok : okK x = true := by simpa [okd] using hok
      refine iteF ⟨_, rfl, x, rfl, few (okK_2 hok), 1, _, rfl, rfl, _, rfl, ?_⟩
      have eS : wordD (.str x) = ((decide (1 ≤ x.length) && decide (x.length ≤ 8)) && x.cps.toList.all lower) := rfl
      have e1 : decide ((1 : Int) ≤ (x.length : Int)) = decide (1 ≤ x.length) := decide_eq_decide.mpr (by omega)
      have e2 : decide ((x.length : Int) ≤ 8) = decide (x.length ≤ 8) := decide_eq_decide.mpr (by omega)
      rw [eS] at q
      refine ite2 (fun c => ?_) (fun c => ?_)
      · have c := e1.symm.trans c
        rw [c, Bool.true_and] at q
        refine ⟨_, _, rfl, rfl, _, rfl, ?_⟩
        refine ite2 (fun c2 => ?_) (fun c2 => ?_)
        · have c2 : decide ((x.length : Int) ≤ 8) = false := by simpa using c2
          rw [e2.symm.trans c2, Bool.false_and] at q
          exact q H same_id
        have c2 : decide ((x.length : Int) ≤ 8) = true := by simpa using c2
        rw [e2.symm.trans c2, Bool.true_and] at q
        have h8 : x.length ≤ 8 := of_decide_eq_true (e2.symm.trans c2)
        have h8' : x.cps.size ≤ 8 := h8
        refine ⟨_, rfl, x, rfl, fun D nD => ?_⟩
        refine lc_none walk_str (fun i => !lower (sg x i)) (by omega) nD (fun _ _ => trivial) (fun _ _ _ _ y => y.1) ?_ ?_
        · rintro i y H2 P1 P0 hi s2 ⟨_, c3, hc, rfl⟩ h1 h0
          refine ⟨rfl, _, rfl, c3, _, rfl, rfl, _, rfl, ?_⟩
          rw [low_mem]
          have e := sg_of hc
          rw [e] at h1 h0
          refine ite2 (fun c4 => ⟨_, rfl, h1 c4 _ _ same_id⟩) (fun c4 => h0 (by simpa using c4) _ same_id)
        · intro H2 acc s2 hD ha
          refine ⟨few (by show 0 ≤ 1000; decide), fun T nT => ⟨D, T, acc, rfl, rfl, (upd_ne (ne_of_none hD nT)).trans hD, upd_same, ?_⟩⟩
          rw [ha]
          have := all_sg x lower
          simp only [Bool.not_not]
          rw [this]
          exact q _ (same_new s2 nT)
      · have c : decide (1 ≤ x.length) = false := by rw [← e1]; simpa using c
        rw [c, Bool.false_and, Bool.false_and] at q
        exact ⟨_, rfl, iteT (q H same_id)⟩
    | non => exact iteT (iteT (q H same_id))
    | bl b => exact iteT (iteT (q H same_id))
    | int i => exact iteT (iteT (q H same_id))
    | tup _ _ => exact iteT (iteT (q H same_id))
    | lst _ => exact iteT (iteT (q H same_id))
    | dct _ => exact iteT (iteT (q H same_id))
end
end Toy


namespace Toy
open PySem PySem.Spec L2 PyProof.Rows PySem.W
theorem lt1 (a c : Nat) : decide ([a] < [c]) = decide (a < c) := by
  refine decide_eq_decide.mpr ⟨fun h => ?_, fun h => .rel h⟩
  cases h with
  | rel h => exact h
  | cons h => cases h
theorem shown_le (c : Nat) : (!decide ((⟨#[c]⟩ : Str).cps.toList < (" " : Str).cps.toList)) = decide (32 ≤ c) := by
  show (!decide ([c] < [32])) = _
  rw [lt1, Bool.eq_iff_iff]
  simp
theorem shown_ge (c : Nat) : (!decide (("~" : Str).cps.toList < (⟨#[c]⟩ : Str).cps.toList)) = decide (c ≤ 126) := by
  show (!decide ([126] < [c])) = _
  rw [lt1, Bool.eq_iff_iff]
  simp
theorem inV_strs (x : Str) : ∀ ks : List Str, inV (.str x) (ks.map V.str) = decide (x ∈ ks)
  | [] => by simp [inV]
  | k :: ks => by
    have ih := inV_strs x ks
    unfold inV at ih ⊢
    rw [List.map_cons, List.any_cons, ih]
    show ((k == x) || decide (x ∈ ks)) = _
    rw [Bool.eq_iff_iff, Bool.or_eq_true, beq_iff_eq, decide_eq_true_iff, decide_eq_true_iff, List.mem_cons]
    exact ⟨fun h => h.imp Eq.symm id, fun h => h.imp Eq.symm id⟩
theorem flat_strs (ks : List Str) : (ks.map V.str).all flatV = true := by
  rw [List.all_eq_true]
  intro v hv
  obtain ⟨k, _, rfl⟩ := List.mem_map.mp hv
  rfl
theorem split_words : Txt.split (("null yes no each none fail try other if then else end when as catch reduce first take fails def in" : Str) ++ (" change drop places add append is equal at and or not" : Str)) (" " : Str) = wordsL := by decide +kernel
section
variable {P : Program} {w : World} {K : PySem.W.Frag} {mg : Str → Option Value} {base : Heap}
theorem ok_freeL {f fW : Addr} {fd fdW : FuncData} (F : Fun K "_law_is_free" "_law_is_free" sFreeL f fd) (GW : FnOk P w K mg base CX0 1 fW fdW ["_law_x"] (spM K wordD)) (mW : mg "_law_is_word" = some (.ref fW)) (kW : PySem.W.keepIn K (.ref fW) = true) (bW : Binds K fdW ["_law_x"] []) : FnOk P w K mg base CX0 2 f fd ["_law_x"] (spM K freeD) := by
  refine F.ok scFrL (fun vs H Q E h => ?_) (fun cdv A outer s H vs Q E hr h => ?_)
  · obtain ⟨v, t, rfl, _⟩ := h
    rfl
  · obtain ⟨v, t, rfl, hv, hok, q⟩ := h
    refine ⟨_, pss_cons (ps_set (i := 1) scFrL.nd rfl (Or.inl rfl) pe_str) (pss_one (ps_ret (pe_and (pe_call GW hr (by rfl) mW kW bW .nil pass0 (pa_cons (pv 0) pa_nil)) (pe_one (pe_cmpR op_notIn_seq (pv 0) (pe_split (pe_op op_add_str (pv 1) pe_str) pe_str) (by rfl)))))), ?_⟩
    refine asg_run (ret_run ⟨_, rfl, v, t, rfl, hv, hok, fun H1 s1 => ⟨_, rfl, ?_⟩⟩)
    cases hv with
    | str x =>
      have e : freeD (.str x) = (wordS x && !decide (x ∈ wordsL)) := rfl
      rw [e] at q
      cases hw : wordS x with
      | false =>
        rw [hw, Bool.false_and] at q
        rw [show wordD (.str x) = false from hw]
        exact iteF (q H1 s1)
      | true =>
        rw [hw, Bool.true_and] at q
        rw [show wordD (.str x) = true from hw]
        refine iteT ⟨_, rfl, _, rfl, _, _, rfl, rfl, few (by decide +kernel), ⟨_, rfl⟩, _, _, rfl, rfl, by decide +kernel, few (by decide +kernel), fun p np => ?_⟩
        refine ⟨p, wordsL.map V.str, rfl, .inl (SqL.of (by rw [upd_same, split_words])), rfl, flat_strs _, ?_⟩
        show Q (.bl (!inV (.str x) (wordsL.map V.str))) _
        rw [inV_strs]
        exact q _ (same_new s1 np)
    | non => exact iteF (q H1 s1)
    | bl b => exact iteF (q H1 s1)
    | int i => exact iteF (q H1 s1)
    | tup _ _ => exact iteF (q H1 s1)
    | lst _ => exact iteF (q H1 s1)
    | dct _ => exact iteF (q H1 s1)
theorem ok_leafL {f : Addr} {fd : FuncData} (F : Fun K "_law_is_leaf" "_law_is_leaf" sLeafL f fd) (mI : mg "isinstance" = none) (mS : mg "str" = none) (mB : mg "bool" = none) (mN : mg "int" = none) (mLen : mg "len" = none) (mAbs : mg "abs" = none) : FnOk P w K mg base CX0 1 f fd ["_law_x"] (spM K leafD) := by
  refine F.ok scLfL (fun vs H Q E h => ?_) (fun cdv A outer s H vs Q E hr h => ?_)
  · obtain ⟨v, t, rfl, _⟩ := h
    rfl
  · obtain ⟨v, t, rfl, hv, hok, q⟩ := h
    have hu := hr.units
    refine ⟨_, pss_cons (ps_if (pt_val (pe_callB call_isi (by rfl) mI PyProof.Rows.boot_isinstance (pa_cons (pv 0) (pa_cons (pe_bltn (v := .ty "str") (by rfl) mS (by decide +kernel) rfl) pa_nil))))
        (pss_one (ps_ret (pe_and (pe_cmpR op_le (pe_callB call_len_str (by rfl) mLen PySem.boot_len (pa_cons (pv 0) pa_nil)) pe_int (nomark _)) (pe_one (pe_cmpR (op_eqE hu) (pe_lc (own := [("_law_sign", 1)]) (g := gName 1) (te := tVar 1) (by rfl) scLfL.nd (pi_str (pv 0))
        (blkOk_by (own := [("_law_sign", 1)]) (N := ["_law_x", "_law_sign"]) (sc := defScope sLeafL) (by decide +kernel)) (fun _ _ _ _ _ => pg_name (i := 1) scLfL.nd rfl (Or.inl rfl))
        (fun _ _ _ _ _ => pts_one (pt_not (pt_chain op_le_str op_le_str pe_str (pv 1) pe_str))) (fun _ _ _ _ _ => pv 1)) (pe_lst pa_nil) (nomark _)))))) pss_nil)
      (pss_one (ps_ret (pe_or (pe_cmpR op_isN (pv 0) pe_non (nomark _)) (pe_or (pe_callB call_isi (by rfl) mI PyProof.Rows.boot_isinstance (pa_cons (pv 0) (pa_cons (pe_bltn (v := .ty "bool") (by rfl) mB (by decide +kernel) rfl) pa_nil)))
        (pe_one (pe_and (pe_callB call_isi (by rfl) mI PyProof.Rows.boot_isinstance (pa_cons (pv 0) (pa_cons (pe_bltn (v := .ty "int") (by rfl) mN (by decide +kernel) rfl) pa_nil))) (pe_one (pe_cmpR op_le (pe_callB call_abs (by rfl) mAbs (by decide +kernel) (pa_cons (pv 0) pa_nil)) (pe_op op_pow pe_int pe_int) (nomark _))))))))), ?_⟩
    refine ⟨_, rfl, isS hv ⟨_, rfl, ?_⟩⟩
    cases hv with
    | str x =>
      have hok : okK x = true := by simpa [okd] using hok
      have eS : leafD (.str x) = (decide (x.length ≤ 200) && x.cps.toList.all shown) := rfl
      have e2 : decide ((x.length : Int) ≤ 200) = decide (x.length ≤ 200) := decide_eq_decide.mpr (by omega)
      rw [eS] at q
      refine iteT ⟨_, rfl, x, rfl, few (okK_2 hok), _, _, rfl, rfl, _, rfl, ?_⟩
      refine ite2 (fun c => ?_) (fun c => ?_)
      · have c := e2.symm.trans c
        rw [c, Bool.true_and] at q
        have h8' : x.cps.size ≤ 200 := of_decide_eq_true c
        refine ⟨_, rfl, x, rfl, fun D nD => ?_⟩
        refine lc_none walk_str (fun i => !shown (sg x i)) (by omega) nD (fun _ _ => trivial) (fun _ _ _ _ y => y.1) ?_ ?_
        · rintro i y H2 P1 P0 hi s2 ⟨_, c3, hc, rfl⟩ h1 h0
          have e := sg_of hc
          rw [e] at h1 h0
          refine ⟨rfl, _, rfl, _, _, rfl, rfl, _, rfl, ?_⟩
          rw [shown_le]
          unfold shown at h1 h0
          refine ite2 (fun c4 => ?_) (fun c4 => ?_)
          · rw [c4, Bool.true_and] at h1 h0
            refine ⟨_, _, rfl, rfl, _, rfl, ?_⟩
            rw [shown_ge]
            exact ite2 (fun c5 => ⟨_, rfl, h1 c5 _ _ same_id⟩) (fun c5 => h0 (by simpa using c5) _ same_id)
          · have c4 : decide (32 ≤ c3) = false := by simpa using c4
            rw [c4, Bool.false_and] at h1 h0
            exact ⟨_, rfl, ite2 (fun c5 => ⟨_, rfl, h1 c5 _ _ same_id⟩) (fun c5 => h0 (by simpa using c5) _ same_id)⟩
        · intro H2 acc s2 hD ha
          refine ⟨few (by show 0 ≤ 1000; decide), fun T nT => ⟨D, T, acc, rfl, rfl, (upd_ne (ne_of_none hD nT)).trans hD, upd_same, ?_⟩⟩
          rw [ha]
          have := all_sg x shown
          simp only [Bool.not_not]
          rw [this]
          exact q _ (same_new s2 nT)
      · have c : decide (x.length ≤ 200) = false := by rw [← e2]; simpa using c
        rw [c, Bool.false_and] at q
        exact q H same_id
    | non => exact iteF ⟨_, rfl, rfl, _, rfl, iteT (q H same_id)⟩
    | bl b => exact iteF ⟨_, rfl, rfl, _, rfl, iteF ⟨_, rfl, isB (.bl b) ⟨_, rfl, iteT (q H same_id)⟩⟩⟩
    | int i =>
      refine iteF ⟨_, rfl, rfl, _, rfl, iteF ⟨_, rfl, isB (.int i) ⟨_, rfl, iteF ⟨_, rfl, isI (.int i) ⟨_, rfl, iteT ⟨_, rfl, i, rfl, _, _, rfl, rfl, ⟨by decide, by decide, by decide⟩, _, _, rfl, rfl, ?_⟩⟩⟩⟩⟩⟩
      have e : leafD (.int i) = decide ((if i < 0 then -i else i) ≤ 10 ^ 30) := by
        show (decide (-(10 ^ 30) ≤ i) && decide (i ≤ 10 ^ 30)) = _
        rw [Bool.eq_iff_iff, Bool.and_eq_true, decide_eq_true_eq, decide_eq_true_eq, decide_eq_true_eq]
        split <;> omega
      rw [e] at q
      exact q H same_id
    | tup hs ha => exact iteF ⟨_, rfl, rfl, _, rfl, iteF ⟨_, rfl, isB (.tup hs ha) ⟨_, rfl, iteF ⟨_, rfl, isI (.tup hs ha) ⟨_, rfl, iteF (q H same_id)⟩⟩⟩⟩⟩
    | lst hs => exact iteF ⟨_, rfl, rfl, _, rfl, iteF ⟨_, rfl, isB (.lst hs) ⟨_, rfl, iteF ⟨_, rfl, isI (.lst hs) ⟨_, rfl, iteF (q H same_id)⟩⟩⟩⟩⟩
    | dct hs => exact iteF ⟨_, rfl, rfl, _, rfl, iteF ⟨_, rfl, isB (.dct hs) ⟨_, rfl, iteF ⟨_, rfl, isI (.dct hs) ⟨_, rfl, iteF (q H same_id)⟩⟩⟩⟩⟩
def spWh (K : PySem.W.Frag) : Sp := fun vs H Q _ => ∃ v t, vs = [v, .int 99] ∧ Dv K H v t ∧ ∀ H', Same H H' → Q (.bl (wholeD t)) H'
theorem ok_wholeL {f : Addr} {fd : FuncData} (F : Fun K "_law_is_whole" "_law_is_whole" sWholeL f fd) (mI : mg "isinstance" = none) (mB : mg "bool" = none) (mN : mg "int" = none) : FnOk P w K mg base CX0 1 f fd ["_law_x", "_law_most"] (spWh K) := by
  refine F.ok scWhL (fun vs H Q E h => ?_) (fun cdv A outer s H vs Q E hr h => ?_)
  · obtain ⟨v, t, rfl, _⟩ := h
    rfl
  · obtain ⟨v, t, rfl, hv, q⟩ := h
    refine ⟨_, pss_one (ps_ret (pe_and (pe_callB call_isi (by rfl) mI PyProof.Rows.boot_isinstance (pa_cons (pv 0) (pa_cons (pe_bltn (v := .ty "int") (by rfl) mN (by decide +kernel) rfl) pa_nil)))
      (pe_and (pe_not (pe_callB call_isi (by rfl) mI PyProof.Rows.boot_isinstance (pa_cons (pv 0) (pa_cons (pe_bltn (v := .ty "bool") (by rfl) mB (by decide +kernel) rfl) pa_nil)))) (pe_one (pe_chain op_le op_le pe_int (pv 0) (pv 1)))))), ?_⟩
    refine ⟨_, rfl, isI hv ⟨_, rfl, ?_⟩⟩
    cases hv with
    | int i =>
      refine iteT ⟨_, rfl, isB (.int i) ⟨_, rfl, _, rfl, iteT ⟨_, rfl, _, _, rfl, rfl, _, rfl, ?_⟩⟩⟩
      have e : wholeD (.int i) = (decide (0 ≤ i) && decide (i ≤ 99)) := rfl
      rw [e] at q
      refine ite2 (fun c => ?_) (fun c => ?_)
      · rw [c, Bool.true_and] at q
        exact ⟨_, rfl, _, _, rfl, rfl, q H same_id⟩
      · have c : decide (0 ≤ i) = false := by simpa using c
        rw [c, Bool.false_and] at q
        exact q H same_id
    | bl b => exact iteT ⟨_, rfl, isB (.bl b) ⟨_, rfl, _, rfl, iteF (q H same_id)⟩⟩
    | str x => exact iteF (q H same_id)
    | non => exact iteF (q H same_id)
    | tup _ _ => exact iteF (q H same_id)
    | lst _ => exact iteF (q H same_id)
    | dct _ => exact iteF (q H same_id)
end
end Toy


namespace Toy
open PySem L2
section
variable {P : Program} {w : World} {A : Around} {E : Value → Shared → Prop} {s : Shared}
theorem dictPut_pairs {d : Addr} {kvs : List (Key × Value)} {k : Key} {key v : Value} {Q : Unit → Shared → Prop} (hkey : (mixKind P w).is k key = true) (hm : s.heap.DictOf (mixKind P w) d kvs)
    (hQ : ∀ h', h'.DictOf (mixKind P w) d (stored kvs k v) → Heap.SameBut d s.heap h' → Q () { s with heap := h' })
    (hsz : kvs.length ≤ sizeLine) :
    wpAny (model P w) A (dictPut d ((mixKind P w).hash k) key v) Q E s := by
  obtain ⟨o, es, ep, ho, hc, hd, hk, hp, hn⟩ := hm
  have hes : es.size ≤ sizeLine := by
    have e1 := hp.length
    have e2 : es.toList.length = es.size := by simp
    omega
  unfold dictPut
  refine wpAny_bind (wpAny_dictFind_of hkey ho hd hk ?_)
  have hidx : (es.findIdx? fun e => (mixKind P w).is k e.key) = kvs.findIdx? fun kv => decide (kv.1 = k) := by
    rw [← hp.findIdx k]; obtain ⟨l⟩ := es; simp
  cases hi : es.findIdx? fun e => (mixKind P w).is k e.key with
  | some i =>
    refine wpAny_updateDict ho hd (hQ _ ⟨_, _, ep, Heap.get?_update_self _ ho (Obj.isFreed_of_dict (Obj.data_mapDict hd _)),
      hc.mapDict _, Obj.data_mapDict hd _, hk.modify _ _, ?_, ?_⟩ (Heap.SameBut.update ..))
    · rw [stored, if_pos (any_of_findIdx_some (hidx ▸ hi))]
      have hl : (es.toList.findIdx? fun e => (mixKind P w).is k e.key) = some i := by rw [← hi]; obtain ⟨l⟩ := es; simp
      have := hp.modify hn hl v
      obtain ⟨l⟩ := es
      simpa using this
    · rw [stored, if_pos (any_of_findIdx_some (hidx ▸ hi)), keys_map_store]; exact hn
  | none =>
    have hnot : k ∉ kvs.map (·.1) := not_mem_of_findIdx_none (hidx ▸ hi)
    have hany : ¬ (kvs.any fun kv => decide (kv.1 = k)) = true := by
      rw [List.any_eq_true]; rintro ⟨kv, hkv, he⟩
      exact hnot (List.mem_map.mpr ⟨kv, hkv, of_decide_eq_true he⟩)
    refine wpAny_updateDictKeys (hz := hes) ho hd (hQ _ ⟨_, _, ep + 1, Heap.get?_update_self _ ho (Obj.isFreed_of_dict (Obj.data_mapDictKeys hd _)),
      hc.mapDictKeys _, Obj.data_mapDictKeys hd _, hk.push hkey _, ?_, ?_⟩ (Heap.SameBut.update ..))
    · rw [stored, if_neg hany]
      have := hp.append hkey ((mixKind P w).hash k) v
      obtain ⟨l⟩ := es
      simpa using this
    · rw [stored, if_neg hany, List.map_append, List.nodup_append]
      refine ⟨hn, by simp, ?_⟩
      intro a ha b hb
      simp only [List.map_cons, List.map_nil, List.mem_singleton] at hb
      subst hb
      exact fun e => hnot (e ▸ ha)
theorem mergeMap {d o : Addr} {kvs more : List (Key × Value)} {Q : Unit → Shared → Prop} (hdo : d ≠ o) (hoS : (o == sysModules) = false)
    (hd : s.heap.DictOf (mixKind P w) d kvs) (ho : s.heap.DictOf (mixKind P w) o more)
    (hQ : ∀ h', h'.DictOf (mixKind P w) d (merged kvs more) → h'.DictOf (mixKind P w) o more → Heap.SameBut d s.heap h' → Q () { s with heap := h' })
    (hsz : kvs.length + more.length ≤ sizeLine) :
    wpAny (model P w) A (mergeMapping d (.ref o) false) Q E s := by
  obtain ⟨od, esd, epd, hod, hcd, hdd, hkd, hpd, hnd⟩ := id hd
  obtain ⟨oo, eso, epo, hoo, hco, hdo', hko, hpo, hno⟩ := id ho
  unfold mergeMapping
  have hlen : more.length = eso.size := by rw [← hpo.length]; simp
  refine wpAny_bind (wpAny_isInstance ho.typeIs isSubtype_dict_dict ?_)
  rw [if_pos rfl]
  refine wpAny_bind (wpAny_specialOf ho.typeIs F.slot_dict_iter.lookup (wpAny_bind (wpAny_pure ?_)))
  rw [beq_self_eq_true]
  dsimp only
  rw [if_neg (by rw [hoS]; exact Bool.false_ne_true)]
  have loop : wpAny (model P w) A (do
      let l ← dictEntries o
      let epoch ← dictEpoch o
      forIn (List.range l.size) PUnit.unit fun i (_ : PUnit) => (do
          let l' ← dictEntries o
          match l'[i]? with
            | some e => do
              holding [e.key, e.val] (dictPut d e.hash e.key e.val)
              let ep' ← dictEpoch o
              if (ep' != epoch) = true then do
                  (unsupported "dict.changed-during-merge" : Sem PUnit)
                  pure (ForInStep.yield PUnit.unit)
                else pure (ForInStep.yield PUnit.unit)
            | _ => do
              (unsupported "dict.changed-during-merge" : Sem PUnit)
              pure (ForInStep.yield PUnit.unit) : Sem (ForInStep PUnit))
      pure ()) Q E s := by
    refine wpAny_bind (wpAny_dictEntries hoo hdo' ?_)
    refine wpAny_bind (wpAny_dictEpoch hoo hdo' ?_)
    refine wpAny_bind ?_
    rw [List.range_eq_range']
    refine wpAny_forIn_list _
      (fun rest _ s' => ∃ h' i, s' = { s with heap := h' } ∧ rest = List.range' i (eso.size - i) ∧ i ≤ eso.size ∧ h'.DictOf (mixKind P w) d (merged kvs (more.take i)) ∧ h'.get? o = some oo ∧ Heap.SameBut d s.heap h')
      _ ?_ ?_ _ _ ⟨s.heap, 0, rfl, by simp, Nat.zero_le _, by simpa [merged] using hd, hoo, Heap.SameBut.refl _ _⟩
    · rintro x rest b s' ⟨h', i, rfl, hr, hi, hd', hoo', hs'⟩
      have hlt : i < eso.size := by
        rcases Nat.lt_or_ge i eso.size with h | h
        · exact h
        · rw [Nat.sub_eq_zero_of_le h] at hr; simp at hr
      obtain ⟨rfl, hrest⟩ : x = i ∧ rest = List.range' (i + 1) (eso.size - (i + 1)) := by
        have e : eso.size - i = (eso.size - (i + 1)) + 1 := by omega
        rw [e, List.range'_succ] at hr
        injection hr with h1 h2
        exact ⟨h1, h2⟩
      refine wpAny_bind (wpAny_dictEntries hoo' hdo' ?_)
      rw [Array.getElem?_eq_getElem hlt]
      obtain ⟨kv, hkv⟩ : ∃ kv, more[x]? = some kv := ⟨more[x]'(by rw [hlen]; exact hlt), List.getElem?_eq_getElem _⟩
      obtain ⟨k, v⟩ := kv
      obtain ⟨hkey, hval⟩ := hpo.get? (e := eso[x]) (by simp [hlt]) hkv
      obtain ⟨k', hkey', hhash⟩ := hko eso[x] (Array.getElem_mem hlt)
      obtain rfl : k' = k := (mixKind P w).inj _ _ _ hkey' hkey
      show wpAny _ _ (holding [eso[x].key, eso[x].val] (dictPut d eso[x].hash eso[x].key eso[x].val) >>= _) _ _ _
      rw [hhash, hval]
      have hmx : (merged kvs (more.take x)).length ≤ sizeLine := by
        have e1 := merged_length_le kvs (more.take x)
        have e2 : (more.take x).length ≤ more.length := by rw [List.length_take]; omega
        omega
      refine wpAny_bind (wpAny_holding (dictPut_pairs (hsz := hmx) hkey hd' fun h'' hd'' hs'' => ?_))
      have hoo'' : h''.get? o = some oo := (hs''.2 o (Ne.symm hdo)).trans hoo'
      refine wpAny_bind (wpAny_dictEpoch hoo'' hdo' ?_)
      rw [if_neg (by simp)]
      exact wpAny_pure ⟨h'', x + 1, rfl, hrest, hlt, by rw [merged_take_succ kvs more x (k', v) hkv]; exact hd'', hoo'', hs'.trans hs''⟩
    · rintro b s' ⟨h', i, rfl, hr, hi, hd', hoo', hs'⟩
      have hin : i = eso.size := by
        rcases Nat.lt_or_ge i eso.size with h | h
        · have e : eso.size - i = (eso.size - (i + 1)) + 1 := by omega
          rw [e, List.range'_succ] at hr; exact nomatch hr
        · exact Nat.le_antisymm hi h
      refine wpAny_pure (hQ h' ?_ ⟨oo, eso, epo, hoo', hco, hdo', hko, hpo, hno⟩ hs')
      rw [hin, ← hlen, List.take_length] at hd'; exact hd'
  refine wpAny_bind (wpAny_dictEntries hod hdd ?_)
  split
  · refine wpAny_bind (wpAny_dictEntries hoo hdo' ?_)
    refine wpAny_bind ?_
    rw [← Array.forIn_toList]
    refine wpAny_forIn_list _ (fun rest _ s' => s' = s ∧ ∀ e ∈ rest, e ∈ eso.toList) _ ?_ ?_ _ _ ⟨rfl, fun _ h => h⟩
    · rintro x rest b s' ⟨rfl, hr⟩
      obtain ⟨k', hkey', _⟩ := hko x (Array.mem_toList_iff.mp (hr x List.mem_cons_self))
      rcases keyIs_shape hkey' with ⟨i, t, e1, e⟩ | ⟨y, t, e1, e⟩
      · rw [e]
        exact wpAny_pure ⟨rfl, fun e he => hr e (List.mem_cons_of_mem _ he)⟩
      · rw [e]
        exact wpAny_pure ⟨rfl, fun e he => hr e (List.mem_cons_of_mem _ he)⟩
    · rintro b s' ⟨rfl, _⟩
      exact loop
  · exact loop
end
end Toy


namespace Toy
open PySem L2
theorem star_two (m k v : Sem Value) : dictDisplay [(none, m), (some k, v)] = (do
    let d ← alloc { cls := .type "dict", data := .dict #[] }
    let x ← holding [.ref d] m
    (((holding [.ref d, x] (mergeMapping d x false)).onRaise fun y => do let _ ← holding [.ref d, x, y] (runValue (.builtin "proto.let_go" {}))).tryCatch fun e => do
        if ← isInstance e (.type "AttributeError") then
          rule "dict.display.not-a-mapping"; raiseError "TypeError" s!"'{← typeNameOf x}' object is not a mapping"
        throw e).onRaise fun y => do let _ ← holding [.ref d, y] (runValue (.builtin "proto.let_go" {}))
    let sub ← holding [.ref d] (subDict [(k, v)])
    (holding [.ref d, .ref sub] (mergeMapping d (.ref sub) false)).onRaise fun x => do let _ ← holding [.ref d, x] (runValue (.builtin "proto.let_go" {}))
    pure (.ref d)) := by
  unfold dictDisplay
  dsimp only
  rw [List.forIn_cons]
  simp only [List.isEmpty_nil, if_true, pure_bind, bind_assoc, List.forIn_cons, List.forIn_nil, List.nil_append, List.length_singleton, List.isEmpty_cons, show ((1 : Nat) == 17) = false from rfl, Bool.false_eq_true, if_false]
  try rfl
section
variable {X : Cx} {m k v : Expr} {tm tk tv : TE} {pos : Pos}
theorem KV.nd {P : Program} {w : World} {h : Heap} {a : Addr} {vs : List (Key × Value)} (d : h.DictOf (mixKind P w) a vs) : (vs.map (·.1)).Nodup := by
  obtain ⟨_, _, _, _, _, _, _, _, n⟩ := d
  exact n
/-- {**m, k: v}: the new dict, and the dict of the pair, which is put into it -/
def tStar (tm tk tv : TE) : TE := fun σ H Q => ∀ p, H p = none → tm σ (upd H p (.dK [])) fun x H1 => H1 p = some (.dK []) ∧ ∃ a more, x = .ref a ∧ a ≠ p ∧ H1 a = some (.dK more) ∧ ∀ q, (upd H1 p (.dK more)) q = none → tk σ (upd (upd H1 p (.dK more)) q (.dK [])) fun y H2 => tv σ H2 fun z H3 => H3 q = some (.dK []) ∧ ∃ k kvs, y = kV k ∧ H3 p = some (.dK kvs) ∧ p ≠ q ∧ kvs.length + 1 ≤ sizeLine ∧ Q (.ref p) (upd (upd H3 q (.dK [(k, z)])) p (.dK (putK kvs k z)))
theorem pe_star (hm : PE X m tm) (hk : PE X k tk) (hv : PE X v tv) : PE X (.Dict [none, some k] [m, v] pos) (tStar tm tk tv) := by
  refine ⟨fun pins s σ H Q I q => ?_⟩
  have hn := I.hok.fresh (Nat.le_refl s.heap.objs.size)
  have I1 := I.laid (a := s.heap.objs.size) (o := .dK []) (h' := s.heap.push { cls := .type "dict", data := .dict #[] }) (t' := s.toks) (fun _ _ q => Heap.get?_push_of_some _ q) (Nat.le_refl _) (dk_empty s.heap I.big)
  rw [arm_eval_Dict]
  refine wpAny_bind (wpAny_standAt ?_)
  show wpAny _ _ (dictDisplay [(none, do let x ← eval m X.env; standAt pos; pure x), (some (eval k X.env), do let x ← eval v X.env; standAt pos; pure x)]) _ _ _
  rw [star_two]
  refine wpAny_bind (wpAny_alloc ?_)
  refine wpAny_bind (wpAny_holding (wpAny_bind (thn (hm.run pins _ σ _ _ I1 (q _ hn)) fun u s1 ⟨x, H1, I2, rx, e1, a, more, ex, nap, ea, q1⟩ => wpAny_bind (wpAny_standAt (wpAny_pure ?_)))))
  subst ex
  obtain rfl : u = Value.ref a := rx
  obtain ⟨_, hd0, vs0, r0, d0⟩ := dk_of I2.hok e1
  cases r0
  obtain ⟨za, hda, vsa, ra, da⟩ := dk_of I2.hok ea
  have zl : vsa.length ≤ sizeLine := by rw [← ra.length]; exact za
  refine wpAny_bind (wpAny_onRaise (wpAny_tryCatch (wpAny_onRaise (wpAny_holding (mergeMap nap.symm hda d0 da (fun h' dp' da' hs => ?_) (by rw [List.length_nil]; omega))))))
  rw [merged_nil_of_nodup vsa (KV.nd da)] at dp'
  have he : ∃ q, h'.get? s.heap.objs.size = some q := let ⟨q, _, _, hq, _⟩ := dp'; ⟨q, hq⟩
  have I3 : Inv X pins σ (upd H1 s.heap.objs.size (.dK more)) { s1 with heap := h', toks := s1.toks } := d_write I2 (by rw [e1]; exact True.intro) hs he (dk_new za hd0 ra dp')
  have hn3 := I3.hok.fresh (Nat.le_refl h'.objs.size)
  have I4 := I3.laid (a := h'.objs.size) (o := .dK []) (h' := h'.push { cls := .type "dict", data := .dict #[] }) (t' := s1.toks) (fun _ _ q => Heap.get?_push_of_some _ q) (Nat.le_refl _) (dk_empty h' I3.big)
  refine wpAny_bind (wpAny_holding (wpAny_subDict (knd := mixKind X.prog X.w) (by show 1 ≤ 15; decide) (evalPairs_cons (thn (hk.run pins _ σ _ _ I4 (q1 _ hn3)) fun u2 s4 ⟨y, H2, I5, ry, q2⟩ => wpAny_bind (thn (hv.run pins _ σ _ _ I5 q2) fun u3 s5 ⟨z, H3, I6, rz, eq, kk, kvs, ey, ep, npq, zz, q3⟩ => wpAny_bind (wpAny_standAt (wpAny_pure (evalPairs_nil ?_))))))))
  subst ey
  obtain ⟨_, hq0, vq, rq, dq⟩ := dk_of I6.hok eq
  cases rq
  refine ⟨[(kk, u3)], ⟨kV_is ry, rfl, True.intro⟩, dq, fun h6 dq6 hs6 => ?_⟩
  have he6 : ∃ q, h6.get? h'.objs.size = some q := let ⟨q, _, _, hq, _⟩ := dq6; ⟨q, hq⟩
  have rk6 : KV [(kk, z)] [(kk, u3)] := .cons ⟨rfl, rz⟩ .nil
  have I7 : Inv X pins σ (upd H3 h'.objs.size (.dK [(kk, z)])) { s5 with heap := h6, toks := s5.toks + 1 } := d_write I6 (by rw [eq]; exact True.intro) hs6 he6 (dk_new (by rw [sizeLine_eq]; show 1 ≤ 16777216; omega) hq0 rk6 dq6)
  have ep7 : (upd H3 h'.objs.size (.dK [(kk, z)])) s.heap.objs.size = some (.dK kvs) := Eq.trans (upd_ne npq) ep
  obtain ⟨_, hp7, vp, rp, dp⟩ := dk_of I7.hok ep7
  obtain ⟨_, hq7, vq7, rq7, dq7⟩ := dk_of I7.hok upd_same
  have l7 : vq7.length = 1 := rq7.length.symm
  have lp : kvs.length = vp.length := rp.length
  refine wpAny_bind (wpAny_onRaise (wpAny_holding (mergeMap npq hq7 dp dq7 (fun h8 dp8 _ hs8 => wpAny_pure ?_) (by omega))))
  have he8 : ∃ q, h8.get? s.heap.objs.size = some q := let ⟨q, _, _, hq, _⟩ := dp8; ⟨q, hq⟩
  have lz : (putK kvs kk z).length ≤ sizeLine := by
    have := length_putK kvs kk z
    omega
  exact ⟨.ref s.heap.objs.size, _, d_write I7 (by rw [ep7]; exact True.intro) hs8 he8 (dk_new lz hp7 (rq7.merge rp) dp8), rfl, q3⟩
end
end Toy


namespace Toy
open PySem L2
/-- d.update(e), both dicts -/
def rDUpd : V → List V → Hp → VK → Prop := fun x vs H Q => ∃ (a b : Addr) (kvs more : List (Key × V)), x = .ref a ∧ vs = [.ref b] ∧ a ≠ b ∧ H a = some (.dK kvs) ∧ H b = some (.dK more) ∧ kvs.length + more.length ≤ sizeLine ∧ Q .non (upd H a (.dK (mergeK kvs more)))
theorem mtd_update {X : Cx} : MtR X "dict.update" rDUpd := by
  intro pins s σ H x vs v us Q I rx rv h
  obtain ⟨a, b, kvs, more, ex, ev, nab, ea, eb, z, q⟩ := h
  subst ex
  subst ev
  obtain rfl : v = Value.ref a := rx
  obtain ⟨u, eu, ru⟩ := vals1 rv
  subst eu
  obtain rfl : u = Value.ref b := ru
  obtain ⟨_, hda, va, ra, da⟩ := dk_of I.hok ea
  obtain ⟨_, hdb, vb, rb, db⟩ := dk_of I.hok eb
  have la : kvs.length = va.length := ra.length
  have lb : more.length = vb.length := rb.length
  refine call_meetsIn PySem.F.slot_dict_update da.typeIs PySem.F.entry_dict_update (PySem.F.args_dict_update_2 _ _) (meets_dict_update (mixKind X.prog X.w) a b nab hdb)
    ⟨va, vb, da, db, by omega, fun h' dd _ hs => ?_⟩
  have he : ∃ q, h'.get? a = some q := let ⟨q, _, _, hq, _⟩ := dd; ⟨q, hq⟩
  have lz : (mergeK kvs more).length ≤ sizeLine := by
    have := length_mergeK more kvs
    omega
  exact ⟨.non, _, d_write (t' := s.toks) I (by rw [ea]; exact True.intro) hs he (dk_new lz hda (rb.merge ra) dd), rfl, q⟩
end Toy


namespace Toy
open PySem PySem.Spec L2 PyProof.Rows PySem.W
abbrev sSlots : Stmt := top 50
abbrev sTSlots : Stmt := top 51
def slA : List (Str × Str) := [("same", ""), ("every", ""), ("none", ""), ("fail", ""), ("field", "k"), ("item", "i"), ("pipe", "ff"), ("both", "ff")]
def slB : List (Str × Str) := [("if", "tff"), ("try", "w"), ("other", "wf"), ("leaf", "x"), ("list", "f"), ("dict", "e"), ("sum", "ff"), ("less", "ff")]
def slC : List (Str × Str) := [("product", "ff"), ("alike", "ff"), ("before", "ff"), ("as", "fnf"), ("name", "n"), ("when", "fff"), ("catch", "ff")]
def slD : List (Str × Str) := [("reduce", "fnff"), ("first", "f"), ("take", "if"), ("fails", "f"), ("def", "npff"), ("call", "na"), ("places", "c")]
def slE : List (Str × Str) := [("change", "cf"), ("drop", "c"), ("add", "ckf"), ("append", "cf")]
def slT : List (Str × Str) := [("is", "s"), ("equal", "x"), ("at", "wt"), ("and", "tt"), ("or", "tt"), ("not", "t")]
def slF : List (Str × Str) := slA ++ (slB ++ (slC ++ (slD ++ slE)))
def kvO (xs : List (Str × Str)) : List (Key × V) := xs.map fun p => (.inr p.1, .str p.2)
def optS : Option Str → V
  | some x => .str x
  | none => .non
def spSlot (L : List (Str × Str)) : Sp := fun vs H Q _ => ∃ x : Str, vs = [.str x] ∧ ∀ H', Same H H' → Q (optS (L.lookup x)) H'
theorem valV_kvO (x : Str) : ∀ L : List (Str × Str), (valV (kvO L) (.inr x)).getD .non = optS (L.lookup x)
  | [] => rfl
  | (k, v) :: L => by
    have ih := valV_kvO x L
    by_cases h : k = x
    · subst h
      have e1 : valV (kvO ((k, v) :: L)) (.inr k) = some (.str v) := by
        unfold kvO valV
        rw [List.map_cons, List.find?_cons_of_pos (by simp)]
        rfl
      have e2 : List.lookup k ((k, v) :: L) = some v := by simp [List.lookup]
      rw [e1, e2]
      rfl
    · have e1 : valV (kvO ((k, v) :: L)) (.inr x) = valV (kvO L) (.inr x) := by
        unfold kvO valV
        rw [List.map_cons, List.find?_cons_of_neg (by simp [h])]
      have e2 : List.lookup x ((k, v) :: L) = List.lookup x L := by
        have : (x == k) = false := by simp [Ne.symm h]
        simp [List.lookup, this]
      rw [e1, e2]
      exact ih
abbrev mA : List (Key × V) := mergeK [] (kvO slA)
abbrev mB : List (Key × V) := mergeK mA (mergeK [] (kvO slB))
abbrev mC : List (Key × V) := mergeK mB (mergeK [] (kvO slC))
abbrev mD : List (Key × V) := mergeK mC (mergeK [] (kvO slD))
abbrev mE : List (Key × V) := mergeK mD (mergeK [] (kvO slE))
theorem mergeO : mE = kvO slF := by rfl
theorem upd_step {H H1 : Hp} {p p2 : Addr} {m x y : List (Key × V)} (np : H p = none) (hs : Same H H1) (hp : H1 p = some (.dK m)) (n2 : H1 p2 = none) :
    p ≠ p2 ∧ (upd (upd H1 p2 (.dK [])) p2 (.dK x)) p = some (.dK m) ∧ Same H (upd (upd (upd H1 p2 (.dK [])) p2 (.dK x)) p (.dK y)) := by
  have n : p ≠ p2 := ne_of_none hp n2
  refine ⟨n, Eq.trans (upd_ne n) (Eq.trans (upd_ne n) hp), fun b o e => ?_⟩
  have nb : b ≠ p := ne_of_none e np
  have nb2 : b ≠ p2 := ne_of_none (hs _ _ e) n2
  rw [upd_ne nb, upd_ne nb2, upd_ne nb2]
  exact hs _ _ e
section
variable {P : Program} {w : World} {K : PySem.W.Frag} {mg : Str → Option Value} {base : Heap}
theorem scSl : FnScope ["_law_word", "_law_rows"] ["_law_word"] (defScope sSlots) := ⟨rfl, rfl, rfl, by decide +kernel, rfl, by decide +kernel, by decide +kernel⟩
theorem ok_slots {f : Addr} {fd : FuncData} (F : Fun K "_law_slots" "_law_slots" sSlots f fd) : FnOk P w K mg base CX0 1 f fd ["_law_word"] (spSlot slF) := by
  refine F.ok scSl (fun vs H Q E h => ?_) (fun cdv A outer s H vs Q E hr h => ?_)
  · obtain ⟨x, rfl, _⟩ := h
    rfl
  · obtain ⟨x, rfl, q⟩ := h
    have hu := Nat.lt_of_le_of_lt (Nat.add_le_add_left (show 1 ≤ 64 by decide) _) hr.units
    refine ⟨_, pss_cons (ps_set (i := 1) scSl.nd rfl (Or.inl rfl) (pe_disp (pps_cons pe_str pe_str (pps_cons pe_str pe_str (pps_cons pe_str pe_str (pps_cons pe_str pe_str (pps_cons pe_str pe_str (pps_cons pe_str pe_str (pps_cons pe_str pe_str (pps_cons pe_str pe_str pps_nil)))))))) (by rfl) (by rfl) (fun z => by cases z) (by decide)))
      (pss_cons (ps_expr (pe_bm PySem.F.plainAttrs_dict PySem.F.slot_dict_update PySem.F.type_dict_update mtd_update (pv 1) (pa_cons (pe_disp (pps_cons pe_str pe_str (pps_cons pe_str pe_str (pps_cons pe_str pe_str (pps_cons pe_str pe_str (pps_cons pe_str pe_str (pps_cons pe_str pe_str (pps_cons pe_str pe_str (pps_cons pe_str pe_str pps_nil)))))))) (by rfl) (by rfl) (fun z => by cases z) (by decide)) pa_nil)))
      (pss_cons (ps_expr (pe_bm PySem.F.plainAttrs_dict PySem.F.slot_dict_update PySem.F.type_dict_update mtd_update (pv 1) (pa_cons (pe_disp (pps_cons pe_str pe_str (pps_cons pe_str pe_str (pps_cons pe_str pe_str (pps_cons pe_str pe_str (pps_cons pe_str pe_str (pps_cons pe_str pe_str (pps_cons pe_str pe_str pps_nil))))))) (by rfl) (by rfl) (fun z => by cases z) (by decide)) pa_nil)))
      (pss_cons (ps_expr (pe_bm PySem.F.plainAttrs_dict PySem.F.slot_dict_update PySem.F.type_dict_update mtd_update (pv 1) (pa_cons (pe_disp (pps_cons pe_str pe_str (pps_cons pe_str pe_str (pps_cons pe_str pe_str (pps_cons pe_str pe_str (pps_cons pe_str pe_str (pps_cons pe_str pe_str (pps_cons pe_str pe_str pps_nil))))))) (by rfl) (by rfl) (fun z => by cases z) (by decide)) pa_nil)))
      (pss_cons (ps_expr (pe_bm PySem.F.plainAttrs_dict PySem.F.slot_dict_update PySem.F.type_dict_update mtd_update (pv 1) (pa_cons (pe_disp (pps_cons pe_str pe_str (pps_cons pe_str pe_str (pps_cons pe_str pe_str (pps_cons pe_str pe_str pps_nil)))) (by rfl) (by rfl) (fun z => by cases z) (by decide)) pa_nil)))
      (pss_one (ps_ret (pe_dget2 hu (pv 1) (pv 0) pe_non ⟨rfl, rfl, rfl, rfl⟩))))))), ?_⟩
    intro p np
    refine ⟨upd_same, kvO slA, rfl, (by decide), ?_⟩
    have hs0 : Same H (upd (upd H p (.dK [])) p (.dK mA)) := fun b o e => by rw [upd_ne (ne_of_none e np), upd_ne (ne_of_none e np)]; exact e
    refine ⟨_, rfl, .inr (.inr (.inl ⟨rfl, .inl ⟨_, upd_same⟩⟩)), fun p2 n2 => ?_⟩
    obtain ⟨a1, b1, c1⟩ := upd_step (x := mergeK [] (kvO slB)) (y := mB) np hs0 upd_same n2
    refine ⟨upd_same, kvO slB, rfl, (by decide), p, p2, mA, _, rfl, rfl, a1, b1, upd_same, few (by decide), ?_⟩
    refine ⟨_, rfl, .inr (.inr (.inl ⟨rfl, .inl ⟨_, upd_same⟩⟩)), fun p3 n3 => ?_⟩
    obtain ⟨a2, b2, c2⟩ := upd_step (x := mergeK [] (kvO slC)) (y := mC) np c1 upd_same n3
    refine ⟨upd_same, kvO slC, rfl, (by decide), p, p3, mB, _, rfl, rfl, a2, b2, upd_same, few (by decide), ?_⟩
    refine ⟨_, rfl, .inr (.inr (.inl ⟨rfl, .inl ⟨_, upd_same⟩⟩)), fun p4 n4 => ?_⟩
    obtain ⟨a3, b3, c3⟩ := upd_step (x := mergeK [] (kvO slD)) (y := mD) np c2 upd_same n4
    refine ⟨upd_same, kvO slD, rfl, (by decide), p, p4, mC, _, rfl, rfl, a3, b3, upd_same, few (by decide), ?_⟩
    refine ⟨_, rfl, .inr (.inr (.inl ⟨rfl, .inl ⟨_, upd_same⟩⟩)), fun p5 n5 => ?_⟩
    obtain ⟨a4, b4, c4⟩ := upd_step (x := mergeK [] (kvO slE)) (y := mE) np c3 upd_same n5
    refine ⟨upd_same, kvO slE, rfl, (by decide), p, p5, mD, _, rfl, rfl, a4, b4, upd_same, few (by decide), ?_⟩
    refine ⟨_, rfl, p, rfl, .inl ⟨_, .inl upd_same⟩, _, rfl, _, DGet.k (k := .inr x) upd_same, ?_⟩
    show Q ((valV mE (.inr x)).getD .non) _
    rw [mergeO, valV_kvO]
    exact q _ c4
theorem scTs : FnScope ["_law_word"] ["_law_word"] (defScope sTSlots) := ⟨rfl, rfl, rfl, by decide +kernel, rfl, by decide +kernel, by decide +kernel⟩
theorem ok_tslots {f : Addr} {fd : FuncData} (F : Fun K "_law_test_slots" "_law_test_slots" sTSlots f fd) : FnOk P w K mg base CX0 1 f fd ["_law_word"] (spSlot slT) := by
  refine F.ok scTs (fun vs H Q E h => ?_) (fun cdv A outer s H vs Q E hr h => ?_)
  · obtain ⟨x, rfl, _⟩ := h
    rfl
  · obtain ⟨x, rfl, q⟩ := h
    have hu := Nat.lt_of_le_of_lt (Nat.add_le_add_left (show 1 ≤ 64 by decide) _) hr.units
    refine ⟨_, pss_one (ps_ret (pe_dget2 hu (pe_disp (pps_cons pe_str pe_str (pps_cons pe_str pe_str (pps_cons pe_str pe_str (pps_cons pe_str pe_str (pps_cons pe_str pe_str (pps_cons pe_str pe_str pps_nil)))))) (by rfl) (by rfl) (fun z => by cases z) (by decide)) (pv 0) pe_non ⟨rfl, rfl, rfl, rfl⟩)), ?_⟩
    intro p np
    refine ⟨upd_same, kvO slT, rfl, (by decide), ?_⟩
    refine ⟨p, rfl, .inl ⟨_, .inl upd_same⟩, _, rfl, _, DGet.k (k := .inr x) upd_same, ?_⟩
    have e : (valV (mergeK [] (kvO slT)) (.inr x)).getD .non = optS (slT.lookup x) := valV_kvO x slT
    show Q ((valV (mergeK [] (kvO slT)) (.inr x)).getD .non) _
    rw [e]
    exact q _ fun b o e => by rw [upd_ne (ne_of_none e np), upd_ne (ne_of_none e np)]; exact e
end
end Toy


namespace Toy
open PySem PySem.Spec PyProof.Rows L2 RZ
section
variable {prog : Program} {w : World} {A : Around} {E : Value → Shared → Prop} {s : Shared}
theorem drawsTuple (hh : A.handled = none) (it l : Addr) (hne : l ≠ it) (items : Array Value) :
    Draws prog w A it [it, l] items.size (fun i v => items[i]? = some v) (fun i h => h.IsTupleIter it l i ∧ h.IsTuple l items) where
  live := fun _ _ st => let ⟨o, ho, _⟩ := st.1; ⟨o, ho⟩
  frame := fun _ _ _ st hk => ⟨st.1.at fun o e => hk it (by simp) o e, by obtain ⟨o, e, r⟩ := st.2; exact ⟨o, hk l (by simp) o e, r⟩⟩
  item := fun i s Q E hi st hQ => by
    refine nextOf_tuple_item st.1 st.2 (x := items[i]) (by simp [hi]) fun h' hit' hs' => ?_
    exact hQ _ h' s.toks (by simp [hi]) ⟨hit', st.2.extBut hs'.extBut hne⟩ hs'
  done := fun s Q E st hE => nextOf_tuple_end hh st.1 st.2 (by simp) hE
abbrev zipSH1 (h : Heap) (x : Str) (t : Tok) : Heap := h.push { cls := .type "str_ascii_iterator", data := .fields #[.str x t, .int 0 0] }
abbrev zipSH2 (h : Heap) (x : Str) (t : Tok) (l2 : Addr) : Heap := (zipSH1 h x t).push { cls := .type "tuple_iterator", data := .fields #[.ref l2, .int 0 0] }
abbrev zipSH3 (h : Heap) (x : Str) (t : Tok) (l2 : Addr) : Heap := (zipSH2 h x t l2).push { cls := .type "tuple", data := .seq #[.ref h.objs.size, .ref (zipSH1 h x t).objs.size] }
abbrev zipSH4 (h : Heap) (x : Str) (t : Tok) (l2 : Addr) : Heap := (zipSH3 h x t l2).push { cls := .type "tuple", data := .seq #[.none, .none] }
abbrev zipSH5 (h : Heap) (x : Str) (t : Tok) (l2 : Addr) : Heap := (zipSH4 h x t l2).push { cls := .type "zip", data := .fields #[.none, .bool false, .bool false, .ref (zipSH2 h x t l2).objs.size, .ref (zipSH3 h x t l2).objs.size] }
theorem meets_zipS_new (x : Str) (t : Tok) (ha : x.cps.all (· < 128) = true) (l2 : Addr) (ys : Array Value) :
    Meets (Builtin.«zip.__new__» ⟨[.type "zip", .str x t, .ref l2], []⟩) (fun _ R s => s.heap.IsTuple l2 ys ∧
      R (.ok (.ret (.ref (zipSH4 s.heap x t l2).objs.size))) { s with heap := zipSH5 s.heap x t l2 }) :=
  .of_wp fun prog w A R s h => by
    obtain ⟨hp, g, d, tk, os⟩ := s; obtain ⟨hl2, h⟩ := h
    have hsub := sub_zip
    have hL2 : Heap.IsTuple (Shared.heap ⟨hp.push { cls := .type "str_ascii_iterator", data := .fields #[.str x t, .int 0 0] }, g, d, tk, os⟩) l2 ys := Heap.IsTuple.push hl2 _
    wp_walk using wpAny_pyIter_ascii ha, wpAny_pyIter_tuple hL2
    exact ⟨_, rfl, h⟩
theorem call_zipS {x : Str} {t : Tok} (ha : x.cps.all (· < 128) = true) {l2 : Addr} {ys : Array Value} {Q : Value → Shared → Prop} (hl2 : s.heap.IsTuple l2 ys)
    (h : ∀ h', IsZip h' (s.heap.objs.size + 4) (s.heap.objs.size + 2) (s.heap.objs.size + 3) .none → IsPair h' (s.heap.objs.size + 2) (.ref s.heap.objs.size) (.ref (s.heap.objs.size + 1)) →
      IsPair h' (s.heap.objs.size + 3) .none .none → h'.IsStrIter s.heap.objs.size "str_ascii_iterator" x t 0 → h'.IsTupleIter (s.heap.objs.size + 1) l2 0 → h'.objs.size = s.heap.objs.size + 5 →
      (∀ c o, s.heap.get? c = some o → h'.get? c = some o) → Q (.ref (s.heap.objs.size + 4)) { s with heap := h' }) :
    wpAny (model prog w) A (call (.type "zip") [.str x t, .ref l2]) Q E s := by
  refine callType_new F.called_zip (by decide) (F.typeCall_zip_2 _ _) (F.newCall_zip_2 _ _) (fun obj => F.args_object_init_3 obj _ _) F.entry_zip_new
    (meets_zipS_new x t ha l2 ys) ⟨hl2, ?_⟩
  have z1 : (zipSH1 s.heap x t).objs.size = s.heap.objs.size + 1 := Heap.size_push ..
  have z2 : (zipSH2 s.heap x t l2).objs.size = s.heap.objs.size + 2 := by rw [Heap.size_push, z1]
  have z3 : (zipSH3 s.heap x t l2).objs.size = s.heap.objs.size + 3 := by rw [Heap.size_push, z2]
  have z4 : (zipSH4 s.heap x t l2).objs.size = s.heap.objs.size + 4 := by rw [Heap.size_push, z3]
  have z5 : (zipSH5 s.heap x t l2).objs.size = s.heap.objs.size + 5 := by rw [Heap.size_push, z4]
  have g5 : (zipSH5 s.heap x t l2).get? (zipSH4 s.heap x t l2).objs.size = some _ := Heap.get?_push_size _ rfl
  have g4 : (zipSH5 s.heap x t l2).get? (zipSH3 s.heap x t l2).objs.size = some _ := Heap.get?_push_of_some _ (Heap.get?_push_size _ rfl)
  have g3 : (zipSH5 s.heap x t l2).get? (zipSH2 s.heap x t l2).objs.size = some _ := Heap.get?_push_of_some _ (Heap.get?_push_of_some _ (Heap.get?_push_size _ rfl))
  have g2 : (zipSH5 s.heap x t l2).get? (zipSH1 s.heap x t).objs.size = some _ := Heap.get?_push_of_some _ (Heap.get?_push_of_some _ (Heap.get?_push_of_some _ (Heap.get?_push_size _ rfl)))
  have g1 : (zipSH5 s.heap x t l2).get? s.heap.objs.size = some _ := Heap.get?_push_of_some _ (Heap.get?_push_of_some _ (Heap.get?_push_of_some _ (Heap.get?_push_of_some _ (Heap.get?_push_size _ rfl))))
  show _ ∧ _
  rw [z2, z3, z4] at g5
  rw [z1, z2] at g3
  rw [z3] at g4
  rw [z1] at g2
  rw [z4]
  exact ⟨⟨_, g5, rfl⟩, h _ g5 g3 g4 ⟨_, g1, rfl, rfl⟩ ⟨_, g2, rfl, rfl⟩ z5 fun c o x =>
    Heap.get?_push_of_some _ (Heap.get?_push_of_some _ (Heap.get?_push_of_some _ (Heap.get?_push_of_some _ (Heap.get?_push_of_some _ x))))⟩
end
/-- the letters of x and the tuple at b -/
def ItzS (K : PySem.W.Frag) (x : Str) (b : Addr) : It :=
  ⟨fun i H => ∃ (ys : List V), SqT K H b ys ∧ i < ys.length ∧ i < x.cps.size,
    fun i H v H' => ∃ T c y, v = .ref T ∧ H T = none ∧ x.cps[i]? = some c ∧ H' = upd H T (.tup [.str ⟨#[c]⟩, y]) ∧ ∀ ys, SqT K H b ys → ys[i]? = some y,
    fun i H => ∃ ys : List V, SqT K H b ys ∧ i ≤ ys.length ∧ i ≤ x.cps.size ∧ (i = x.cps.size ∨ i = ys.length)⟩
theorem turn_zipS {P : Program} {w : World} {K : PySem.W.Frag} {elts : List Expr} {kk : Nat} {tpos : Pos} {x : Str} {t : Tok} {b z TI TO i1 i2 : Addr} (D : ZipApart z TI TO i1 i2 b b) :
    Turn P w K (.Tuple elts kk tpos) (ItzS K x b) [z, TI, TO, i1, i2] z (fun i h => IsZip h z TI TO .none ∧ IsPair h TI (.ref i1) (.ref i2) ∧ (∃ x y, IsPair h TO x y) ∧ h.IsStrIter i1 "str_ascii_iterator" x t i ∧ h.IsTupleIter i2 b i) where
  mem := by simp
  obj := fun i h st c hc => by
    obtain ⟨hz, hTI, ⟨x, y, hTO⟩, ⟨o1, e1, _, d1⟩, ⟨o2, e2, _, d2⟩⟩ := st
    have e' : c = z ∨ c = TI ∨ c = TO ∨ c = i1 ∨ c = i2 := by simpa using hc
    rcases e' with q | q | q | q | q
    · rw [q]; exact ⟨_, hz, fun v q => nomatch q⟩
    · rw [q]; exact ⟨_, hTI, fun v q => nomatch q⟩
    · rw [q]; exact ⟨_, hTO, fun v q => nomatch q⟩
    · rw [q]; exact ⟨o1, e1, fun v q => by rw [d1] at q; cases q⟩
    · rw [q]; exact ⟨o2, e2, fun v q => by rw [d2] at q; cases q⟩
  keep := fun i h h' st k => by
    obtain ⟨hz, hTI, ⟨x, y, hTO⟩, ⟨o1, e1, r1⟩, h2⟩ := st
    exact ⟨k z (by simp) _ hz, k TI (by simp) _ hTI, ⟨x, y, k TO (by simp) _ hTO⟩, ⟨o1, k i1 (by simp) _ e1, r1⟩, h2.at fun o q => k i2 (by simp) o q⟩
  item := by
    intro X hP hw hK hc i pins s σ H E I hf st hg
    subst hP hw hK
    obtain ⟨hz, hTI, ⟨x0, y0, hTO⟩, h1, h2⟩ := st
    obtain ⟨ys, hqy, hiy, hix⟩ := hg
    obtain ⟨its2, rv2, p2, _⟩ := I.tuple hqy
    have hl2 := rv2.length
    have hzl : z < s.heap.objs.size := Heap.lt_size hz
    have hh : X.A.in1.handled = none := I.ok.hd hc
    refine wpAny_pyNext_zipD2_item (a1 := x0) (a2 := y0) (St1 := fun i h => h.IsStrIter i1 "str_ascii_iterator" x t i) (St2 := fun i h => h.IsTupleIter i2 b i ∧ h.IsTuple b its2.toArray)
      ⟨D.TIz, D.TOz, D.TITO, D.TIi1, by simp, by simp [D.i1z.symm], by simp [D.TOi1], D.TIi2, by simp, by simp [D.i2z.symm, D.l2z.symm], by simp [D.TOi2, D.l2TO.symm], by simp [D.i12, D.l2i1.symm], by simp [D.i12.symm]⟩
      (Draws.strAscii hh i1 x t) (drawsTuple hh i2 b D.l2i2 its2.toArray) hz hTI hTO h1 ⟨h2, p2⟩ hix (by simp; omega) fun u1 u2 h' tk P1 P2 z' TO' h1' h2' hT hsz hk => ?_
    obtain ⟨c, t1, ec, eu⟩ := P1
    subst eu
    have hy : ys[i]? = some ys[i] := List.getElem?_eq_getElem hiy
    obtain ⟨u, hu, ru⟩ := rv2.get hy
    obtain rfl : u = u2 := by
      have : its2.toArray[i]? = some u2 := P2
      rw [show its2.toArray[i]? = its2[i]? by simp] at this
      rw [hu] at this
      exact Option.some.inj this
    refine ⟨_, rfl, wpAny_letOwnedTupleGo_zip (s := { s with heap := h', toks := tk }) z' fun h'' z'' sb => ?_⟩
    have hT2 : h''.get? s.heap.objs.size = some { cls := .type "tuple", data := .seq #[.str ⟨#[c]⟩ t1, u] } := (sb.2 _ (Nat.ne_of_gt hzl)).trans hT
    have new : ObjOk X.prog X.w (upd H s.heap.objs.size (.tup [.str ⟨#[c]⟩, ys[i]])) h'' s.heap.objs.size (.tup [.str ⟨#[c]⟩, ys[i]]) :=
      ⟨by show 2 ≤ sizeLine; decide, [.str ⟨#[c]⟩ t1, u], .cons ⟨t1, rfl⟩ (.cons ru .nil), ⟨_, hT2, rfl, _, rfl⟩⟩
    have I1 : Inv X pins σ (upd H s.heap.objs.size (.tup [.str ⟨#[c]⟩, ys[i]])) { s with heap := h'', toks := tk } :=
      I.turnedNew (t' := tk) (ch := [z, TI, TO, i1, i2]) (fun c o hb q => (sb.2 c (fun q' => hb (by simp [q']))).trans (hk c o (fun q' => hb (by simp [q'])) (fun q' => hb (by simp [q'])) (fun q' => hb (by simp [q'])) (fun q' => hb (by simp [q'])) q)) hf (Nat.le_refl _) new
    refine ⟨.ref s.heap.objs.size, _, I1, rfl, ⟨_, c, ys[i], rfl, I.hok.fresh (Nat.le_refl _), ec, rfl, fun l hl => by rw [I.tuple_inj hl hqy]; exact hy⟩, ⟨z'', ?_, ⟨.str ⟨#[c]⟩ t1, u, ?_⟩, ?_, ?_⟩, fun c hcm => ?_⟩
    · exact (sb.2 _ D.TIz).trans (hk _ _ D.TIz D.TITO D.TIi1 D.TIi2 hTI)
    · exact (sb.2 _ D.TOz).trans TO'
    · obtain ⟨o1, e1, r1⟩ := h1'
      exact ⟨o1, (sb.2 _ D.i1z).trans e1, r1⟩
    · exact h2'.1.at fun o q => (sb.2 _ D.i2z).trans q
    · have hlt : c < s.heap.objs.size := by
        have e' : c = z ∨ c = TI ∨ c = TO ∨ c = i1 ∨ c = i2 := by simpa using hcm
        rcases e' with q | q | q | q | q
        · rw [q]; exact hzl
        · rw [q]; exact Heap.lt_size hTI
        · rw [q]; exact Heap.lt_size hTO
        · rw [q]; obtain ⟨_, e1, _⟩ := h1; exact Heap.lt_size e1
        · rw [q]; obtain ⟨_, e2, _⟩ := h2; exact Heap.lt_size e2
      rw [upd_ne (Nat.ne_of_lt hlt)]
      exact (hf c hcm).1
  done := by
    intro X hP hw hK hc i pins s σ H E I hf st hg
    subst hP hw hK
    obtain ⟨hz, hTI, ⟨x0, y0, hTO⟩, h1, h2⟩ := st
    obtain ⟨ys, hqy, hly, hlx, hend⟩ := hg
    obtain ⟨its2, rv2, p2, _⟩ := I.tuple hqy
    have hl2 := rv2.length
    have hh : X.A.in1.handled = none := I.ok.hd hc
    refine wpAny_pyNext_zipD2_end (a1 := x0) (a2 := y0) (St1 := fun i h => h.IsStrIter i1 "str_ascii_iterator" x t i) (St2 := fun i h => h.IsTupleIter i2 b i ∧ h.IsTuple b its2.toArray)
      ⟨D.TIz, D.TOz, D.TITO, D.TIi1, by simp, by simp [D.i1z.symm], by simp [D.TOi1], D.TIi2, by simp, by simp [D.i2z.symm, D.l2z.symm], by simp [D.TOi2, D.l2TO.symm], by simp [D.i12, D.l2i1.symm], by simp [D.i12.symm]⟩
      (Draws.strAscii hh i1 x t) (drawsTuple hh i2 b D.l2i2 its2.toArray) hz hTI hTO h1 ⟨h2, p2⟩ hlx (by simp; omega) (by simp; omega) fun h' tk hk => ?_
    exact ⟨rfl, I.turnedL (t' := tk) (ch := [z, TI, TO, i1, i2]) (fun c o hb q =>
      hk c o (fun q' => hb (by simp [q'])) (fun q' => hb (by simp [q'])) (fun q' => hb (by simp [q'])) (fun q' => hb (by simp [q'])) q) hf⟩
  self := fun A i s Q E st h => wpAny_pyIter_zip st.1 h
def iZipS (K : PySem.W.Frag) (ta : TA) : TI := fun σ H R => ta σ H fun vs H1 => ∃ (x : Str) (b : Addr) (ys : List V), vs = [.str x, .ref b] ∧ x.cps.all (· < 128) = true ∧ SqT K H1 b ys ∧ R (ItzS K x b) H1
theorem pi_zipS {X : Cx} {e e2 : Expr} {ta : TA} {p pos tpos : Pos} {elts : List Expr} {kk : Nat} (hg : Gl X "zip") (hm : X.mg "zip" = none) (ha : PA X [e, e2] ta)
    (hs : starEach [e, e2] X.env = (false, eval e X.env) :: starEach [e2] X.env := by rfl) (hpl : (backTo pos (starEach [e2] X.env)).any (·.1) = false := by rfl) :
    PI X (.Tuple elts kk tpos) (.Call (.Name "zip" p) [e, e2] [] pos) (iZipS X.K ta) := by
  refine ⟨fun pins s σ H R I h => ?_⟩
  refine Call_ (ld_blt I hg hm PyProof.Rows.boot_zip (PyProof.Rows.callWith_type1 (thn (ha.run pos pins s σ H _ I h) fun us s1 ⟨vs, H1, I1, r1, q1⟩ => ?_) hs hpl))
  obtain ⟨x, b, ys, ex, hx, hqy, q⟩ := q1
  subst ex
  cases r1 with
  | cons r rr =>
    cases rr with
    | cons r' rr =>
      cases rr
      obtain ⟨t, rfl⟩ := r
      cases r'
      have fresh5 : ∀ c, c ∈ [s1.heap.objs.size + 4, s1.heap.objs.size + 2, s1.heap.objs.size + 3, s1.heap.objs.size, s1.heap.objs.size + 1] → FpOk X pins H1 c := fun c hcm => by
        have e' : c = s1.heap.objs.size + 4 ∨ c = s1.heap.objs.size + 2 ∨ c = s1.heap.objs.size + 3 ∨ c = s1.heap.objs.size ∨ c = s1.heap.objs.size + 1 := by simpa using hcm
        have hle : s1.heap.objs.size ≤ c := by
          rcases e' with z | z | z | z | z
          · rw [z]; exact Nat.le_add_right _ _
          · rw [z]; exact Nat.le_add_right _ _
          · rw [z]; exact Nat.le_add_right _ _
          · rw [z]; exact Nat.le_refl _
          · rw [z]; exact Nat.le_add_right _ _
        exact I1.fpOk hle (I1.hok.fresh hle)
      obtain ⟨its2, rv2, p2, _⟩ := I1.tuple hqy
      obtain ⟨o2, ho2, _⟩ := id p2
      refine call_zipS hx (show s1.heap.IsTuple b its2.toArray from p2) fun h' hz hTI hTO h1 h2 hsz hk => wpAny_pyIter_zip hz ?_
      have I2 : Inv X pins σ H1 { s1 with heap := h' } := I1.kept (t' := s1.toks) hk
      exact ⟨s1.heap.objs.size + 4, [s1.heap.objs.size + 4, s1.heap.objs.size + 2, s1.heap.objs.size + 3, s1.heap.objs.size, s1.heap.objs.size + 1], _, _, H1, rfl, I2, turn_zipS (PySem.W.ktu_apart s1.heap.objs.size b b (Heap.lt_size ho2) (Heap.lt_size ho2)), ⟨hz, hTI, ⟨_, _, hTO⟩, h1, h2⟩, fresh5, q⟩
end Toy


/-! a set of texts, of a list or tuple of any length: how many it has is told by a bound -/
namespace SS2
open PySem PySem.Spec PyProof.Rows
/-- among the first i of zs c are different; T tells which stand there -/
def Cn (zs : List Str) (i c : Nat) : Prop := c ≤ i ∧ (c = i ↔ (zs.take i).Nodup)
def TM (zs : List Str) (i : Nat) (T : Str → Bool) : Prop := ∀ k, T k = decide (k ∈ zs.take i)
theorem take_next {zs : List Str} {i : Nat} (h : i < zs.length) : zs.take (i + 1) = zs.take i ++ [zs.getD i Str.empty] := by
  rw [List.take_add_one, List.getElem?_eq_getElem h, List.getD_eq_getElem?_getD, List.getElem?_eq_getElem h]
  rfl
theorem TM.next {zs : List Str} {i : Nat} {T : Str → Bool} (h : TM zs i T) (hi : i < zs.length) : TM zs (i + 1) (fun k' => T k' || decide (k' = zs.getD i Str.empty)) := by
  intro k
  show (T k || decide (k = zs.getD i Str.empty)) = _
  rw [h k, take_next hi, Bool.eq_iff_iff]
  simp
theorem Cn.next {zs : List Str} {i c : Nat} {T : Str → Bool} (h : Cn zs i c) (t : TM zs i T) (hi : i < zs.length) : Cn zs (i + 1) (if T (zs.getD i Str.empty) = true then c else c + 1) := by
  obtain ⟨h1, h2⟩ := h
  have e := t (zs.getD i Str.empty)
  unfold Cn
  rw [take_next hi, List.nodup_append]
  cases ht : T (zs.getD i Str.empty) with
  | true =>
    rw [ht] at e
    have hm := of_decide_eq_true e.symm
    rw [if_pos rfl]
    refine ⟨by omega, fun z => by omega, fun z => ?_⟩
    exact absurd rfl (z.2.2 _ hm _ (List.mem_singleton.mpr rfl))
  | false =>
    rw [ht] at e
    have hm := of_decide_eq_false e.symm
    rw [if_neg Bool.false_ne_true]
    refine ⟨by omega, fun z => ⟨h2.mp (by omega), by simp, fun a ha b hb ab => ?_⟩, fun z => by rw [h2.mpr z.1]⟩
    rw [List.mem_singleton] at hb
    rw [ab, hb] at ha
    exact hm ha
def emptyS (led : Bool) : Obj := { cls := .type "set", dict := none, data := .set #[] 0 (.fresh 0 0 led) }
section
variable {prog : Program} {w : World} {A : Around} {R : Result → Shared → Prop} {I : Addr} {fp wr : List Addr} {G : Array GenState → Array GenState → Prop} {n : Nat} {P : Nat → Value → Prop} {St : Nat → Shared → Prop}
theorem loopS (W : WalksS prog w A.in1 I fp wr G n P St) (S : Addr) (hSf : S ∉ fp) (zs : List Str) (hsz : zs.length = n) (hn : n + 1 < scanBound) (hval : ∀ i v, P i v → ∃ t, v = .str (zs.getD i Str.empty) t) :
    ∀ (k i : Nat) (s : Shared), n - i = k → i ≤ n → St i s → (∃ c, Cn zs i c ∧ ∃ T, TM zs i T ∧ s.heap.SetOf (PySem.strKind prog w) S T c) → (∀ s', Moved (S :: wr) G s s' → (∃ c, Cn zs n c ∧ ∃ T, s'.heap.SetOf (PySem.strKind prog w) S T c) → R (.ok (.ret .none)) s') → codeAny (model prog w) A (.builtin "set.update.loop" ⟨[.ref S, .ref I], []⟩) R s := by
  have hSw : S ∉ wr := fun h => hSf (W.sub _ h)
  have move : ∀ {s s' : Shared} {c : Nat} {T : Str → Bool}, Moved wr G s s' → s.heap.SetOf (PySem.strKind prog w) S T c → s'.heap.SetOf (PySem.strKind prog w) S T c := fun hm hS => by
    obtain ⟨o, es, ep, t, ho, rest⟩ := hS
    exact ⟨o, es, ep, t, hm.heap S _ hSw ho, rest⟩
  intro k
  induction k with
  | zero =>
    rintro i s hk hi hst ⟨c, hc, T, hT, hS⟩ hR
    obtain rfl : i = n := by omega
    refine codeAny_builtin PyProof.Rows.F.entry_set_update_loop ?_
    rw [Around.under_plainId PyProof.Rows.F.plain_set_update_loop _]
    refine (show wpAny _ A.in1 (pyNext (.ref I) >>= _) _ _ s from wpAny_bind (W.done s _ _ hst fun s' hm => ?_))
    exact (show wpAny _ A.in1 (ret Value.none) _ _ s' from wpAny_pure (hR s' (hm.mono fun b hb => List.mem_cons_of_mem _ hb) ⟨c, hc, T, move hm hS⟩))
  | succ k ih =>
    rintro i s hk hi hst ⟨c, hc, T, hT, hS⟩ hR
    have hlt : i < n := by omega
    refine codeAny_builtin PyProof.Rows.F.entry_set_update_loop ?_
    rw [Around.under_plainId PyProof.Rows.F.plain_set_update_loop _]
    refine (show wpAny _ A.in1 (pyNext (.ref I) >>= _) _ _ s from wpAny_bind (W.item i s _ _ hlt hst fun v s' hP hst' hm => ?_))
    obtain ⟨t, rfl⟩ := hval i v hP
    have hS1 := move hm hS
    refine (show wpAny _ A.in1 (holding [Value.str (zs.getD i Str.empty) t] (setAdd S (.str (zs.getD i Str.empty) t)) >>= _) _ _ s' from wpAny_bind (wpAny_holding ?_))
    unfold setAdd
    refine wpAny_holding (wpAny_bind ((PySem.strKind prog w).pyHash (k := zs.getD i Str.empty) (strKind_is _ _ _ _) ?_))
    have hci := hc.1
    refine wpAny_setAddHashed_of (knd := PySem.strKind prog w) (s := { s' with toks := s'.toks + 1 }) (strKind_is _ _ _ _) rfl hS1 (by omega) fun h' hsb hS2 => ?_
    have le := hc.next hT (by omega)
    have tm := hT.next (by omega)
    refine wpAny_pure ⟨plainId_quiet PyProof.Rows.F.plain_set_update_loop _, ih (i + 1) _ (by omega) hlt (W.frame _ s' _ _ hst' (Nat.le_succ _) fun b hb o e => ?_) ⟨_, le, _, tm, hS2⟩ fun s2 hm2 hS3 => hR s2 (Moved.trans W.gtrans ((hm.mono fun b hb => List.mem_cons_of_mem _ hb).then_heap (Nat.le_succ _) fun b o hb e => ?_) hm2) hS3⟩
    · exact (hsb.2 b (fun z : b = S => hSf (by rw [← z]; exact hb))).trans e
    · exact (hsb.2 b (fun z : b = S => hb (by rw [z]; exact List.mem_cons_self))).trans e
end
section
variable {prog : Program} {w : World} {A : Around} {E : Value → Shared → Prop} {s : Shared}
theorem call_setL {l : Addr} {ys : Array Value} {zs : List Str} {Q : Value → Shared → Prop} (hh : A.handled = none) (hl : s.heap.IsList l ys) (hi : PyProof.Rows.StrsAre ys.toList zs) (hn : zs.length + 1 < scanBound)
    (h : ∀ (h' : Heap) (tk c : Nat), Cn zs zs.length c → (∃ S, h'.SetOf (PySem.strKind prog w) s.heap.objs.size S c) → (∀ b o, b < s.heap.objs.size → s.heap.get? b = some o → h'.get? b = some o) → Q (.ref s.heap.objs.size) { s with heap := h', toks := tk }) :
    wpAny (model prog w) A (call (.type "set") [.ref l]) Q E s := by
  have facts := And.intro PySem.F.called_set.made PySem.F.called_set.sub
  obtain ⟨hmade, hsub⟩ := facts
  obtain ⟨c0, tl0, hmro⟩ := PySem.F.called_set.mro
  refine wpAny_call (codeAny_of_tree (show wpAny _ _ (callAny (.type "set") _) _ _ _ from wpAny_pure ⟨Code.quiet_builtin _ (by decide +kernel), codeAny_builtin PySem.F.entry_type_call ?_⟩))
  rw [Around.under_plain (weight_type_call_type "set" [.ref l] []) rfl]
  have facts2 := And.intro PySem.F.called_set.notType (And.intro PySem.F.called_set.canCreate (PySem.F.typeCall_set_1 (.ref l)))
  obtain ⟨h1, h2, hct⟩ := facts2
  repeat (any_goals (first | assumption | wp_step))
  refine codeAny_mono (code_set_new_1 (.ref l) (E := E) (Q₁ := fun ob s1 => ∃ led : Bool, ob = .ref s.heap.objs.size ∧ s1 = { s with heap := s.heap.push (emptyS led) }) fun led => ⟨led, rfl, rfl⟩) fun r s1 hr => ?_
  cases r with
  | error e => exact hr
  | ok fl =>
    cases fl with
    | ret ob =>
      obtain ⟨led, rfl, rfl⟩ := hr
      have hS : (s.heap.push (emptyS led)).get? s.heap.objs.size = some (emptyS led) := Heap.get?_push_size _ rfl
      have hT : Shared.TypeIs { s with heap := s.heap.push (emptyS led) } (.ref s.heap.objs.size) "set" := ⟨_, hS, rfl⟩
      have facts3 := And.intro PySem.F.called_set.init.lookup (PySem.F.called_set.init.bind (.ref s.heap.objs.size))
      obtain ⟨hli, hbi⟩ := facts3
      repeat (any_goals (first | assumption | wp_step))
      refine codeAny_mono (codeAny_call_builtin (R := wants (fun r s2 => r = .none ∧ ∃ h' tk c, s2 = { s with heap := h', toks := tk } ∧ (Cn zs zs.length c ∧ ∃ S, h'.SetOf (PySem.strKind prog w) s.heap.objs.size S c) ∧ (∀ b o, b < s.heap.objs.size → s.heap.get? b = some o → h'.get? b = some o)) E) PySem.F.called_set.init.plain PySem.F.entry_set_init (check_set_init_1 hT ?_)) fun r2 s2 hr2 => ?_
      · obtain ⟨⟨oc, odi, oda, osl⟩, hol, hcl, nl, hdl⟩ := hl
        simp only at hcl hdl
        subst hcl hdl
        have hol' : (s.heap.push (emptyS led)).get? l = some { cls := .type "list", dict := odi, data := .seq ys nl, slots := osl } := Heap.get?_push_of_some _ hol
        have facts4 := And.intro PySem.F.sub_list_set PySem.F.sub_list_frozenset
        obtain ⟨hsls, hslf⟩ := facts4
        have hne : (Value.type "list" == Value.type "dict") = false := by decide
        have hl1 : (s.heap.push (emptyS led)).IsList l ys := ⟨_, hol', rfl, nl, rfl⟩
        unfold Builtin.«set.__init__» noKeywords Builtin.Frozenset.updateFrom
        generalize hPI : pyIter = PI
        wp_walk
        subst hPI
        refine wpAny_pyIter_list hl1 (wpAny_bind (wpAny_runValue ?_))
        have hlS : l < s.heap.objs.size := Heap.lt_size hol
        have hneI : l ≠ (s.heap.push (emptyS led)).objs.size := by
          rw [Heap.size_push]
          exact Nat.ne_of_lt (Nat.lt_succ_of_lt hlS)
        have hSf : s.heap.objs.size ∉ [(s.heap.push (emptyS led)).objs.size, l] := by
          rw [Heap.size_push]
          simp only [List.mem_cons, List.not_mem_nil, or_false, not_or]
          exact ⟨Nat.ne_of_lt (Nat.lt_succ_self _), Nat.ne_of_gt hlS⟩
        have hsz : zs.length = ys.size := by rw [← StrsAre.len_eq hi, Array.length_toList]
        have hval : ∀ (i : Nat) (v : Value), ys[i]? = some v → ∃ t, v = .str (zs.getD i Str.empty) t := fun i v hv => SS.strs_at hi i v (by rw [Array.getElem?_toList]; exact hv)
        refine loopS ((Walks.list (by simp [hh] : A.in1.in1.in1.handled = none) _ l hneI ys).toS) s.heap.objs.size hSf zs hsz (by rw [← hsz]; exact hn) hval (ys.size - 0) 0 _ (by omega) (Nat.zero_le _) ⟨⟨_, Heap.get?_push_size _ rfl, rfl, rfl⟩, (hl1.push _)⟩ ?hS0 ?hR
        case hS0 =>
          have hget : ((s.heap.push (emptyS led)).push { cls := .type "list_iterator", data := .fields #[.ref l, .int 0 0] }).get? s.heap.objs.size = some (emptyS led) := Heap.get?_push_of_some _ hS
          exact ⟨0, ⟨Nat.le_refl _, by simp⟩, _, (fun k => by simp), (PyProof.Rows.setObjOf_fresh (knd := PySem.strKind prog w) led).setOf hget (by unfold scanBound; omega)⟩
        case hR =>
          rintro ⟨h', g', d', tk', os'⟩ hm ⟨c, hc, S, hS'⟩
          obtain rfl : g' = s.gens := hm.gens
          obtain rfl : d' = s.drawn := hm.drawn
          obtain rfl : os' = s.os := hm.os
          show wpAny _ _ _ _ _ _
          refine wpAny_pure (show wpAny _ _ (ret Value.none) _ _ _ from wpAny_pure ⟨rfl, h', tk', c, rfl, ⟨by rw [hsz]; exact hc, S, hS'⟩, fun b o hb e => ?_⟩)
          refine hm.heap b o ?_ (Heap.get?_push_of_some _ (Heap.get?_push_of_some _ e))
          rw [Heap.size_push]
          simp only [List.mem_cons, List.not_mem_nil, or_false, not_or]
          exact ⟨Nat.ne_of_lt hb, Nat.ne_of_lt (Nat.lt_succ_of_lt hb)⟩
      · cases r2 with
        | error e => exact hr2
        | ok fl2 =>
          cases fl2 with
          | ret r =>
            obtain ⟨rfl, h', tk, c, rfl, ⟨hc, hS'⟩, hk'⟩ := hr2
            repeat (any_goals (first | assumption | wp_step))
            exact h _ _ c hc hS' hk'
          | _ => exact hr2.elim
    | _ => exact hr.elim
theorem call_setT {l : Addr} {ys : Array Value} {zs : List Str} {Q : Value → Shared → Prop} (hh : A.handled = none) (hl : s.heap.IsTuple l ys) (hi : PyProof.Rows.StrsAre ys.toList zs) (hn : zs.length + 1 < scanBound)
    (h : ∀ (h' : Heap) (tk c : Nat), Cn zs zs.length c → (∃ S, h'.SetOf (PySem.strKind prog w) s.heap.objs.size S c) → (∀ b o, b < s.heap.objs.size → s.heap.get? b = some o → h'.get? b = some o) → Q (.ref s.heap.objs.size) { s with heap := h', toks := tk }) :
    wpAny (model prog w) A (call (.type "set") [.ref l]) Q E s := by
  have facts := And.intro PySem.F.called_set.made PySem.F.called_set.sub
  obtain ⟨hmade, hsub⟩ := facts
  obtain ⟨c0, tl0, hmro⟩ := PySem.F.called_set.mro
  refine wpAny_call (codeAny_of_tree (show wpAny _ _ (callAny (.type "set") _) _ _ _ from wpAny_pure ⟨Code.quiet_builtin _ (by decide +kernel), codeAny_builtin PySem.F.entry_type_call ?_⟩))
  rw [Around.under_plain (weight_type_call_type "set" [.ref l] []) rfl]
  have facts2 := And.intro PySem.F.called_set.notType (And.intro PySem.F.called_set.canCreate (PySem.F.typeCall_set_1 (.ref l)))
  obtain ⟨h1, h2, hct⟩ := facts2
  repeat (any_goals (first | assumption | wp_step))
  refine codeAny_mono (code_set_new_1 (.ref l) (E := E) (Q₁ := fun ob s1 => ∃ led : Bool, ob = .ref s.heap.objs.size ∧ s1 = { s with heap := s.heap.push (emptyS led) }) fun led => ⟨led, rfl, rfl⟩) fun r s1 hr => ?_
  cases r with
  | error e => exact hr
  | ok fl =>
    cases fl with
    | ret ob =>
      obtain ⟨led, rfl, rfl⟩ := hr
      have hS : (s.heap.push (emptyS led)).get? s.heap.objs.size = some (emptyS led) := Heap.get?_push_size _ rfl
      have hT : Shared.TypeIs { s with heap := s.heap.push (emptyS led) } (.ref s.heap.objs.size) "set" := ⟨_, hS, rfl⟩
      have facts3 := And.intro PySem.F.called_set.init.lookup (PySem.F.called_set.init.bind (.ref s.heap.objs.size))
      obtain ⟨hli, hbi⟩ := facts3
      repeat (any_goals (first | assumption | wp_step))
      refine codeAny_mono (codeAny_call_builtin (R := wants (fun r s2 => r = .none ∧ ∃ h' tk c, s2 = { s with heap := h', toks := tk } ∧ (Cn zs zs.length c ∧ ∃ S, h'.SetOf (PySem.strKind prog w) s.heap.objs.size S c) ∧ (∀ b o, b < s.heap.objs.size → s.heap.get? b = some o → h'.get? b = some o)) E) PySem.F.called_set.init.plain PySem.F.entry_set_init (check_set_init_1 hT ?_)) fun r2 s2 hr2 => ?_
      · obtain ⟨⟨oc, odi, oda, osl⟩, hol, hcl, nl, hdl⟩ := hl
        simp only at hcl hdl
        subst hcl hdl
        have hol' : (s.heap.push (emptyS led)).get? l = some { cls := .type "tuple", dict := odi, data := .seq ys nl, slots := osl } := Heap.get?_push_of_some _ hol
        have facts4 := And.intro PySem.F.sub_tuple_set PySem.F.sub_tuple_frozenset
        obtain ⟨hsls, hslf⟩ := facts4
        have hne : (Value.type "tuple" == Value.type "dict") = false := by decide
        have hl1 : (s.heap.push (emptyS led)).IsTuple l ys := ⟨_, hol', rfl, nl, rfl⟩
        unfold Builtin.«set.__init__» noKeywords Builtin.Frozenset.updateFrom
        generalize hPI : pyIter = PI
        wp_walk
        subst hPI
        refine wpAny_pyIter_tuple hl1 (wpAny_bind (wpAny_runValue ?_))
        have hlS : l < s.heap.objs.size := Heap.lt_size hol
        have hneI : l ≠ (s.heap.push (emptyS led)).objs.size := by
          rw [Heap.size_push]
          exact Nat.ne_of_lt (Nat.lt_succ_of_lt hlS)
        have hSf : s.heap.objs.size ∉ [(s.heap.push (emptyS led)).objs.size, l] := by
          rw [Heap.size_push]
          simp only [List.mem_cons, List.not_mem_nil, or_false, not_or]
          exact ⟨Nat.ne_of_lt (Nat.lt_succ_self _), Nat.ne_of_gt hlS⟩
        have hsz : zs.length = ys.size := by rw [← StrsAre.len_eq hi, Array.length_toList]
        have hval : ∀ (i : Nat) (v : Value), ys[i]? = some v → ∃ t, v = .str (zs.getD i Str.empty) t := fun i v hv => SS.strs_at hi i v (by rw [Array.getElem?_toList]; exact hv)
        refine loopS ((Walks.tuple (by simp [hh] : A.in1.in1.in1.handled = none) _ l hneI ys).toS) s.heap.objs.size hSf zs hsz (by rw [← hsz]; exact hn) hval (ys.size - 0) 0 _ (by omega) (Nat.zero_le _) ⟨⟨_, Heap.get?_push_size _ rfl, rfl, rfl⟩, (hl1.push _)⟩ ?hS0 ?hR
        case hS0 =>
          have hget : ((s.heap.push (emptyS led)).push { cls := .type "tuple_iterator", data := .fields #[.ref l, .int 0 0] }).get? s.heap.objs.size = some (emptyS led) := Heap.get?_push_of_some _ hS
          exact ⟨0, ⟨Nat.le_refl _, by simp⟩, _, (fun k => by simp), (PyProof.Rows.setObjOf_fresh (knd := PySem.strKind prog w) led).setOf hget (by unfold scanBound; omega)⟩
        case hR =>
          rintro ⟨h', g', d', tk', os'⟩ hm ⟨c, hc, S, hS'⟩
          obtain rfl : g' = s.gens := hm.gens
          obtain rfl : d' = s.drawn := hm.drawn
          obtain rfl : os' = s.os := hm.os
          show wpAny _ _ _ _ _ _
          refine wpAny_pure (show wpAny _ _ (ret Value.none) _ _ _ from wpAny_pure ⟨rfl, h', tk', c, rfl, ⟨by rw [hsz]; exact hc, S, hS'⟩, fun b o hb e => ?_⟩)
          refine hm.heap b o ?_ (Heap.get?_push_of_some _ (Heap.get?_push_of_some _ e))
          rw [Heap.size_push]
          simp only [List.mem_cons, List.not_mem_nil, or_false, not_or]
          exact ⟨Nat.ne_of_lt hb, Nat.ne_of_lt (Nat.lt_succ_of_lt hb)⟩
      · cases r2 with
        | error e => exact hr2
        | ok fl2 =>
          cases fl2 with
          | ret r =>
            obtain ⟨rfl, h', tk, c, rfl, ⟨hc, hS'⟩, hk'⟩ := hr2
            repeat (any_goals (first | assumption | wp_step))
            exact h _ _ c hc hS' hk'
          | _ => exact hr2.elim
    | _ => exact hr.elim
end
end SS2
namespace L2
open PySem PySem.Spec PyProof.Rows
/-- len(set(xs)), xs a list or tuple of texts -/
def tLenSetA (K : PySem.W.Frag) (ta : TE) : TE := fun σ H Q => ta σ H fun x H1 => ∃ l, ∃ xs : List Str, x = .ref l ∧ (SqL K H1 l (xs.map V.str) ∨ SqT K H1 l (xs.map V.str)) ∧ xs.length ≤ 300 ∧ ∀ c : Nat, (c = xs.length ↔ xs.Nodup) → Q (.int c) H1
theorem pe_lenSetA {X : Cx} {a : Expr} {ta : TE} {p p2 q pos : Pos} (hc : X.calm = true) (hg : Gl X "len") (hm : X.mg "len" = none) (hg2 : Gl X "set") (hm2 : X.mg "set" = none) (ha : PE X a ta) (na : starEach [a] X.env = (false, eval a X.env) :: starEach [] X.env := by rfl) :
    PE X (.Call (.Name "len" p) [.Call (.Name "set" p2) [a] [] q] [] pos) (tLenSetA X.K ta) := by
  refine ⟨fun pins s σ H Q I h => Call_ (ld_blt I hg hm boot_len (PyProof.Rows.callWith_builtin1 (PyProof.Rows.args_cons (Call_ (ld_blt I hg2 hm2 boot_set ?_)) rfl) rfl rfl))⟩
  refine PyProof.Rows.callWith_type1 (PyProof.Rows.args_cons (thn (ha.run pins s σ H _ I h) fun v s1 ⟨x, H1, I1, r1, l, xs, ex, hq, h1, q1⟩ => PyProof.Rows.args_nil ?_) na) na rfl
  subst ex
  cases r1
  have sb : xs.length + 1 < scanBound := by
    unfold scanBound
    omega
  have fin : ∀ (h' : Heap) (tk c : Nat), SS2.Cn xs xs.length c → (∃ S, h'.SetOf (PySem.strKind X.prog X.w) s1.heap.objs.size S c) → (∀ b o, b < s1.heap.objs.size → s1.heap.get? b = some o → h'.get? b = some o) →
      wpAny (model X.prog X.w) X.A (spliced (backTo pos (starEach [] X.env))) (fun vs s2 => wpAny (model X.prog X.w) X.A (call (.builtin "len") (Value.ref s1.heap.objs.size :: vs)) (EP X pins σ Q) X.xe s2) X.xe { s1 with heap := h', toks := tk } := fun h' tk c hc' ⟨S, hS⟩ hk => by
    obtain ⟨o, es, ep, t, ho, hex, hd, _, _, _, hf, hn⟩ := hS
    have I2 : Inv X pins σ H1 { s1 with heap := h', toks := tk } := I1.kept fun b o e => hk b o (Heap.lt_size e) e
    exact PyProof.Rows.args_nil (call_len_set ho hex hd hf (by have := hc'.1; rw [hn] <;> omega) ⟨.int c, H1, I2.tok _, ⟨_, by rw [hn]⟩, q1 c (by have := hc'.2; rwa [List.take_length] at this)⟩)
  rcases hq with hq | hq
  · obtain ⟨its, r, pl, hz⟩ := I1.list hq
    exact SS2.call_setL (I1.ok.hd hc) pl.isList (by simpa using strsAre_of r) sb fin
  · obtain ⟨its, r, pl, hz⟩ := I1.tuple hq
    exact SS2.call_setT (I1.ok.hd hc) pl (by simpa using strsAre_of r) sb fin
end L2


/-! list(zip(x, y)) of any two that are drawn from, of one length -/
namespace PySem
open Sem (wp)
section
variable {prog : Program} {w : World} {A : Around} {E : Value → Shared → Prop} {s : Shared}
theorem alive_rule {a : Addr} {o : Obj} {Q : Option Obj → Shared → Prop} (ho : s.heap.get? a = some o) (h : Q (some o) s) : wpAny (model prog w) A (loadIfAlive a) Q E s := fun Γ p _ => by
  show Sem.wp _ Γ (.loadIfAlive a .pure) _ _ p s
  rw [Sem.wp_loadIfAlive, ho]
  exact h
abbrev ZipAt (h : Heap) (z TI TO T : Addr) (b : Bool) : Prop := h.get? z = some { cls := .type "zip", dict := none, data := .fields #[rawInt T, .bool b, .bool false, .ref TI, .ref TO], slots := #[] }
/-- h' keeps all of h but at z, and is as large -/
def ButAt (z : Addr) (h h' : Heap) : Prop := (∀ c o, c ≠ z → h.get? c = some o → h'.get? c = some o) ∧ h'.objs.size = h.objs.size
theorem owned_lives {z TI TO T : Addr} {b : Bool} {oT : Obj} {Q : Bool → Shared → Prop} (hz : ZipAt s.heap z TI TO T b) (hT : s.heap.get? T = some oT)
    (h : ∀ h', ZipAt h' z TI TO T true → ButAt z s.heap h' → Q false { s with heap := h' }) : wpAny (model prog w) A (Builtin.SmallTypes.ownedTupleIsFree (.ref z)) Q E s := by
  unfold Builtin.SmallTypes.ownedTupleIsFree
  refine wpAny_bind (wpAny_field hz rfl (x := rawInt T) rfl ?_)
  show wpAny _ _ (loadIfAlive ((T : Int)).toNat >>= _) _ _ _
  rw [Int.toNat_natCast]
  refine wpAny_bind (alive_rule hT ?_)
  simp only [Option.isNone_some, Bool.false_eq_true, if_false]
  refine wpAny_bind ?_
  refine wpAny_field hz rfl (x := .bool b) rfl ?_
  cases b with
  | true => exact wpAny_pure (h s.heap hz ⟨fun _ _ _ e => e, rfl⟩)
  | false =>
    show wpAny _ _ (setField (.ref z) 1 (.bool true) >>= _) _ _ _
    refine wpAny_bind (wpAny_setField_rec hz (by simp) fun h' hz' hs => wpAny_pure (h h' hz' ⟨fun c o n e => hs.extBut c o n e, hs.1⟩))
end
section
variable {prog : Program} {w : World} {A : Around} {E : Value → Shared → Prop} {s : Shared} {z TI TO i1 i2 T : Addr} {fp1 fp2 : List Addr} {n i : Nat} {P1 P2 : Nat → Value → Prop} {St1 St2 : Nat → Heap → Prop} {b0 : Bool} {oT : Obj}
theorem zipD_more {Q : Value → Shared → Prop} (S : ZipSep2 z TI TO i1 i2 fp1 fp2) (D1 : Draws prog w A i1 fp1 n P1 St1) (D2 : Draws prog w A i2 fp2 n P2 St2) (hz : ZipAt s.heap z TI TO T b0) (hTz : s.heap.get? T = some oT)
    (hTI : IsPair s.heap TI (.ref i1) (.ref i2)) (st1 : St1 i s.heap) (st2 : St2 i s.heap) (hi : i < n)
    (hQ : ∀ x y h' tk, P1 i x → P2 i y → ZipAt h' z TI TO T true → St1 (i + 1) h' → St2 (i + 1) h' → IsPair h' s.heap.objs.size x y → h'.objs.size = s.heap.objs.size + 1 →
      (∀ c o, c ≠ z → c ≠ i1 → c ≠ i2 → s.heap.get? c = some o → h'.get? c = some o) → Q (.ref s.heap.objs.size) { s with heap := h', toks := tk }) :
    wpAny (model prog w) A (Builtin.«zip.__next__» ⟨[.ref z], []⟩) (fun fin s' => ∃ v, fin = .done (.ret v) ∧ Q v s') E s := by
  have i1z : i1 ≠ z := fun e => S.zf1 (e ▸ S.mem1)
  have i2z : i2 ≠ z := fun e => S.zf2 (e ▸ S.mem2)
  show wpAny _ _ (field (.ref z) 2 >>= _) _ _ _
  refine wpAny_bind (wpAny_field hz rfl (x := .bool false) rfl ?_)
  show wpAny _ _ (field (.ref z) 3 >>= _) _ _ _
  refine wpAny_bind (wpAny_field hz rfl (x := .ref TI) rfl ?_)
  refine wpAny_bind (wpAny_seqItems hTI rfl ?_)
  show wpAny _ _ (Builtin.SmallTypes.ownedTupleIsFree (.ref z) >>= _) _ _ _
  refine wpAny_bind (owned_lives hz hTz fun g1 gz1 b1 => ?_)
  simp only [Bool.false_eq_true, if_false]
  refine wpAny_bind ?_
  rw [← Array.forIn_toList]
  simp only [List.forIn_cons, List.forIn_nil]
  have up1 : ∀ c o, c ≠ z → s.heap.get? c = some o → g1.get? c = some o := b1.1
  refine wpAny_bind (wpAny_bind (wpAny_holding ?_))
  show wpAny _ _ (Builtin.SmallTypes.nextOf (.ref i1) >>= _) _ _ _
  refine wpAny_bind (D1.item i _ _ _ hi (D1.frame _ _ _ st1 fun b hb o e => up1 b o (fun q => S.zf1 (q ▸ hb)) e) fun x g2 tk2 px j1 b2 => wpAny_pure ?_)
  replace b2 : Heap.SameBut i1 g1 g2 := b2
  refine wpAny_pure ?_
  refine wpAny_bind (wpAny_bind (wpAny_holding ?_))
  show wpAny _ _ (Builtin.SmallTypes.nextOf (.ref i2) >>= _) _ _ ⟨g2, s.gens, s.drawn, tk2, s.os⟩
  refine wpAny_bind (D2.item i ⟨g2, s.gens, s.drawn, tk2, s.os⟩ _ _ hi (D2.frame _ _ _ (D2.frame _ _ _ st2 fun b hb o e => up1 b o (fun q => S.zf2 (q ▸ hb)) e) fun b hb o e => b2.extBut _ _ (fun q => S.sep1_2 (q ▸ hb)) e) fun y g3 tk3 py j2 b3 => wpAny_pure ?_)
  replace b3 : Heap.SameBut i2 g2 g3 := b3
  refine wpAny_pure (wpAny_pure ?_)
  refine wpAny_bind (wpAny_newTuple ?_ (by show 2 ≤ sizeLine; decide))
  have size : g3.objs.size = s.heap.objs.size := by rw [b3.1, b2.1]; exact b1.2
  have up3 : ∀ c o, c ≠ z → c ≠ i1 → c ≠ i2 → s.heap.get? c = some o → g3.get? c = some o := fun c o c1 c2 c3 e => b3.extBut _ _ c3 (b2.extBut _ _ c2 (up1 _ _ c1 e))
  have gz3 : ZipAt g3 z TI TO T true := b3.extBut _ _ i2z.symm (b2.extBut _ _ i1z.symm gz1)
  have j13 : St1 (i + 1) g3 := D1.frame _ _ _ j1 fun b hb o e => b3.extBut _ _ (fun q => S.sep2_1 (q ▸ hb)) e
  refine wpAny_pure ⟨_, rfl, ?_⟩
  show Q (.ref g3.objs.size) { s with heap := g3.push { cls := .type "tuple", data := .seq #[x, y] }, toks := tk3 }
  have push : ∀ c o, g3.get? c = some o → (g3.push { cls := .type "tuple", data := .seq #[x, y] }).get? c = some o := fun c o e => Heap.get?_push_of_some _ e
  have new : IsPair (g3.push { cls := .type "tuple", data := .seq #[x, y] }) g3.objs.size x y := Heap.get?_push_size _ rfl
  have big : (g3.push { cls := .type "tuple", data := .seq #[x, y] }).objs.size = s.heap.objs.size + 1 := by rw [Heap.size_push, size]
  rw [size] at new ⊢
  exact hQ x y _ tk3 px py (push _ _ gz3) (D1.frame _ _ _ j13 fun b _ o e => push _ o e) (D2.frame _ _ _ j2 fun b _ o e => push _ o e) new big fun c o c1 c2 c3 e => push _ _ (up3 c o c1 c2 c3 e)
theorem zipD_more_end {Q : Fin → Shared → Prop} (S : ZipSep2 z TI TO i1 i2 fp1 fp2) (D1 : Draws prog w A i1 fp1 n P1 St1) (hz : ZipAt s.heap z TI TO T b0) (hTz : s.heap.get? T = some oT)
    (hTI : IsPair s.heap TI (.ref i1) (.ref i2)) (st1 : St1 n s.heap)
    (hE : ∀ h' e, (∀ c o, c ≠ z → c ≠ i1 → c ≠ i2 → s.heap.get? c = some o → h'.get? c = some o) → (∃ o, h'.get? e = some o ∧ o.cls = .type "StopIteration") → E (.ref e) { s with heap := h' }) :
    wpAny (model prog w) A (Builtin.«zip.__next__» ⟨[.ref z], []⟩) Q E s := by
  show wpAny _ _ (field (.ref z) 2 >>= _) _ _ _
  refine wpAny_bind (wpAny_field hz rfl (x := .bool false) rfl ?_)
  show wpAny _ _ (field (.ref z) 3 >>= _) _ _ _
  refine wpAny_bind (wpAny_field hz rfl (x := .ref TI) rfl ?_)
  refine wpAny_bind (wpAny_seqItems hTI rfl ?_)
  show wpAny _ _ (Builtin.SmallTypes.ownedTupleIsFree (.ref z) >>= _) _ _ _
  refine wpAny_bind (owned_lives hz hTz fun g1 gz1 b1 => ?_)
  simp only [Bool.false_eq_true, if_false]
  refine wpAny_bind ?_
  rw [← Array.forIn_toList]
  simp only [List.forIn_cons, List.forIn_nil]
  have up1 : ∀ c o, c ≠ z → s.heap.get? c = some o → g1.get? c = some o := b1.1
  refine wpAny_bind (wpAny_bind (wpAny_holding ?_))
  show wpAny _ _ (Builtin.SmallTypes.nextOf (.ref i1) >>= _) _ _ _
  exact wpAny_bind (D1.done _ _ _ (D1.frame _ _ _ st1 fun b hb o e => up1 b o (fun q => S.zf1 (q ▸ hb)) e) fun g2 e b2 he => hE g2 e (fun c o c1 c2 c3 q => b2 _ _ c2 (up1 _ _ c1 q)) he)
theorem pyNextD_more {Q : Option Value → Shared → Prop} (S : ZipSep2 z TI TO i1 i2 fp1 fp2) (D1 : Draws prog w A.in1 i1 fp1 n P1 St1) (D2 : Draws prog w A.in1 i2 fp2 n P2 St2) (hz : ZipAt s.heap z TI TO T b0) (hTz : s.heap.get? T = some oT)
    (hTI : IsPair s.heap TI (.ref i1) (.ref i2)) (st1 : St1 i s.heap) (st2 : St2 i s.heap) (hi : i < n)
    (hQ : ∀ x y h' tk, P1 i x → P2 i y → ZipAt h' z TI TO T true → St1 (i + 1) h' → St2 (i + 1) h' → IsPair h' s.heap.objs.size x y → h'.objs.size = s.heap.objs.size + 1 →
      (∀ c o, c ≠ z → c ≠ i1 → c ≠ i2 → s.heap.get? c = some o → h'.get? c = some o) → Q (some (.ref s.heap.objs.size)) { s with heap := h', toks := tk }) :
    wpAny (model prog w) A (pyNext (.ref z)) Q E s := by
  have ty : s.TypeIs (.ref z) "zip" := ⟨_, hz, rfl⟩
  unfold pyNext
  refine wpAny_bind (wpAny_attempt (wpAny_callSpecial?_slot (name := Str.ofString "__next__") ty F.slot_zip_next (wpAny_call_entry F.slot_zip_next ty F.entry_zip_next ?_ (F.args_zip_next_1 _))))
  exact zipD_more S D1 D2 hz hTz hTI st1 st2 hi fun x y h' tk p1 p2 a1 a2 a3 a4 a5 a6 => wpAny_pure (hQ x y h' tk p1 p2 a1 a2 a3 a4 a5 a6)
theorem pyNextD_more_end {Q : Option Value → Shared → Prop} (S : ZipSep2 z TI TO i1 i2 fp1 fp2) (D1 : Draws prog w A.in1 i1 fp1 n P1 St1) (hz : ZipAt s.heap z TI TO T b0) (hTz : s.heap.get? T = some oT)
    (hTI : IsPair s.heap TI (.ref i1) (.ref i2)) (st1 : St1 n s.heap)
    (hQ : ∀ h', (∀ c o, c ≠ z → c ≠ i1 → c ≠ i2 → s.heap.get? c = some o → h'.get? c = some o) → Q none { s with heap := h' }) : wpAny (model prog w) A (pyNext (.ref z)) Q E s := by
  have ty : s.TypeIs (.ref z) "zip" := ⟨_, hz, rfl⟩
  unfold pyNext
  refine wpAny_bind (wpAny_attempt (wpAny_callSpecial?_slot (name := Str.ofString "__next__") ty F.slot_zip_next (wpAny_call_entry F.slot_zip_next ty F.entry_zip_next ?_ (F.args_zip_next_1 _))))
  refine zipD_more_end S D1 hz hTz hTI st1 fun h' e kp he => ?_
  obtain ⟨o, ho, hc⟩ := he
  exact wpAny_bind (wpAny_isInstance (T := "StopIteration") (b := true) ⟨o, ho, hc⟩ isSubtype_stop (wpAny_pure (hQ _ kp)))
end
/-- the tuples that came so far: all new behind n0, one behind the other -/
def Got (h : Heap) (n0 : Nat) (bad : List Addr) (P1 P2 : Nat → Value → Prop) (acc : Array Value) (i : Nat) : Prop := acc.size = i ∧ (∀ (j : Nat) (v : Value), acc[j]? = some v → ∃ (T : Addr) (x y : Value), v = .ref T ∧ n0 ≤ T ∧ T ∉ bad ∧ P1 j x ∧ P2 j y ∧ IsPair h T x y) ∧
  ∀ (j k : Nat) (T U : Addr), j < k → acc[j]? = some (.ref T) → acc[k]? = some (.ref U) → T < U
theorem Got.keep {h h' : Heap} {n0 : Nat} {bad : List Addr} {P1 P2 : Nat → Value → Prop} {acc : Array Value} {i : Nat} (g : Got h n0 bad P1 P2 acc i) (k : ∀ c o, c ∉ bad → h.get? c = some o → h'.get? c = some o) : Got h' n0 bad P1 P2 acc i := ⟨g.1, fun j v e => by
  obtain ⟨T, x, y, h1, h0, h2, h3, h4, h5⟩ := g.2.1 j v e
  exact ⟨T, x, y, h1, h0, h2, h3, h4, k _ _ h2 h5⟩, g.2.2⟩
theorem Got.push {h : Heap} {n0 : Nat} {bad : List Addr} {P1 P2 : Nat → Value → Prop} {acc : Array Value} {i : Nat} {T : Addr} {x y : Value} (g : Got h n0 bad P1 P2 acc i) (n : T ∉ bad) (h0 : n0 ≤ T) (hx : P1 i x) (hy : P2 i y) (hT : IsPair h T x y) (hl : ∀ (j : Nat) (U : Addr), acc[j]? = some (.ref U) → U < T) : Got h n0 bad P1 P2 (acc.push (.ref T)) (i + 1) := by
  refine ⟨by rw [Array.size_push, g.1], fun j v e => ?_, fun j k A B hjk e1 e2 => ?_⟩
  · rw [Array.getElem?_push] at e
    split at e
    · rename_i q
      rw [g.1] at q
      cases e
      subst q
      exact ⟨T, x, y, rfl, h0, n, hx, hy, hT⟩
    · exact g.2.1 j v e
  · have hk : k < (acc.push (.ref T)).size := (Array.getElem?_eq_some_iff.mp e2).1
    rw [Array.size_push] at hk
    have e1' : acc[j]? = some (.ref A) := by
      rw [Array.getElem?_push, if_neg (by omega)] at e1
      exact e1
    rw [Array.getElem?_push] at e2
    split at e2
    · cases e2
      exact hl j A e1'
    · exact g.2.2 j k A B hjk e1' e2
theorem Got.low {h : Heap} {n0 : Nat} {bad : List Addr} {P1 P2 : Nat → Value → Prop} {acc : Array Value} {i : Nat} (g : Got h n0 bad P1 P2 acc i) (j : Nat) (U : Addr) (e : acc[j]? = some (.ref U)) : U < h.objs.size := by
  obtain ⟨T, x, y, h1, _, _, _, _, h5⟩ := g.2.1 j _ e
  cases h1
  exact Heap.lt_size h5
/-- the zip as it stands ahead of a pull -/
def ZipGo (h : Heap) (z TI TO i1 i2 : Addr) : Prop := IsZip h z TI TO .none ∨ ∃ T b oT, ZipAt h z TI TO T b ∧ h.get? T = some oT ∧ T ≠ z ∧ T ≠ TO ∧ T ≠ i1 ∧ T ≠ i2
structure ZSt (h : Heap) (z TI TO i1 i2 : Addr) (St1 St2 : Nat → Heap → Prop) (i : Nat) : Prop where
  go : ZipGo h z TI TO i1 i2
  ti : IsPair h TI (.ref i1) (.ref i2)
  to : ∃ a b, IsPair h TO a b
  j1 : St1 i h
  j2 : St2 i h
section
variable {prog : Program} {w : World} {A : Around} {E : Value → Shared → Prop} {s : Shared} {z TI TO i1 i2 : Addr} {fp1 fp2 : List Addr} {n i : Nat} {P1 P2 : Nat → Value → Prop} {St1 St2 : Nat → Heap → Prop}
theorem zD_lts {B : Around} (D1 : Draws prog w B i1 fp1 n P1 St1) (D2 : Draws prog w B i2 fp2 n P2 St2) (st : ZSt s.heap z TI TO i1 i2 St1 St2 i) : z < s.heap.objs.size ∧ TO < s.heap.objs.size ∧ i1 < s.heap.objs.size ∧ i2 < s.heap.objs.size := by
  obtain ⟨go, _, ⟨a, b, to⟩, j1, j2⟩ := st
  obtain ⟨o1, e1⟩ := D1.live _ _ j1
  obtain ⟨o2, e2⟩ := D2.live _ _ j2
  refine ⟨?_, Heap.lt_size to, Heap.lt_size e1, Heap.lt_size e2⟩
  rcases go with q | ⟨T, b, oT, q, _⟩
  · exact Heap.lt_size q
  · exact Heap.lt_size q
theorem zD_pull {Q : Option Value → Shared → Prop} (S : ZipSep2 z TI TO i1 i2 fp1 fp2) (D1 : Draws prog w A.in1 i1 fp1 n P1 St1) (D2 : Draws prog w A.in1 i2 fp2 n P2 St2) (st : ZSt s.heap z TI TO i1 i2 St1 St2 i) (hi : i < n)
    (hQ : ∀ x y h' tk, P1 i x → P2 i y → ZSt h' z TI TO i1 i2 St1 St2 (i + 1) → IsPair h' s.heap.objs.size x y → h'.objs.size = s.heap.objs.size + 1 → (∀ c o, c ≠ z → c ≠ TO → c ≠ i1 → c ≠ i2 → s.heap.get? c = some o → h'.get? c = some o) → Q (some (.ref s.heap.objs.size)) { s with heap := h', toks := tk }) :
    wpAny (model prog w) A (pyNext (.ref z)) Q E s := by
  obtain ⟨lz, lTO, li1, li2⟩ := zD_lts D1 D2 st
  obtain ⟨go, ti, ⟨a, b, to⟩, j1, j2⟩ := st
  have TOi1 : TO ≠ i1 := fun e => S.Tf1 (e ▸ S.mem1)
  have TOi2 : TO ≠ i2 := fun e => S.Tf2 (e ▸ S.mem2)
  rcases go with q | ⟨T, b0, oT, q, hT, n1, n2, n3, n4⟩
  · refine wpAny_pyNext_zipD2_item S D1 D2 q ti to j1 j2 hi hi fun x y h' tk p1 p2 a1 a2 a3 a4 a5 a6 kp => ?_
    exact hQ x y h' tk p1 p2 ⟨.inr ⟨s.heap.objs.size, false, _, a1, a5, Nat.ne_of_gt lz, Nat.ne_of_gt lTO, Nat.ne_of_gt li1, Nat.ne_of_gt li2⟩, kp _ _ S.TIz S.TITO S.TIi1 S.TIi2 ti, ⟨_, _, a2⟩, a3, a4⟩ a5 a6 kp
  · refine pyNextD_more S D1 D2 q hT ti j1 j2 hi fun x y h' tk p1 p2 a1 a2 a3 a4 a5 kp => ?_
    exact hQ x y h' tk p1 p2 ⟨.inr ⟨T, true, oT, a1, kp _ _ n1 n3 n4 hT, n1, n2, n3, n4⟩, kp _ _ S.TIz S.TIi1 S.TIi2 ti, ⟨a, b, kp _ _ S.TOz TOi1 TOi2 to⟩, a2, a3⟩ a4 a5 fun c o c1 _ c3 c4 e => kp c o c1 c3 c4 e
theorem zD_stop {Q : Option Value → Shared → Prop} (S : ZipSep2 z TI TO i1 i2 fp1 fp2) (D1 : Draws prog w A.in1 i1 fp1 n P1 St1) (D2 : Draws prog w A.in1 i2 fp2 n P2 St2) (st : ZSt s.heap z TI TO i1 i2 St1 St2 n)
    (hQ : ∀ h' tk, (∀ c o, c ≠ z → c ≠ TO → c ≠ i1 → c ≠ i2 → s.heap.get? c = some o → h'.get? c = some o) → Q none { s with heap := h', toks := tk }) : wpAny (model prog w) A (pyNext (.ref z)) Q E s := by
  obtain ⟨go, ti, ⟨a, b, to⟩, j1, j2⟩ := st
  rcases go with q | ⟨T, b0, oT, q, hT, n1, n2, n3, n4⟩
  · exact wpAny_pyNext_zipD2_end S D1 D2 q ti to j1 j2 (Nat.le_refl _) (Nat.le_refl _) (.inl rfl) hQ
  · exact pyNextD_more_end S D1 q hT ti j1 fun h' kp => hQ h' s.toks fun c o c1 _ c3 c4 e => kp c o c1 c3 c4 e
theorem ZSt.keep {B : Around} {h h' : Heap} {L : Addr} (S : ZipSep2 z TI TO i1 i2 fp1 fp2) (D1 : Draws prog w B i1 fp1 n P1 St1) (D2 : Draws prog w B i2 fp2 n P2 St2) (st : ZSt h z TI TO i1 i2 St1 St2 i) (nS : L ∉ [z, TI, TO] ∧ L ∉ fp1 ∧ L ∉ fp2) (k : ∀ c o, c ≠ L → h.get? c = some o → h'.get? c = some o) (hS : ∃ o, h'.get? L = some o) : ZSt h' z TI TO i1 i2 St1 St2 i := by
  obtain ⟨m0, f1, f2⟩ := nS
  simp only [List.mem_cons, List.not_mem_nil, or_false, not_or] at m0
  obtain ⟨m1, m2, m3⟩ := m0
  obtain ⟨go, ti, ⟨a, b, to⟩, j1, j2⟩ := st
  refine ⟨?_, k _ _ (Ne.symm m2) ti, ⟨a, b, k _ _ (Ne.symm m3) to⟩, D1.frame _ _ _ j1 fun b hb o e => k b o (fun q => f1 (q ▸ hb)) e, D2.frame _ _ _ j2 fun b hb o e => k b o (fun q => f2 (q ▸ hb)) e⟩
  rcases go with q | ⟨T, b0, oT, q, hT, n⟩
  · exact .inl (k _ _ (Ne.symm m1) q)
  · by_cases e : T = L
    · obtain ⟨o, ho⟩ := hS
      exact .inr ⟨T, b0, o, k _ _ (Ne.symm m1) q, e ▸ ho, n⟩
    · exact .inr ⟨T, b0, oT, k _ _ (Ne.symm m1) q, k _ _ e hT, n⟩
theorem zD_loop {R : Result → Shared → Prop} (S : ZipSep2 z TI TO i1 i2 fp1 fp2) (D1 : Draws prog w A.in1.in1 i1 fp1 n P1 St1) (D2 : Draws prog w A.in1.in1 i2 fp2 n P2 St2) (hn : n ≤ sizeLine) (L : Addr) (nS : L ∉ [z, TI, TO] ∧ L ∉ fp1 ∧ L ∉ fp2) (res : Value) (n0 : Nat) :
    ∀ (k i : Nat) (s : Shared) (acc : Array Value) (c : Nat), n - i = k → i ≤ n → ZSt s.heap z TI TO i1 i2 St1 St2 i → s.heap.get? L = some { cls := .type "list", dict := none, data := .seq acc c, slots := #[] } → n0 ≤ s.heap.objs.size → Got s.heap n0 [z, TO, i1, i2, L] P1 P2 acc i →
    (∀ h' tk acc' c', (∀ c o, c ∉ [z, TO, i1, i2, L] → s.heap.get? c = some o → h'.get? c = some o) → h'.get? L = some { cls := .type "list", dict := none, data := .seq acc' c', slots := #[] } → Got h' n0 [z, TO, i1, i2, L] P1 P2 acc' n → R (.ok (.ret res)) { s with heap := h', toks := tk }) →
    codeAny (model prog w) A (.builtin "list.extend.loop" ⟨[.ref L, .ref z, res], []⟩) R s := by
  have nS' := nS
  obtain ⟨m0, f1, f2⟩ := nS'
  simp only [List.mem_cons, List.not_mem_nil, or_false, not_or] at m0
  obtain ⟨m1, m2, m3⟩ := m0
  have m4 : L ≠ i1 := fun e => f1 (e ▸ S.mem1)
  have m5 : L ≠ i2 := fun e => f2 (e ▸ S.mem2)
  have four : ∀ c : Addr, c ∉ [z, TO, i1, i2, L] → c ≠ z ∧ c ≠ TO ∧ c ≠ i1 ∧ c ≠ i2 ∧ c ≠ L := fun c hc => by
    simpa only [List.mem_cons, List.not_mem_nil, or_false, not_or] using hc
  intro k
  induction k with
  | zero =>
    intro i s acc c hk hi st hS hn0 got hR
    obtain rfl : i = n := by omega
    refine codeAny_builtin F.entry_extend_loop ?_
    rw [Around.under_plainId F.plain_extend_loop _]
    show wpAny _ A.in1 (pyNext (.ref z) >>= _) _ _ s
    refine wpAny_bind (zD_stop S D1 D2 st fun h' tk kp => ?_)
    have kp' : ∀ c o, c ∉ [z, TO, i1, i2, L] → s.heap.get? c = some o → h'.get? c = some o := fun c o hc e => by
      obtain ⟨c1, c2, c3, c4, _⟩ := four c hc
      exact kp c o c1 c2 c3 c4 e
    exact wpAny_pure (hR h' tk acc c kp' (kp _ _ m1 m3 m4 m5 hS) (got.keep kp'))
  | succ k ih =>
    intro i s acc c hk hi st hS hn0 got hR
    have ix : i < n := by omega
    refine codeAny_builtin F.entry_extend_loop ?_
    rw [Around.under_plainId F.plain_extend_loop _]
    show wpAny _ A.in1 (pyNext (.ref z) >>= _) _ _ s
    obtain ⟨lz, lTO, li1, li2⟩ := zD_lts D1 D2 st
    have lS := Heap.lt_size hS
    refine wpAny_bind (zD_pull S D1 D2 st ix fun x y h' tk px py st' hT size kp => ?_)
    have kp' : ∀ c o, c ∉ [z, TO, i1, i2, L] → s.heap.get? c = some o → h'.get? c = some o := fun c o hc e => by
      obtain ⟨c1, c2, c3, c4, _⟩ := four c hc
      exact kp c o c1 c2 c3 c4 e
    have hS' := kp _ _ m1 m3 m4 m5 hS
    have nT : s.heap.objs.size ∉ [z, TO, i1, i2, L] := by
      simp only [List.mem_cons, List.not_mem_nil, or_false, not_or]
      exact ⟨Nat.ne_of_gt lz, Nat.ne_of_gt lTO, Nat.ne_of_gt li1, Nat.ne_of_gt li2, Nat.ne_of_gt lS⟩
    have got' := (got.keep kp').push nT hn0 px py hT got.low
    show wpAny _ A.in1 (updateSeq L (·.push (.ref s.heap.objs.size)) >>= _) _ _ _
    refine wpAny_bind ?_
    refine wpAny_updateSeq hS' rfl (wpAny_pure ⟨plainId_quiet F.plain_extend_loop _, ?_⟩) (by rw [got.1]; omega) (by show (acc.push (.ref s.heap.objs.size)).size ≤ sizeLine + 1; rw [Array.size_push, got.1]; omega)
    have up : ∀ b o, b ≠ L → h'.get? b = some o → (h'.update L (Obj.mapSeq (·.push (.ref s.heap.objs.size)))).get? b = some o := fun b o hb e => (Heap.get?_update_other _ _ (fun h : L = b => hb h.symm)).trans e
    refine ih (i + 1) { s with heap := h'.update L (Obj.mapSeq (·.push (.ref s.heap.objs.size))), toks := tk } (acc.push (.ref s.heap.objs.size)) _ (by omega) ix (st'.keep S D1 D2 nS up ⟨_, Heap.get?_update_self _ hS' rfl⟩) (Heap.get?_update_self _ hS' rfl) (Nat.le_trans hn0 (Nat.le_of_lt (Heap.lt_size (up _ _ (Nat.ne_of_gt lS) hT)))) (got'.keep fun b o hb e => up b o (four b hb).2.2.2.2 e) fun h'' tk'' acc'' c'' kp'' hS'' got'' => ?_
    exact hR h'' tk'' acc'' c'' (fun b o hb e => kp'' b o hb (up b o (four b hb).2.2.2.2 (kp' b o hb e))) hS'' got''
theorem zip_no_len : typeLookup (.type "zip") "__len__" = pure none := by rw [typeLookup_type, builtinLookup_eq_fast]; kernel_rfl
theorem zip_no_hint : typeLookup (.type "zip") "__length_hint__" = pure none := by rw [typeLookup_type, builtinLookup_eq_fast]; kernel_rfl
theorem extendD_zip {R : Result → Shared → Prop} (S : ZipSep2 z TI TO i1 i2 fp1 fp2) (D1 : Draws prog w A.in1.in1 i1 fp1 n P1 St1) (D2 : Draws prog w A.in1.in1 i2 fp2 n P2 St2) (hn : n ≤ sizeLine) (hz0 : IsZip s.heap z TI TO .none) (st : ZSt s.heap z TI TO i1 i2 St1 St2 0) (L : Addr) (nS : L ∉ [z, TI, TO] ∧ L ∉ fp1 ∧ L ∉ fp2) (c0 : Nat)
    (hS : s.heap.get? L = some { cls := .type "list", data := .seq #[] c0 }) (n0 : Nat) (hn0 : n0 ≤ s.heap.objs.size) (res : Value)
    (hR : ∀ h' tk acc c', (∀ c o, c ∉ [z, TO, i1, i2, L] → s.heap.get? c = some o → h'.get? c = some o) → h'.get? L = some { cls := .type "list", dict := none, data := .seq acc c', slots := #[] } → Got h' n0 [z, TO, i1, i2, L] P1 P2 acc n → R (.ok (.ret res)) { s with heap := h', toks := tk }) :
    wpAny (model prog w) A.in1 (Builtin.List.listExtendWith (.ref L) (.ref z) res)
      (fun fin s' => match fin with | .done f => R (.ok f) s' | .again c' => c'.quiet = true ∧ codeAny (model prog w) A c' R s') (fun e s' => R (.error e) s') s := by
  have nz : L ≠ z := fun e => nS.1 (by rw [e]; exact List.mem_cons_self)
  have ty : s.TypeIs (.ref z) "zip" := ⟨_, hz0, rfl⟩
  unfold Builtin.List.listExtendWith
  refine wpAny_bind (wpAny_typeOf ty ?_)
  have n1 : Builtin.List.listSameRef (.ref L) (.ref z) = false := by simp [Builtin.List.listSameRef, nz]
  have n2 : (Value.type "zip" == Value.type "list") = false := by decide
  have n3 : (Value.type "zip" == Value.type "tuple") = false := by decide
  simp only [n1, n2, n3, Bool.or_false, Bool.false_eq_true, if_false]
  refine wpAny_bind (wpAny_pyIter_zip hz0 ?_)
  refine wpAny_bind (wpAny_holding ?_)
  unfold Builtin.List.listLengthHint
  refine wpAny_bind (wpAny_specialOf ty zip_no_len ?_)
  show wpAny _ A.in1 (specialOf (Value.ref z) (Str.ofString "__length_hint__") >>= _) _ _ _
  refine wpAny_bind (wpAny_specialOf ty zip_no_hint ?_)
  refine wpAny_pure ?_
  show wpAny _ A.in1 (rule "list.extend.makes-room" >>= fun _ => Builtin.List.listTouch (.ref L) >>= fun _ =>
    again (.builtin "list.extend.loop" ⟨[.ref L, .ref z, res], []⟩)) _ _ _
  refine wpAny_bind (wpAny_rule ?_)
  refine wpAny_bind ?_
  show wpAny _ A.in1 (updateSeq L (·.push .none) >>= fun _ => updateSeq L (·.pop)) _ _ _
  refine wpAny_bind (wpAny_updateSeq hS rfl ?_)
  have at2 := Heap.get?_update_self (Obj.mapSeq (·.push Value.none)) hS rfl
  refine wpAny_updateSeq at2 rfl ?_
  have at3 := Heap.get?_update_self (Obj.mapSeq (·.pop)) at2 rfl
  have oth : ∀ b o, b ≠ L → s.heap.get? b = some o → ((s.heap.update L (Obj.mapSeq (·.push Value.none))).update L (Obj.mapSeq (·.pop))).get? b = some o :=
    fun b o hb e => (Heap.get?_update_other _ _ (Ne.symm hb)).trans ((Heap.get?_update_other _ _ (Ne.symm hb)).trans e)
  have big : s.heap.objs.size ≤ ((s.heap.update L (Obj.mapSeq (·.push Value.none))).update L (Obj.mapSeq (·.pop))).objs.size := by
    simp [Heap.size_update]
  refine wpAny_pure ⟨plainId_quiet F.plain_extend_loop _, zD_loop (i := 0) (s := { s with heap := ((s.heap.update L (Obj.mapSeq (·.push Value.none))).update L (Obj.mapSeq (·.pop))) })
    S D1 D2 hn L nS res n0 n #[] _ rfl (Nat.zero_le _) (st.keep S D1 D2 nS oth ⟨_, at3⟩) at3 (Nat.le_trans hn0 big) ⟨rfl, (fun j v e => by simp at e), fun j k T U _ e => by simp at e⟩ fun h' tk acc' c' kp hS got => ?_⟩
  exact hR h' tk acc' c' (fun c o hc e => kp c o hc (oth c o (fun q => hc (by simp [q])) e)) hS got
theorem listD_init_zip {R : Result → Shared → Prop} (S : ZipSep2 z TI TO i1 i2 fp1 fp2) (D1 : Draws prog w A.in1.in1 i1 fp1 n P1 St1) (D2 : Draws prog w A.in1.in1 i2 fp2 n P2 St2) (hn : n ≤ sizeLine) (hz0 : IsZip s.heap z TI TO .none) (st : ZSt s.heap z TI TO i1 i2 St1 St2 0) (L : Addr) (nS : L ∉ [z, TI, TO] ∧ L ∉ fp1 ∧ L ∉ fp2)
    (hS : s.heap.get? L = some { cls := .type "list", data := .seq #[] }) (n0 : Nat) (hn0 : n0 ≤ s.heap.objs.size)
    (hR : ∀ h' tk acc c', (∀ c o, c ∉ [z, TO, i1, i2, L] → s.heap.get? c = some o → h'.get? c = some o) → h'.get? L = some { cls := .type "list", dict := none, data := .seq acc c', slots := #[] } → Got h' n0 [z, TO, i1, i2, L] P1 P2 acc n → R (.ok (.ret .none)) { s with heap := h', toks := tk }) :
    wpAny (model prog w) A.in1 (Builtin.«list.__init__» ⟨[.ref L, .ref z], []⟩)
      (fun fin s' => match fin with | .done f => R (.ok f) s' | .again c' => c'.quiet = true ∧ codeAny (model prog w) A c' R s') (fun e s' => R (.error e) s') s := by
  have nz : L ≠ z := fun e => nS.1 (by rw [e]; exact List.mem_cons_self)
  show wpAny _ _ (do let old ← Builtin.List.listItems (.ref L); Builtin.List.listUpdate (.ref L) (fun _ => #[]); letGo old.toList.reverse; Builtin.List.listExtendWith (.ref L) (.ref z) .none) _ _ s
  refine wpAny_bind ?_
  unfold Builtin.List.listItems
  refine wpAny_bind (wpAny_seqItems hS rfl (wpAny_pure ?_))
  show wpAny _ _ (updateSeq L (fun _ => #[]) >>= fun _ => letGo (#[] : Array Value).toList.reverse >>= fun _ => Builtin.List.listExtendWith (.ref L) (.ref z) .none) _ _ s
  refine wpAny_bind (wpAny_updateSeq hS rfl ?_)
  have hS₂ := Heap.get?_update_self (Obj.mapSeq (fun _ => (#[] : Array Value))) hS rfl
  have oth : ∀ b o, b ≠ L → s.heap.get? b = some o → (s.heap.update L (Obj.mapSeq (fun _ => (#[] : Array Value)))).get? b = some o :=
    fun b o hb e => (Heap.get?_update_other _ _ (Ne.symm hb)).trans e
  refine wpAny_bind (wpAny_letGo ?_)
  have big : s.heap.objs.size ≤ (s.heap.update L (Obj.mapSeq (fun _ => (#[] : Array Value)))).objs.size := by
    simp [Heap.size_update]
  refine extendD_zip (s := { s with heap := s.heap.update L (Obj.mapSeq (fun _ => (#[] : Array Value))) }) S D1 D2 hn (oth z _ nz.symm hz0) (st.keep S D1 D2 nS oth ⟨_, hS₂⟩) L nS _ hS₂ n0 (Nat.le_trans hn0 big) .none fun h' tk acc c' kp hS' got => ?_
  exact hR h' tk acc c' (fun c o hc e => kp c o hc (oth c o (fun q => hc (by simp [q])) e)) hS' got
theorem callD_list_zip {Q : Value → Shared → Prop} (S : ZipSep2 z TI TO i1 i2 fp1 fp2) (D1 : Draws prog w A.in1.in1.in1 i1 fp1 n P1 St1) (D2 : Draws prog w A.in1.in1.in1 i2 fp2 n P2 St2) (hn : n ≤ sizeLine) (hz0 : IsZip s.heap z TI TO .none) (st : ZSt s.heap z TI TO i1 i2 St1 St2 0)
    (far : ∀ b ∈ fp1 ++ fp2, b < s.heap.objs.size)
    (hQ : ∀ h' tk acc c', (∀ c o, c ≠ z → c ≠ TO → c ≠ i1 → c ≠ i2 → s.heap.get? c = some o → h'.get? c = some o) → h'.get? s.heap.objs.size = some { cls := .type "list", dict := none, data := .seq acc c', slots := #[] } → Got h' s.heap.objs.size [z, TO, i1, i2, s.heap.objs.size] P1 P2 acc n → Q (.ref s.heap.objs.size) { s with heap := h', toks := tk }) :
    wpAny (model prog w) A (call (.type "list") [.ref z]) Q E s := by
  have old : ∀ c o, s.heap.get? c = some o → c ≠ s.heap.objs.size := fun c o e => Nat.ne_of_lt (Heap.lt_size e)
  have nS : s.heap.objs.size ∉ [z, TI, TO] ∧ s.heap.objs.size ∉ fp1 ∧ s.heap.objs.size ∉ fp2 := by
    obtain ⟨lz, lTO, li1, li2⟩ := zD_lts D1 D2 st
    obtain ⟨_, ti, _⟩ := st
    refine ⟨?_, fun h => Nat.lt_irrefl _ (far _ (List.mem_append_left _ h)), fun h => Nat.lt_irrefl _ (far _ (List.mem_append_right _ h))⟩
    simp only [List.mem_cons, List.not_mem_nil, or_false, not_or]
    exact ⟨Nat.ne_of_gt lz, (old _ _ ti).symm, Nat.ne_of_gt lTO⟩
  refine callType_codes (Q₁ := fun obj s₁ => obj = .ref s.heap.objs.size ∧ s₁ = { s with heap := s.heap.push { cls := .type "list", data := .seq #[] } }) F.called_list (F.typeCall_list_1 _) F.entry_list_init
    (code_list_new _ ⟨rfl, rfl⟩) fun obj s₁ h₁ => ?_
  obtain ⟨rfl, rfl⟩ := h₁
  have hS : (s.heap.push { cls := .type "list", data := .seq #[] }).get? s.heap.objs.size = some { cls := .type "list", data := .seq #[] } := Heap.get?_push_size _ rfl
  have up : ∀ c o, s.heap.get? c = some o → (s.heap.push { cls := .type "list", data := .seq #[] }).get? c = some o := fun c o e => Heap.get?_push_of_some _ e
  refine ⟨⟨_, hS, rfl⟩, F.args_list_init_2 _ _, listD_init_zip (A := A.in1) (s := { s with heap := s.heap.push { cls := .type "list", data := .seq #[] } }) S D1 D2 hn (up _ _ hz0) (st.keep S D1 D2 nS (fun c o _ e => up c o e) ⟨_, hS⟩) s.heap.objs.size nS hS s.heap.objs.size (Nat.le_of_lt (Heap.lt_size hS)) fun h' tk acc c' kp hS' got => ?_⟩
  refine ⟨rfl, hQ h' tk acc c' (fun c o c1 c2 c3 c4 e => kp c o ?_ (up c o e)) hS' got⟩
  simp only [List.mem_cons, List.not_mem_nil, or_false, not_or]
  exact ⟨c1, c2, c3, c4, old c o e⟩
end
end PySem


namespace L2
open PySem PySem.Spec PyProof.Rows
/-! tuple(zip(xs, ys)), list(zip(xs, ys)), in the hand layer: the pairs are new, and tracked -/
def layT : List (Addr × (V × V)) → Hp → Hp
  | [], H => H
  | p :: r, H => layT r (upd H p.1 (.tup [p.2.1, p.2.2]))
theorem layT_out : ∀ (l : List (Addr × (V × V))) (H : Hp) (c : Addr), c ∉ l.map (·.1) → layT l H c = H c
  | [], _, _, _ => rfl
  | p :: r, H, c, h => by
    simp only [List.map_cons, List.mem_cons, not_or] at h
    show layT r (upd H p.1 (.tup [p.2.1, p.2.2])) c = H c
    rw [layT_out r _ c h.2, upd_ne h.1]
theorem layT_in : ∀ (l : List (Addr × (V × V))) (H : Hp), (l.map (·.1)).Nodup → ∀ p ∈ l, layT l H p.1 = some (.tup [p.2.1, p.2.2])
  | [], _, _, _, h => nomatch h
  | q :: r, H, nd, p, h => by
    rw [List.map_cons, List.nodup_cons] at nd
    show layT r (upd H q.1 (.tup [q.2.1, q.2.2])) p.1 = _
    rcases List.mem_cons.mp h with e | e
    · rw [e, layT_out r _ _ nd.1, upd_same]
    · exact layT_in r _ nd.2 p e
/-- the pairs of xs and ys stand in H2 at ts, all new -/
def ZipNew (H1 H2 : Hp) (xs ys : List V) (ts : List Addr) : Prop := Same H1 H2 ∧ Paired (fun (T : Addr) (p : V × V) => H1 T = none ∧ H2 T = some (.tup [p.1, p.2])) ts (xs.zip ys)
/-- the signs of a text -/
def signs (x : Str) : List V := x.cps.toList.map fun c => V.str ⟨#[c]⟩
def rZipS (K : PySem.W.Frag) (vs : List V) (H1 : Hp) (Q : VK) : Prop := ∃ (x : Str) (b : Addr) (ys : List V), vs = [.str x, .ref b] ∧ x.cps.all (· < 128) = true ∧ SqT K H1 b ys ∧ x.cps.size = ys.length ∧ ys.length ≤ 1000 ∧
  ∀ H2 ts t, ZipNew H1 H2 (signs x) ys ts → H1 t = none → H2 t = some (.lst (ts.map V.ref)) → Q (.ref t) H2
def tLstZipS (K : PySem.W.Frag) (ta : TA) : TE := fun σ H Q => ta σ H fun vs H1 => rZipS K vs H1 Q
theorem refsZ : ∀ (l : List Value), (∀ v ∈ l, ∃ T : Addr, v = .ref T) → ∃ ts : List Addr, l = ts.map Value.ref
  | [], _ => ⟨[], rfl⟩
  | v :: l, h => by
    obtain ⟨T, rfl⟩ := h v List.mem_cons_self
    obtain ⟨ts, e⟩ := refsZ l fun u hu => h u (List.mem_cons_of_mem _ hu)
    exact ⟨T :: ts, by rw [e]; rfl⟩
theorem valsZ : ∀ ts : List Addr, Vals (ts.map V.ref) (ts.map Value.ref)
  | [] => .nil
  | t :: ts => .cons rfl (valsZ ts)
theorem zipped_map {ts : List Addr} {ps : List (V × V)} (h : ts.length = ps.length) : (ts.zip ps).map (·.1) = ts := List.map_fst_zip (Nat.le_of_eq h)
section
variable {X : Cx} {pins : List (Addr × Obj)} {σ : St} {H1 : Hp} {s1 : Shared}
/-- behind a zip that was told whole: the pairs are tracked -/
theorem track_zip (I1 : Inv X pins σ H1 s1) {xs ys : List V} {P1 P2 : Nat → Value → Prop} (rv : ∀ j v, P1 j v → ∃ x, xs[j]? = some x ∧ RelV x v) (rv2 : ∀ j v, P2 j v → ∃ x, ys[j]? = some x ∧ RelV x v) (hl : xs.length = ys.length) (hn : xs.length ≤ 1000) {h3 : Heap} {tk n0 : Nat} {bad : List Addr} {acc : Array Value} {t : Addr} {u : List Addr → HO}
    (n1 : s1.heap.objs.size ≤ n0) (got : Got h3 n0 bad P1 P2 acc xs.length) (k : ∀ b o, s1.heap.get? b = some o → h3.get? b = some o) (ht : s1.heap.objs.size ≤ t) (htb : ∀ (j : Nat) (T : Addr), acc[j]? = some (.ref T) → T ≠ t)
    (hu : ∀ (ts : List Addr) (H2 : Hp), acc.toList = ts.map Value.ref → ts.length = xs.length → ObjOk X.prog X.w H2 h3 t (u ts)) :
    ∃ (ts : List Addr) (H2 : Hp), Inv X pins σ H2 { s1 with heap := h3, toks := tk } ∧ ZipNew H1 H2 xs ys ts ∧ H1 t = none ∧ H2 t = some (u ts) := by
  obtain ⟨g1, g2, g3⟩ := got
  have at_ : ∀ (j : Nat) (v : Value), acc.toList[j]? = some v → acc[j]? = some v := fun j v e => by rw [← Array.getElem?_toList]; exact e
  obtain ⟨ts, ets⟩ := refsZ acc.toList fun v hv => by
    obtain ⟨j, hj⟩ := List.mem_iff_getElem?.mp hv
    obtain ⟨T, _, _, e, _⟩ := g2 j v (at_ j v hj)
    exact ⟨T, e⟩
  have lts : ts.length = xs.length := by
    have z : acc.toList.length = ts.length := by rw [ets, List.length_map]
    rw [← z, Array.length_toList, g1]
  have lz : (xs.zip ys).length = xs.length := by rw [List.length_zip]; omega
  have acc_at : ∀ (j : Nat) (T : Addr), ts[j]? = some T → acc[j]? = some (.ref T) := fun j T e => at_ j _ (by rw [ets, List.getElem?_map, e]; rfl)
  have nd : ts.Nodup := by
    rw [List.Nodup, List.pairwise_iff_getElem]
    intro i j hi hj hij
    exact Nat.ne_of_lt (g3 i j _ _ hij (acc_at i _ (List.getElem?_eq_getElem hi)) (acc_at j _ (List.getElem?_eq_getElem hj)))
  have emap : (ts.zip (xs.zip ys)).map (·.1) = ts := zipped_map (by rw [lz, lts])
  have big : ∀ T ∈ ts, s1.heap.objs.size ≤ T ∧ T ≠ t := fun T hT => by
    obtain ⟨j, hj⟩ := List.mem_iff_getElem?.mp hT
    obtain ⟨T', _, _, e, h0, _⟩ := g2 j _ (acc_at j T hj)
    cases e
    exact ⟨Nat.le_trans n1 h0, htb j T (acc_at j T hj)⟩
  have out1 : ∀ c, c ∉ ts → layT (ts.zip (xs.zip ys)) H1 c = H1 c := fun c hc => layT_out _ _ c (by rw [emap]; exact hc)
  have in1 : ∀ p ∈ ts.zip (xs.zip ys), layT (ts.zip (xs.zip ys)) H1 p.1 = some (.tup [p.2.1, p.2.2]) := layT_in _ _ (by rw [emap]; exact nd)
  have old : ∀ c, c < s1.heap.objs.size → c ∉ ts ∧ c ≠ t := fun c hc => ⟨fun hm => Nat.lt_irrefl _ (Nat.lt_of_lt_of_le hc (big c hm).1), fun e => Nat.lt_irrefl _ (Nat.lt_of_lt_of_le hc (e ▸ ht))⟩
  have keep1 : ∀ c, c < s1.heap.objs.size → upd (layT (ts.zip (xs.zip ys)) H1) t (u ts) c = H1 c := fun c hc => by
    rw [upd_ne (old c hc).2, out1 c (old c hc).1]
  have tracked : ∀ c o, H1 c = some o → c < s1.heap.objs.size := fun c o e => I1.hok.lt e
  have same : ∀ c o, H1 c = some o → upd (layT (ts.zip (xs.zip ys)) H1) t (u ts) c = some o := fun c o e => (keep1 c (tracked c o e)).trans e
  refine ⟨ts, upd (layT (ts.zip (xs.zip ys)) H1) t (u ts), ?_, ⟨same, ?_⟩, I1.hok.fresh ht, upd_same⟩
  · refine I1.un (t' := tk) ⟨fun b o q _ _ _ => k b o q, fun b o q _ _ _ => ⟨o.slots, k b o q⟩, fun b o q n _ => (keep1 b (Heap.lt_size q)).trans n, fun b o q _ => ⟨o, k b o q⟩, fun b xs q => same b _ q, fun b o u q => same b _ q, fun b ps q => ⟨#[], by rw [same b _ q]; simp⟩⟩ fun c o e => ?_
    by_cases hc : c = t
    · subst hc
      rw [upd_same] at e
      cases e
      exact hu ts _ ets lts
    · rw [upd_ne hc] at e
      by_cases hm : c ∈ ts
      · obtain ⟨j, hj⟩ := List.mem_iff_getElem?.mp hm
        have hjl : j < ts.length := (List.getElem?_eq_some_iff.mp hj).1
        obtain ⟨T', x, y, e1, _, _, hx, hy, hp⟩ := g2 j _ (acc_at j c hj)
        cases e1
        have mx : xs[j]? = some xs[j] := List.getElem?_eq_getElem (by omega)
        have my : ys[j]? = some ys[j] := List.getElem?_eq_getElem (by omega)
        have mz : (c, (xs[j], ys[j])) ∈ ts.zip (xs.zip ys) := by
          refine List.mem_iff_getElem?.mpr ⟨j, ?_⟩
          rw [List.getElem?_zip_eq_some, List.getElem?_zip_eq_some]
          exact ⟨hj, mx, my⟩
        rw [in1 _ mz] at e
        cases e
        obtain ⟨u1, hu1, ru1⟩ := rv j x hx
        obtain ⟨u2, hu2, ru2⟩ := rv2 j y hy
        have ex : u1 = xs[j] := Option.some.inj (hu1.symm.trans mx)
        have ey : u2 = ys[j] := Option.some.inj (hu2.symm.trans my)
        exact ⟨by show 2 ≤ sizeLine; decide, [x, y], .cons (ex ▸ ru1) (.cons (ey ▸ ru2) .nil), ⟨_, hp, rfl, _, rfl⟩⟩
      · rw [out1 c hm] at e
        exact (I1.hok c o e).stay (fun b v _ q => k b v q) (fun b q => same b _ q) fun b xs q => same b _ q
  · have pw : ∀ (l : List Addr) (ps : List (V × V)), l.length = ps.length → (∀ p ∈ l.zip ps, H1 p.1 = none ∧ upd (layT (ts.zip (xs.zip ys)) H1) t (u ts) p.1 = some (.tup [p.2.1, p.2.2])) →
        Paired (fun (T : Addr) (p : V × V) => H1 T = none ∧ upd (layT (ts.zip (xs.zip ys)) H1) t (u ts) T = some (.tup [p.1, p.2])) l ps := by
      intro l
      induction l with
      | nil => intro ps hl _; cases ps with
        | nil => exact .nil
        | cons p ps => simp at hl
      | cons T l ih => intro ps hl h; cases ps with
        | nil => simp at hl
        | cons p ps => exact .cons (h (T, p) (by simp)) (ih ps (by simpa using hl) fun q hq => h q (by simp [hq]))
    refine pw ts (xs.zip ys) (by rw [lz, lts]) fun p hp => ?_
    have hT : p.1 ∈ ts := by
      have := List.mem_map_of_mem (f := fun x : Addr × (V × V) => x.1) hp
      rw [emap] at this
      exact this
    refine ⟨I1.hok.fresh (big _ hT).1, ?_⟩
    rw [upd_ne (big _ hT).2]
    exact in1 p hp
variable {e e2 : Expr} {ta : TA} {p p2 q pos : Pos}
theorem pe_lstZipS (hc : X.calm = true) (hg : Gl X "list") (hm : X.mg "list" = none) (hg2 : Gl X "zip") (hm2 : X.mg "zip" = none) (ha : PA X [e, e2] ta)
    (hs : starEach [e, e2] X.env = (false, eval e X.env) :: starEach [e2] X.env := by rfl) (hpl : (backTo q (starEach [e2] X.env)).any (·.1) = false := by rfl)
    (na : starEach [.Call (.Name "zip" p2) [e, e2] [] q] X.env = (false, eval (.Call (.Name "zip" p2) [e, e2] [] q) X.env) :: starEach [] X.env := by rfl) :
    PE X (.Call (.Name "list" p) [.Call (.Name "zip" p2) [e, e2] [] q] [] pos) (tLstZipS X.K ta) := by
  refine ⟨fun pins s σ H Q I h => ?_⟩
  refine Call_ (ld_blt I hg hm boot_list (PyProof.Rows.callWith_type1 (PyProof.Rows.args_cons ?_ na) na rfl))
  refine Call_ (ld_blt I hg2 hm2 PyProof.Rows.boot_zip (PyProof.Rows.callWith_type1 (thn (ha.run q pins s σ H _ I h) fun us s1 ⟨vs, H1, I1, r1, q1⟩ => ?_) hs hpl))
  obtain ⟨x, b, ys, ex, hax, hqy, hl, hn, fin⟩ := q1
  subst ex
  cases r1 with
  | cons r rr =>
    cases rr with
    | cons r' rr =>
      cases rr
      obtain ⟨t, rfl⟩ := r
      cases r'
      obtain ⟨its2, rv2, p2, _⟩ := I1.tuple hqy
      have ly := rv2.length
      have p2lt := p2.lt
      refine Toy.call_zipS hax p2 fun h' hz hTI hTO h1 h2 hsz hk => PyProof.Rows.args_nil ?_
      have D := PySem.W.ktu_apart s1.heap.objs.size b b p2lt p2lt
      have SS : ZipSep2 (s1.heap.objs.size + 4) (s1.heap.objs.size + 2) (s1.heap.objs.size + 3) s1.heap.objs.size (s1.heap.objs.size + 1) [s1.heap.objs.size] [s1.heap.objs.size + 1, b] :=
        ⟨D.TIz, D.TOz, D.TITO, D.TIi1, by simp, by simp [D.i1z.symm], by simp [D.TOi1], D.TIi2, by simp, by simp [D.i2z.symm, D.l2z.symm], by simp [D.TOi2, D.l2TO.symm], by simp [D.i12, D.l2i1.symm], by simp [D.i12.symm]⟩
      have hh : X.A.in1.in1.in1.handled = none := I1.ok.hd hc
      have D2 := Toy.drawsTuple (prog := X.prog) (w := X.w) hh (s1.heap.objs.size + 1) b D.l2i2 its2.toArray
      have e2 : its2.toArray.size = x.cps.size := by simp; omega
      rw [e2] at D2
      have st : ZSt h' (s1.heap.objs.size + 4) (s1.heap.objs.size + 2) (s1.heap.objs.size + 3) s1.heap.objs.size (s1.heap.objs.size + 1) (fun i h => h.IsStrIter s1.heap.objs.size "str_ascii_iterator" x t i) (fun i h => h.IsTupleIter (s1.heap.objs.size + 1) b i ∧ h.IsTuple b its2.toArray) 0 :=
        ⟨.inl hz, hTI, ⟨_, _, hTO⟩, h1, h2, by
          obtain ⟨o, e, r⟩ := p2
          exact ⟨o, hk _ o e, r⟩⟩
      refine callD_list_zip (s := { s1 with heap := h' }) SS (Draws.strAscii hh s1.heap.objs.size x t) D2 (Nat.le_of_lt (small1000 (by omega))) hz st (fun c hc' => ?_) fun h3 tk acc c' kp hS got => ?_
      · simp only [List.cons_append, List.nil_append, List.mem_cons, List.not_mem_nil, or_false] at hc'
        have hsz' : ({ s1 with heap := h' } : Shared).heap.objs.size = s1.heap.objs.size + 5 := hsz
        rw [hsz']
        have := p2lt
        rcases hc' with rfl | rfl | rfl
        · exact Nat.lt_add_of_pos_right (by decide)
        · exact Nat.add_lt_add_left (by decide) _
        · exact Nat.lt_of_lt_of_le p2lt (Nat.le_add_right _ _)
      have lsx : (signs x).length = x.cps.size := by unfold signs; simp
      have far : ∀ b o, s1.heap.get? b = some o → h3.get? b = some o := fun b o e => by
        have lt := Heap.lt_size e
        exact kp b o (Nat.ne_of_lt (Nat.lt_of_lt_of_le lt (Nat.le_add_right _ _))) (Nat.ne_of_lt (Nat.lt_of_lt_of_le lt (Nat.le_add_right _ _))) (Nat.ne_of_lt lt) (Nat.ne_of_lt (Nat.lt_of_lt_of_le lt (Nat.le_add_right _ _))) (hk b o e)
      have big5 : s1.heap.objs.size ≤ h'.objs.size := by
        have : h'.objs.size = s1.heap.objs.size + 5 := hsz
        rw [this]
        exact Nat.le_add_right _ _
      obtain ⟨ts, H2, I2, zn, t0, t2⟩ := track_zip (P1 := fun i v => ∃ c u, x.cps[i]? = some c ∧ v = Value.str ⟨#[c]⟩ u) (P2 := fun i v => its2.toArray[i]? = some v) (u := fun ts => .lst (ts.map V.ref)) (t := h'.objs.size) (tk := tk) (xs := signs x) (ys := ys) I1 (fun j v ⟨c, u, hc1, hv⟩ => ⟨.str ⟨#[c]⟩, by unfold signs; rw [List.getElem?_map, Array.getElem?_toList, hc1]; rfl, by rw [hv]; exact ⟨u, rfl⟩⟩)
        (fun j v hv => by
          have hv' : its2[j]? = some v := by simpa using hv
          have hj : j < ys.length := by
            have := (List.getElem?_eq_some_iff.mp hv').1
            omega
          obtain ⟨u, hu, ru⟩ := rv2.get (List.getElem?_eq_getElem hj)
          rw [hv'] at hu
          cases hu
          exact ⟨_, List.getElem?_eq_getElem hj, ru⟩) (by omega) (by omega) big5 (by rw [lsx]; exact got) far big5 (fun j T e z => by
          obtain ⟨T', _, _, e1, _, nb, _⟩ := got.2.1 j _ e
          cases e1
          exact nb (by simp [z]))
        (fun ts H2 ets lts => ⟨by rw [List.length_map, lts]; exact Nat.le_of_lt (small1000 (by omega)), ts.map Value.ref, c', valsZ ts, by rw [← ets]; simpa using hS⟩)
      exact ⟨.ref h'.objs.size, H2, I2, rfl, fin H2 ts _ zn t0 t2⟩
end
end L2


namespace Toy
open PySem PySem.Spec L2 PyProof.Rows PySem.W
/-! ### forms, as the law tells them -/
def testsL : List Str := ["is", "equal", "at", "and", "or", "not"]
def walksL : List Str := ["same", "field", "item", "none", "fail", "pipe", "if"]
def moreL : List Str := ["every", "both", "try", "other"]
def kindL (ch : Bool) : List Str := walksL ++ (if ch = true then moreL else [])
def keyD : Dt → Str
  | .tup (.str k :: _) => k
  | _ => Str.empty
def valD : Dt → Dt
  | .tup [_, g] => g
  | x => x
def entD : Dt → Bool
  | .tup [.str k, _] => wordS k
  | _ => false
def strOfD : Dt → Str
  | .str x => x
  | _ => Str.empty
def uniq (ks : List Str) : Bool := decide ks.Nodup
def sgS (c : Nat) : Str := ⟨#[c]⟩
def entsD (l : List Dt) : Bool := l.all entD && uniq (l.map keyD)
def slt (p : Bool → Dt → Bool) (o : Bool → Dt → Bool) (c : Nat) (t : Dt) : Bool :=
  if decide (c ∈ ("fwc" : Str).cps.toList) = true then p true t && (decide (c = 102) || o (decide (c = 99)) t)
  else if decide (c = 116) = true then p false t
  else if decide (c ∈ ("kni" : Str).cps.toList) = true then (if decide (c = 105) = true then wholeD t else if decide (c = 107) = true then wordD t else freeD t)
  else if decide (c = 120) = true then leafD t
  else if decide (c = 115) = true then sortD t
  else match t with
    | .tup l => if decide (c = 112) = true then decide (l.length < 4) && (l.all freeD && uniq (l.map strOfD)) else if decide (c = 97) = true then decide (l.length < 4) && l.all (p true) else entsD l && l.all fun e => p true (valD e)
    | _ => false
def iso : Nat → Bool → Dt → Bool
  | 0, _, _ => false
  | n + 1, ch, t => match t with
    | .tup (.str w :: fs) => decide (w ∈ kindL ch) && (match slF.lookup w with
      | some x => (List.range fs.length).all fun i => !(decide (sg x i = 102) && !iso n ch (fs.getD i .non))
      | none => true)
    | _ => false
def slotOf (tr : Bool) (w : Str) : Option Str := if tr = true then slF.lookup w else slT.lookup w
def frm : Nat → Bool → Dt → Bool
  | 0, _, _ => false
  | n + 1, tr, t => match t with
    | .tup (.str w :: fs) => (match slotOf tr w with
      | some x => decide (fs.length = x.length) && (List.range fs.length).all fun i => slt (frm n) (iso n) (sg x i) (fs.getD i .non)
      | none => false)
    | _ => false
theorem frm_cases {n : Nat} {tr : Bool} {t : Dt} (h : frm (n + 1) tr t = true) : ∃ w fs x, t = .tup (.str w :: fs) ∧ slotOf tr w = some x ∧ fs.length = x.length ∧ ∀ i, i < fs.length → slt (frm n) (iso n) (sg x i) (fs.getD i .non) = true := by
  cases t with
  | tup l =>
    cases l with
    | nil => simp [frm] at h
    | cons a fs =>
      cases a with
      | str w =>
        rw [frm] at h
        cases hk : slotOf tr w with
        | none => simp only [hk] at h; exact absurd h Bool.false_ne_true
        | some x =>
          simp only [hk, Bool.and_eq_true, decide_eq_true_eq, List.all_eq_true, List.mem_range] at h
          exact ⟨w, fs, x, rfl, hk, h.1, h.2⟩
      | _ => simp [frm] at h
  | _ => simp [frm] at h
theorem frm_node (n : Nat) (tr : Bool) (w : Str) (fs : List Dt) : frm (n + 1) tr (.tup (.str w :: fs)) = (match slotOf tr w with
    | some x => decide (fs.length = x.length) && (List.range fs.length).all fun i => slt (frm n) (iso n) (sg x i) (fs.getD i .non)
    | none => false) := by rw [frm]
theorem iso_node (n : Nat) (ch : Bool) (w : Str) (fs : List Dt) {x : Str} (h : slF.lookup w = some x) : iso (n + 1) ch (.tup (.str w :: fs)) = (decide (w ∈ kindL ch) && (List.range fs.length).all fun i => !(decide (sg x i = 102) && !iso n ch (fs.getD i .non))) := by
  rw [iso]
  simp only [h]
theorem slF_small : ∀ p ∈ slF, p.2.length ≤ 4 ∧ p.2.cps.all (· < 128) = true := by decide +kernel
theorem slT_small : ∀ p ∈ slT, p.2.length ≤ 4 ∧ p.2.cps.all (· < 128) = true := by decide +kernel
theorem lookup_memS {w x : Str} : ∀ {L : List (Str × Str)}, L.lookup w = some x → (w, x) ∈ L
  | [], h => by cases h
  | (k, v) :: L, h => by
    by_cases e : w = k
    · subst e
      simp [List.lookup] at h
      subst h
      exact List.mem_cons_self
    · have : (w == k) = false := by simp [e]
      simp only [List.lookup, this] at h
      exact List.mem_cons_of_mem _ (lookup_memS h)
theorem slot_small {tr : Bool} {w x : Str} (h : slotOf tr w = some x) : x.length ≤ 4 := by
  unfold slotOf at h
  split at h
  · exact (slF_small _ (lookup_memS h)).1
  · exact (slT_small _ (lookup_memS h)).1
/-- a sign beside a sign -/
theorem sgE (c d : Nat) : decide (V.str ⟨#[c]⟩ = V.str ⟨#[d]⟩) = decide (c = d) := by
  refine decide_eq_decide.mpr ⟨fun h => ?_, fun h => by rw [h]⟩
  have := congrArg (fun s : Str => s.cps.toList) (V.str.inj h)
  simpa using this
theorem at_nat {xs : List V} {n : Nat} {v : V} (h : xs[n]? = some v) : atI xs (n : Int) = some v := atI_nat h
theorem cut_1 (a : V) (xs : List V) : cutV (a :: xs) (some 1) none = xs := by
  unfold cutV
  rw [show HT.sIx (a :: xs).length 0 (some 1) = min 1 (a :: xs).length from HT.sIx_nat _ _ 1, HT.sIx_none]
  rw [show min 1 (a :: xs).length = 1 by simp]
  simp
theorem tif_both {t1 t2 : TE} {c : Bool} {σ : L2.St} {H : Hp} {Q : VK} {R : Hp → Prop} {v : V} (hk : ∀ H3, R H3 → Q v H3) (h1 : c = true → ∀ Q' : VK, (∀ H3, R H3 → Q' v H3) → t1 σ H Q') (h2 : c = false → ∀ Q' : VK, (∀ H3, R H3 → Q' v H3) → t2 σ H Q') :
    if c = true then t1 σ H Q else t2 σ H Q := by
  cases c with
  | true => rw [if_pos rfl]; exact h1 rfl Q hk
  | false => rw [if_neg Bool.false_ne_true]; exact h2 rfl Q hk
theorem nx_run {D : Ends} {σ : L2.St} {H : Hp} (h : D.nx σ H) : tNext D σ H := h
theorem at_0 (a : V) (xs : List V) : atI (a :: xs) 0 = some a := at_nat (n := 0) rfl
theorem sg_some {x : Str} {i : Nat} (h : i < x.length) : atI x.cps.toList ((0 : Int) + (i : Int)) = some (sg x i) := by
  have h' : i < x.cps.toList.length := by rw [Array.length_toList]; exact h
  rw [Int.zero_add]
  refine atI_nat ?_
  unfold sg
  rw [List.getD_eq_getElem?_getD, List.getElem?_eq_getElem h']
  rfl
def spForm (K : PySem.W.Frag) (j : Nat) : Sp := fun vs H Q _ => ∃ (v : V) (tr : Bool) (t : Dt), vs = [v, .bl tr] ∧ Dv K H v t ∧ dep t ≤ j ∧ okd 300 t = true ∧ ∀ H', Same H H' → Q (.bl (frm j tr t)) H'
def spOf (K : PySem.W.Frag) (j : Nat) : Sp := fun vs H Q _ => ∃ (v : V) (c : Nat) (t : Dt), vs = [v, .str ⟨#[c]⟩] ∧ (c = 119 ∨ c = 99) ∧ Dv K H v t ∧ dep t ≤ j ∧ okd 300 t = true ∧ frm j true t = true ∧ ∀ H', Same H H' → Q (.bl (iso j (decide (c = 99)) t)) H'
def spSlt (K : PySem.W.Frag) (j : Nat) : Sp := fun vs H Q _ => ∃ (v : V) (c : Nat) (t : Dt), vs = [.str ⟨#[c]⟩, v] ∧ Dv K H v t ∧ dep t ≤ j ∧ okd 300 t = true ∧ ∀ H', Same H H' → Q (.bl (slt (frm j) (iso j) c t)) H'
abbrev sForm : Stmt := top 57
abbrev sOf : Stmt := top 58
abbrev NFo : List Str := ["_law_x", "_law_of_filters", "_law_slots_here", "_law_k"]
abbrev NOf : List Str := ["_law_term", "_law_slot", "_law_words", "_law_rows", "_law_kind", "_law_one"]
section
variable {P : Program} {w : World} {K : PySem.W.Frag} {mg : Str → Option Value} {base : Heap}
theorem scFo : FnScope NFo ["_law_x", "_law_of_filters"] (defScope sForm) := ⟨rfl, rfl, rfl, by decide +kernel, rfl, by decide +kernel, by decide +kernel⟩
theorem scOf : FnScope NOf ["_law_term", "_law_slot"] (defScope sOf) := ⟨rfl, rfl, rfl, by decide +kernel, rfl, by decide +kernel, by decide +kernel⟩
theorem okd_get {c : Nat} {l : List Dt} {i : Nat} {t : Dt} (h : okdL c l = true) (e : l[i]? = some t) : okd c t = true := by
  rw [okdL_all] at h
  exact List.all_eq_true.mp h t (List.mem_of_getElem? e)
theorem ok_form {j : Nat} {f fS fT fI : Addr} {fd fdS fdT fdI : FuncData} (F : Fun K "_law_is_form" "_law_is_form" sForm f fd)
    (GS : FnOk P w K mg base CX0 1 fS fdS ["_law_word"] (spSlot slF)) (mS : mg "_law_slots" = some (.ref fS)) (kS : PySem.W.keepIn K (.ref fS) = true) (bS : Binds K fdS ["_law_word"] [])
    (GT : FnOk P w K mg base CX0 1 fT fdT ["_law_word"] (spSlot slT)) (mT : mg "_law_test_slots" = some (.ref fT)) (kT : PySem.W.keepIn K (.ref fT) = true) (bT : Binds K fdT ["_law_word"] [])
    (ih : FnOk P w K mg base CX0 (2 * j + 5) fI fdI ["_law_slot", "_law_x"] (spSlt K j)) (mSl : mg "_law_is_slot" = some (.ref fI)) (kI : PySem.W.keepIn K (.ref fI) = true) (bI : Binds K fdI ["_law_slot", "_law_x"] [])
    (mI : mg "isinstance" = none) (mTu : mg "tuple" = none) (mStr : mg "str" = none) (mLen : mg "len" = none) (mR : mg "range" = none) : FnOk P w K mg base CX0 (2 * j + 6) f fd ["_law_x", "_law_of_filters"] (spForm K (j + 1)) := by
  refine F.ok (k := 2 * j + 5) scFo (fun vs H Q E h => ?_) (fun cdv A outer s H vs Q E hr h => ?_)
  · obtain ⟨v, tr, t, rfl, _⟩ := h
    rfl
  · obtain ⟨v, tr, t, rfl, hv, hdep, hok, q⟩ := h
    have hu := hr.units
    have hr1 : Room 1 _ := hr.mono (show 1 ≤ 2 * j + 5 by omega)
    refine ⟨_, pss_cons (ps_if (PW.pt (pw_or (pt_not (pt_val (pe_callB call_isi (by rfl) mI PyProof.Rows.boot_isinstance (pa_cons (pv 0) (pa_cons (pe_bltn (v := .ty "tuple") (by rfl) mTu (by decide +kernel) rfl) pa_nil)))))
          (pw_or (pt_cmpR (op_eqT0 hu) (pv 0) (pe_tup pa_nil) (nomark _)) (pw_or1 (pt_not (pt_val (pe_callB call_isi (by rfl) mI PyProof.Rows.boot_isinstance (pa_cons (pe_ix ix_tup (pv 0) pe_int (fun _ _ => rfl)) (pa_cons (pe_bltn (v := .ty "str") (by rfl) mStr (by decide +kernel) rfl) pa_nil))))))))) (pss_one (ps_ret pe_bl)) pss_nil)
      (pss_cons (ps_set (i := 2) scFo.nd rfl (Or.inr rfl) (pe_ifExp (pt_val (pv 1)) (pe_call GS hr1 (by rfl) mS kS bS .nil pass0 (pa_cons (pe_ix ix_tup (pv 0) pe_int (fun _ _ => rfl)) pa_nil)) (pe_call GT hr1 (by rfl) mT kT bT .nil pass0 (pa_cons (pe_ix ix_tup (pv 0) pe_int (fun _ _ => rfl)) pa_nil))))
      (pss_cons (ps_if (PW.pt (pw_or (pt_cmpR op_isN (pv 2) pe_non (nomark _)) (pw_or1 (pt_cmpR op_ne (pe_callB call_len_seq (by rfl) mLen PySem.boot_len (pa_cons (pv 0) pa_nil)) (pe_op op_add pe_int (pe_callB call_len_str (by rfl) mLen PySem.boot_len (pa_cons (pv 2) pa_nil))) (nomark _))))) (pss_one (ps_ret pe_bl)) pss_nil)
      (pss_one (ps_ret (pe_cmpR (op_eqE hu) (pe_lc (own := [("_law_k", 3)]) (g := gName 3) (te := tVar 3) (tt := tNot (tB (tCall (spSlt K j) [] E0 (tCons (tOp rIxS (tVar 2) (tVar 3)) (tCons (tOp (rIxT K) (tVar 0) (tOp (rI0 fun i j => .int (i + j)) (tVar 3) (tC (.int 1)))) tNil))))) (by rfl) scFo.nd (pi_range1 (by rfl) mR (pa_cons (pe_callB call_len_str (by rfl) mLen PySem.boot_len (pa_cons (pv 2) pa_nil)) pa_nil))
        (blkOk_by (own := [("_law_k", 3)]) (N := NFo) (sc := defScope sForm) (by decide +kernel)) (fun _ _ _ _ _ => pg_name (i := 3) scFo.nd rfl (Or.inl rfl))
        (fun _ _ _ _ _ => pts_one (pt_not (pt_val (pe_call ih hr (by rfl) mSl kI bI .nil pass0 (pa_cons (pe_ix ix_str (pv 2) (pv 3) (fun _ _ => rfl)) (pa_cons (pe_ix ix_tup (pv 0) (pe_op op_add (pv 3) pe_int) (fun _ _ => rfl)) pa_nil)))))) (fun _ _ _ _ _ => pv 3)) (pe_lst pa_nil) (nomark _)))))), ?_⟩
    refine ⟨_, rfl, isT hv ⟨_, rfl, ?_⟩⟩
    cases hv with
    | non => exact iteT (iteT (q H same_id))
    | bl b => exact iteT (iteT (q H same_id))
    | int i => exact iteT (iteT (q H same_id))
    | str x => exact iteT (iteT (q H same_id))
    | lst _ => exact iteT (iteT (q H same_id))
    | dct _ => exact iteT (iteT (q H same_id))
    | @tup a xs ts hs hall =>
      refine iteF ⟨_, rfl, few (by show 0 ≤ 1000; decide), fun T nT => ?_⟩
      have s1 : Same H (upd H T (.tup [])) := same_new same_id nT
      have hT1 : SqT K (upd H T (.tup [])) T [] := SqT.of upd_same
      generalize upd H T (.tup []) = H1 at s1 hT1 ⊢
      have hs1 := same_seqT s1 hs
      refine ⟨a, T, xs, rfl, rfl, hs1, hT1, _, rfl, ?_⟩
      cases hall with
      | nil => exact iteT (iteT (q H1 s1))
      | @cons u d us ds hd hds =>
        refine iteF ⟨_, rfl, a, _, 0, u, rfl, rfl, hs1, at_0 _ _, isS (dvM s1 hd) ⟨_, rfl, ?_⟩⟩
        cases hd with
        | non => exact iteT (q H1 s1)
        | bl b => exact iteT (q H1 s1)
        | int i => exact iteT (q H1 s1)
        | tup _ _ => exact iteT (q H1 s1)
        | lst _ => exact iteT (q H1 s1)
        | dct _ => exact iteT (q H1 s1)
        | str w =>
          refine iteF ?_
          have lu := dvl_len hds
          simp only [okd, okdL, List.length_cons, Bool.and_eq_true, decide_eq_true_eq] at hok
          simp only [dep, depL] at hdep
          rw [frm_node] at q
          refine nx_run ?_
          dsimp only
          refine asg_run ?_
          refine ⟨_, rfl, _, rfl, tif_both (R := fun H3 => Same H1 H3) (v := optS (slotOf tr w)) (fun H3 s3 => ?_) (fun hc Q' k => ?_) (fun hc Q' k => ?_)⟩
          rotate_left
          · subst hc
            exact ⟨_, rfl, a, _, 0, _, rfl, rfl, hs1, at_0 _ _, w, rfl, fun H3 s3 => k H3 s3⟩
          · subst hc
            exact ⟨_, rfl, a, _, 0, _, rfl, rfl, hs1, at_0 _ _, w, rfl, fun H3 s3 => k H3 s3⟩
          have hs3 := same_seqT s3 hs1
          have s13 := s1.trans s3
          cases hk : slotOf tr w with
          | none =>
            rw [hk] at q
            dsimp only at q
            exact ⟨_, rfl, rfl, _, rfl, iteT (iteT (q H3 s13))⟩
          | some x =>
            rw [hk] at q
            dsimp only at q
            have x4 := slot_small hk
            refine ⟨_, rfl, rfl, _, rfl, iteF ⟨_, rfl, a, _, rfl, .inr hs3, _, rfl, x, rfl, few (by omega), _, _, rfl, rfl, rfl, _, rfl, ?_⟩⟩
            by_cases hl : ds.length = x.length
            · rw [decide_eq_true hl, Bool.true_and] at q
              rw [decide_eq_true (show V.int ((V.str w :: us).length : Nat) = V.int (1 + (x.length : Int)) by
                congr 1
                rw [List.length_cons]
                omega)]
              refine iteF ?_
              refine ⟨_, rfl, x, rfl, few (by omega), (x.length : Int), rfl, by omega, by omega, fun D nD => ?_⟩
              have et : ((x.length : Int)).toNat = x.length := by omega
              rw [et]
              refine lc_none walk_range (fun i => !slt (frm j) (iso j) (sg x i) (ds.getD i .non)) (by omega) nD (fun _ _ => trivial) yFn_same ?_ ?_
              · rintro i y H2 P1 P0 hi s2 ⟨_, rfl⟩ h1 h0
                have hui : us[i]? = some us[i] := List.getElem?_eq_getElem (by omega)
                obtain ⟨ti, hti, hdi⟩ := dvl_get hds hui
                have eg : ds.getD i .non = ti := by rw [List.getD_eq_getElem?_getD, hti]; rfl
                rw [eg] at h1 h0
                have hdt : dep ti ≤ depL ds := dep_mem (List.mem_of_getElem? hti)
                refine ⟨rfl, _, rfl, _, rfl, x, _, sg x i, rfl, rfl, few (by omega), sg_some hi, _, rfl, _, rfl, _, _, rfl, rfl, a, _, _, us[i], rfl, rfl, same_seqT s2 hs3, ?_, us[i], sg x i, ti, rfl, dvM (s13.trans s2) hdi, by omega, okd_get hok.2.2 hti, fun H4 s4 => ⟨_, rfl, ?_⟩⟩
                · rw [show (0 : Int) + (i : Int) + 1 = ((i + 1 : Nat) : Int) by omega]
                  exact at_nat (by rw [List.getElem?_cons_succ]; exact hui)
                · exact ite2 (fun c => ⟨_, rfl, h1 c _ _ s4⟩) (fun c => h0 (by simpa using c) _ s4)
              · intro H2 acc s2 hD ha
                refine ⟨few (by show 0 ≤ 1000; decide), fun T2 nT2 => ⟨D, T2, acc, rfl, rfl, (upd_ne (ne_of_none hD nT2)).trans hD, upd_same, ?_⟩⟩
                rw [ha]
                simp only [Bool.not_not]
                rw [← hl]
                exact q _ (same_new (s13.trans s2) nT2)
            · rw [decide_eq_false hl, Bool.false_and] at q
              rw [decide_eq_false (show ¬ V.int ((V.str w :: us).length : Nat) = V.int (1 + (x.length : Int)) by
                intro e
                have e := V.int.inj e
                rw [List.length_cons] at e
                omega)]
              exact iteT (q H3 s13)
end
end Toy


namespace Toy
open PySem PySem.Spec L2 PyProof.Rows PySem.W
theorem paired_get {α β : Type} {F : α → β → Prop} : ∀ {xs : List α} {ys : List β}, Paired F xs ys → ∀ {i : Nat} {y : β}, ys[i]? = some y → ∃ x, xs[i]? = some x ∧ F x y
  | _, _, .nil, i, y, h => by cases h
  | _, _, .cons r t, 0, y, h => by
    have e := Option.some.inj h
    subst e
    exact ⟨_, rfl, r⟩
  | _, _, .cons r t, i + 1, y, h => paired_get t h
theorem paired_len {α β : Type} {F : α → β → Prop} : ∀ {xs : List α} {ys : List β}, Paired F xs ys → xs.length = ys.length
  | _, _, .nil => rfl
  | _, _, .cons r t => congrArg Nat.succ (paired_len t)
theorem signs_get {x : Str} {i : Nat} (h : i < x.length) : (L2.signs x)[i]? = some (V.str ⟨#[sg x i]⟩) := by
  have h' : i < x.cps.toList.length := by rw [Array.length_toList]; exact h
  unfold L2.signs sg
  rw [List.getElem?_map, List.getD_eq_getElem?_getD, List.getElem?_eq_getElem h']
  rfl
theorem signs_len (x : Str) : (L2.signs x).length = x.length := by
  unfold L2.signs
  rw [List.length_map, Array.length_toList]
  rfl
theorem slt_of_f {p o : Bool → Dt → Bool} {t : Dt} (h : slt p o 102 t = true) : p true t = true := by
  unfold slt at h
  rw [if_pos (by decide +kernel), Bool.and_eq_true] at h
  exact h.1
theorem sg_t (c : Nat) : decide (V.str ⟨#[c]⟩ = V.str ("t" : Str)) = decide (c = 116) := by rw [show ("t" : Str) = ⟨#[116]⟩ by decide +kernel]; exact sgE c 116
theorem sg_f (c : Nat) : decide (V.str ⟨#[c]⟩ = V.str ("f" : Str)) = decide (c = 102) := by rw [show ("f" : Str) = ⟨#[102]⟩ by decide +kernel]; exact sgE c 102
theorem sg_c (c : Nat) : decide (V.str ⟨#[c]⟩ = V.str ("c" : Str)) = decide (c = 99) := by rw [show ("c" : Str) = ⟨#[99]⟩ by decide +kernel]; exact sgE c 99
theorem sg_i (c : Nat) : decide (V.str ⟨#[c]⟩ = V.str ("i" : Str)) = decide (c = 105) := by rw [show ("i" : Str) = ⟨#[105]⟩ by decide +kernel]; exact sgE c 105
theorem sg_k (c : Nat) : decide (V.str ⟨#[c]⟩ = V.str ("k" : Str)) = decide (c = 107) := by rw [show ("k" : Str) = ⟨#[107]⟩ by decide +kernel]; exact sgE c 107
theorem sg_x (c : Nat) : decide (V.str ⟨#[c]⟩ = V.str ("x" : Str)) = decide (c = 120) := by rw [show ("x" : Str) = ⟨#[120]⟩ by decide +kernel]; exact sgE c 120
theorem sg_s (c : Nat) : decide (V.str ⟨#[c]⟩ = V.str ("s" : Str)) = decide (c = 115) := by rw [show ("s" : Str) = ⟨#[115]⟩ by decide +kernel]; exact sgE c 115
theorem sg_p (c : Nat) : decide (V.str ⟨#[c]⟩ = V.str ("p" : Str)) = decide (c = 112) := by rw [show ("p" : Str) = ⟨#[112]⟩ by decide +kernel]; exact sgE c 112
theorem sg_a (c : Nat) : decide (V.str ⟨#[c]⟩ = V.str ("a" : Str)) = decide (c = 97) := by rw [show ("a" : Str) = ⟨#[97]⟩ by decide +kernel]; exact sgE c 97
theorem kinds_run {b : Bool} {t1 t2 : TE} {σ : L2.St} {H : Hp} {Q : VK} (h1 : ∀ Q' : VK, (∀ T, H T = none → Q' (.ref T) (upd H T (.lst (moreL.map V.str)))) → t1 σ H Q') (h2 : ∀ Q' : VK, (∀ T, H T = none → Q' (.ref T) (upd H T (.lst []))) → t2 σ H Q')
    (k : ∀ T, H T = none → Q (.ref T) (upd H T (.lst ((if b = true then moreL else []).map V.str)))) : if b = true then t1 σ H Q else t2 σ H Q := by
  cases b with
  | true =>
    rw [if_pos rfl]
    exact h1 Q fun T n => by simpa using k T n
  | false =>
    rw [if_neg Bool.false_ne_true]
    exact h2 Q fun T n => by simpa using k T n
section
variable {P : Program} {w : World} {K : PySem.W.Frag} {mg : Str → Option Value} {base : Heap}
theorem of_zero {f : Addr} {fd : FuncData} (F : Fun K "_law_is_of" "_law_is_of" sOf f fd) : FnOk P w K mg base CX0 3 f fd ["_law_term", "_law_slot"] (spOf K 0) :=
  F.ok (k := 2) scOf (fun vs H Q E h => by obtain ⟨v, c, t, _, _, _, _, _, h0, _⟩ := h; cases h0) (fun cdv A outer s H vs Q E hr h => by obtain ⟨v, c, t, _, _, _, _, _, h0, _⟩ := h; cases h0)
theorem ok_of1 {j : Nat} {f fS : Addr} {fd fdS : FuncData} (F : Fun K "_law_is_of" "_law_is_of" sOf f fd)
    (GS : FnOk P w K mg base CX0 1 fS fdS ["_law_word"] (spSlot slF)) (mS : mg "_law_slots" = some (.ref fS)) (kS : PySem.W.keepIn K (.ref fS) = true) (bS : Binds K fdS ["_law_word"] [])
    (ih : FnOk P w K mg base CX0 (j + 3) f fd ["_law_term", "_law_slot"] (spOf K j)) (mF : mg "_law_is_of" = some (.ref f)) (kF : PySem.W.keepIn K (.ref f) = true) (bF : Binds K fd ["_law_term", "_law_slot"] [])
    (mLi : mg "list" = none) (mZip : mg "zip" = none) : FnOk P w K mg base CX0 (j + 4) f fd ["_law_term", "_law_slot"] (spOf K (j + 1)) := by
  refine F.ok (k := j + 3) scOf (fun vs H Q E h => ?_) (fun cdv A outer s H vs Q E hr h => ?_)
  · obtain ⟨v, c, t, rfl, _⟩ := h
    rfl
  · obtain ⟨v, c, t, rfl, hc, hv, hdep, hok, hfr, q⟩ := h
    have hu := hr.units
    have hr1 : Room 1 _ := hr.mono (show 1 ≤ j + 3 by omega)
    refine ⟨_, pss_cons (ps_set (i := 2) scOf.nd rfl (Or.inl rfl) (pe_lst (pa_cons pe_str (pa_cons pe_str (pa_cons pe_str (pa_cons pe_str (pa_cons pe_str (pa_cons pe_str (pa_cons pe_str pa_nil)))))))))
      (pss_cons (ps_if (pt_cmpR op_notIn_seq (pe_ix ix_tup (pv 0) pe_int (fun _ _ => rfl)) (pe_op op_cat (pv 2) (pe_ifExp (pt_cmpR op_eq (pv 1) pe_str (nomark _)) (pe_lst (pa_cons pe_str (pa_cons pe_str (pa_cons pe_str (pa_cons pe_str pa_nil))))) (pe_lst pa_nil))) (by rfl)) (pss_one (ps_ret pe_bl)) pss_nil)
      (pss_cons (ps_set (i := 3) scOf.nd rfl (Or.inl rfl) (L2.pe_lstZipS rfl (by rfl) mLi (by rfl) mZip (pa_cons (pe_call GS hr1 (by rfl) mS kS bS .nil pass0 (pa_cons (pe_ix ix_tup (pv 0) pe_int (fun _ _ => rfl)) pa_nil)) (pa_cons (pe_slice sl_tupA (pv 0) (po_some pe_int) po_none) pa_nil))))
      (pss_one (ps_ret (pe_cmpR (op_eqE hu) (pe_lc (own := [("_law_kind", 4), ("_law_one", 5)]) (g := gTup K 2 (gCons (gName 4) (gCons (gName 5) gNil))) (te := tVar 5) (tt := tAnd (tTest (tOp rEq (tVar 4) (tC (.str "f")))) (tNot (tB (tCall (spOf K j) [] E0 (tCons (tVar 5) (tCons (tVar 1) tNil)))))) (by rfl) scOf.nd (pi_list (pv 3))
        (blkOk_by (own := [("_law_kind", 4), ("_law_one", 5)]) (N := NOf) (sc := defScope sOf) (by decide +kernel)) (fun _ _ _ _ _ => by exact (pg_tup rfl (pgs_cons (by exact (pg_name (i := 4) scOf.nd rfl (Or.inl rfl))) (pgs_cons (by exact (pg_name (i := 5) scOf.nd rfl (Or.inl rfl))) pgs_nil))))
        (fun _ _ _ _ _ => pts_one (PW.pt (pw_and (pt_cmpR op_eq (pv 4) pe_str (nomark _)) (pw_and1 (pt_not (pt_val (pe_call ih hr (by rfl) mF kF bF .nil pass0 (pa_cons (pv 5) (pa_cons (pv 1) pa_nil))))))))) (fun _ _ _ _ _ => pv 5)) (pe_lst pa_nil) (nomark _)))))), ?_⟩
    obtain ⟨wd, fs, x, rfl, hk, hl, hsl⟩ := frm_cases hfr
    have hk : slF.lookup wd = some x := hk
    have x4 := (slF_small _ (lookup_memS hk)).1
    have xa := (slF_small _ (lookup_memS hk)).2
    rw [iso_node _ _ _ _ hk] at q
    cases hv with
    | @tup a xs _ hs hall =>
    cases hall with
    | @cons u d us ds hd hds =>
    cases hd
    have lu := dvl_len hds
    simp only [okd, okdL, List.length_cons, Bool.and_eq_true, decide_eq_true_eq] at hok
    simp only [dep, depL] at hdep
    refine asg_run ⟨few (by show 7 ≤ 1000; decide), fun L nL => ?_⟩
    have s1 : Same H (upd H L (.lst (walksL.map V.str))) := same_new same_id nL
    have hL1 : (upd H L (.lst (walksL.map V.str))) L = some (.lst (walksL.map V.str)) := upd_same
    show (tSeq (tIfS _ _ _) _) _ _ (upd H L (.lst (walksL.map V.str)))
    generalize upd H L (.lst (walksL.map V.str)) = H1 at s1 hL1 ⊢
    have hs1 := same_seqT s1 hs
    refine ⟨_, rfl, a, _, 0, _, rfl, rfl, hs1, at_0 _ _, _, rfl, ⟨_, rfl, rfl, _, rfl, ?_⟩⟩
    rw [sg_c]
    refine kinds_run (fun Q' k => ⟨few (by show 4 ≤ 1000; decide), fun T nT => k T nT⟩) (fun Q' k => ⟨few (by show 0 ≤ 1000; decide), fun T nT => k T nT⟩) fun T nT => ?_
    have s2 := same_new (u := .lst ((if decide (c = 99) = true then moreL else []).map V.str)) s1 nT
    refine ⟨L, T, _, _, rfl, rfl, (upd_ne (ne_of_none hL1 nT)).trans hL1, upd_same, few (by
      rw [List.length_map, List.length_map]
      split <;> decide), fun G nG => ?_⟩
    have s3 := same_new (u := .lst (walksL.map V.str ++ (if decide (c = 99) = true then moreL else []).map V.str)) s2 nG
    refine ⟨G, _, rfl, .inl (SqL.of upd_same), rfl, ?_, _, rfl, ?_⟩
    · rw [← List.map_append]
      exact flat_strs _
    have ein : inV (V.str wd) (walksL.map V.str ++ (if decide (c = 99) = true then moreL else []).map V.str) = decide (wd ∈ kindL (decide (c = 99))) := by
      rw [← List.map_append]
      exact inV_strs wd _
    show (if (!inV (V.str wd) (walksL.map V.str ++ (if decide (c = 99) = true then moreL else []).map V.str)) = true then _ else _)
    rw [ein]
    have hs3 := same_seqT s3 hs
    generalize upd (upd H1 T (.lst ((if decide (c = 99) = true then moreL else []).map V.str))) G (.lst (walksL.map V.str ++ (if decide (c = 99) = true then moreL else []).map V.str)) = H3 at s3 hs3 ⊢
    cases hin : decide (wd ∈ kindL (decide (c = 99))) with
    | false =>
      rw [hin, Bool.false_and] at q
      exact iteT (q H3 s3)
    | true =>
      rw [hin, Bool.true_and] at q
      refine iteF ?_
      refine nx_run ?_
      dsimp only
      refine asg_run ?_
      refine ⟨_, rfl, a, _, 0, _, rfl, rfl, hs3, at_0 _ _, wd, rfl, fun H4 s4 => ?_⟩
      have hs4 := same_seqT s4 hs3
      refine ⟨_, rfl, 1, rfl, sl_runN hs4 fun H5 B s5 hB => ?_⟩
      rw [cut_1] at hB
      refine ⟨x, B, us, by rw [hk]; rfl, xa, hB, by rw [lu, hl]; rfl, by omega, fun H6 ts t zn t0 ht => ?_⟩
      obtain ⟨s6, zp⟩ := zn
      have s06 : Same H H6 := s3.trans (s4.trans (s5.trans s6))
      have lts : ts.length = x.length := by
        have := paired_len zp
        rw [List.length_zip, signs_len] at this
        omega
      refine ⟨_, rfl, t, rfl, ⟨_, SqL.of ht⟩, fun D nD => ?_⟩
      refine lc_none (walk_list (K := K) (a := t) (xs := ts.map V.ref)) (fun i => decide (sg x i = 102) && !iso j (decide (c = 99)) (fs.getD i .non)) (by rw [List.length_map]; omega) nD (fun H' s' => SqL.of (s' _ _ ht)) yAt_same ?_ ?_
      · rintro i y H7 P1 P0 hi s7 ⟨_, hy⟩ h1 h0
        rw [List.length_map] at hi
        have hui : us[i]? = some us[i] := List.getElem?_eq_getElem (by omega)
        have hz : ((L2.signs x).zip us)[i]? = some (V.str ⟨#[sg x i]⟩, us[i]) := by
          rw [List.getElem?_zip_eq_some]
          exact ⟨signs_get (by omega), hui⟩
        obtain ⟨T', hT', _, hT6⟩ := paired_get zp hz
        rw [List.getElem?_map, hT'] at hy
        cases hy
        obtain ⟨ti, hti, hdi⟩ := dvl_get hds hui
        have eg : fs.getD i .non = ti := by rw [List.getD_eq_getElem?_getD, hti]; rfl
        rw [eg] at h1 h0
        have hdt : dep ti ≤ depL fs := dep_mem (List.mem_of_getElem? hti)
        refine ⟨T', _, rfl, SqT.of (s7 _ _ hT6), rfl, _, _, rfl, _, _, rfl, rfl, rfl, _, rfl, rfl, _, rfl, ?_⟩
        rw [sg_f]
        cases h102 : decide (sg x i = 102) with
        | false =>
          rw [h102, Bool.false_and] at h0
          exact iteF (iteF (h0 rfl _ same_id))
        | true =>
          rw [h102, Bool.true_and] at h1 h0
          have es := hsl i (by omega)
          rw [of_decide_eq_true h102, eg] at es
          refine iteT ⟨_, rfl, _, rfl, us[i], c, ti, rfl, hc, dvM (s06.trans s7) hdi, by omega, okd_get hok.2.2 hti, slt_of_f es, fun H8 s8 => ⟨_, rfl, ?_⟩⟩
          exact ite2 (fun c => ⟨_, rfl, h1 c _ _ s8⟩) (fun c => h0 (by simpa using c) _ s8)
      · intro H7 acc s7 hD ha
        refine ⟨few (by show 0 ≤ 1000; decide), fun T2 nT2 => ⟨D, T2, acc, rfl, rfl, (upd_ne (ne_of_none hD nT2)).trans hD, upd_same, ?_⟩⟩
        rw [ha, List.length_map, lts, ← hl]
        exact q _ (same_new (s06.trans s7) nT2)
end
end Toy


namespace Toy
open PySem PySem.Spec L2 PyProof.Rows PySem.W
abbrev sSlot : Stmt := top 56
abbrev NSl : List Str := ["_law_slot", "_law_x", "_law_keys", "_law_entry", "_law_one"]
theorem fwc_of {c : Nat} (h : decide (c ∈ ("fwc" : Str).cps.toList) = true) (n : decide (c = 102) = false) : c = 119 ∨ c = 99 := by
  rw [show ("fwc" : Str).cps.toList = [102, 119, 99] by decide +kernel] at h
  have h := of_decide_eq_true h
  have n := of_decide_eq_false n
  simp only [List.mem_cons, List.not_mem_nil, or_false] at h
  omega
theorem strs_of {K : PySem.W.Frag} {H : Hp} : ∀ {us : List V} {ts : List Dt}, DvL K H us ts → ts.all freeD = true → us = (ts.map strOfD).map V.str
  | _, _, .nil, _ => rfl
  | _, t :: ts, .cons a b, h => by
    rw [List.all_cons, Bool.and_eq_true] at h
    have ih := strs_of b h.2
    cases a with
    | str x =>
      rw [ih]
      rfl
    | _ => simp [freeD] at h
theorem all_dv {l : List Dt} {p : Dt → Bool} : ((List.range l.length).all fun i => p (l.getD i .non)) = l.all p := by
  refine all_range l p _ fun i hi => ?_
  rw [List.getD_eq_getElem?_getD, List.getElem?_eq_getElem hi]
  rfl
theorem getD_of {l : List Dt} {i : Nat} {t : Dt} (h : l[i]? = some t) : l.getD i .non = t := by
  rw [List.getD_eq_getElem?_getD, h]
  rfl
theorem ent_cases {t : Dt} (h : entD t = true) : ∃ k g, t = .tup [.str k, g] ∧ wordS k = true := by
  unfold entD at h
  split at h
  · exact ⟨_, _, rfl, h⟩
  · cases h
theorem ents_bad {l : List Dt} {i : Nat} {t : Dt} (h : l[i]? = some t) (b : entD t = false) : entsD l = false := by
  unfold entsD
  have : l.all entD = false := by
    rw [List.all_eq_false]
    exact ⟨t, List.mem_of_getElem? h, by rw [b]; exact Bool.false_ne_true⟩
  rw [this, Bool.false_and]
theorem ents_twice {l : List Dt} {i : Nat} {t : Dt} (h : l[i]? = some t) (m : keyD t ∈ (l.take i).map keyD) : entsD l = false := by
  unfold entsD uniq
  have : decide ((l.map keyD).Nodup) = false := by
    refine decide_eq_false fun nd => ?_
    have hi : i < l.length := (List.getElem?_eq_some_iff.mp h).1
    have e : l[i] = t := (List.getElem?_eq_some_iff.mp h).2
    rw [← List.take_append_drop i l, List.map_append, List.nodup_append] at nd
    refine nd.2.2 _ m _ ?_ rfl
    rw [List.mem_map]
    exact ⟨t, by rw [← e, ← List.getElem_cons_drop hi]; exact List.mem_cons_self, rfl⟩
  rw [this, Bool.and_false]
section
variable {P : Program} {w : World} {K : PySem.W.Frag} {mg : Str → Option Value} {base : Heap}
theorem scSlt : FnScope NSl ["_law_slot", "_law_x"] (defScope sSlot) := ⟨rfl, rfl, rfl, by decide +kernel, rfl, by decide +kernel, by decide +kernel⟩
theorem ok_slt {j : Nat} {f fFo fOf fWh fWd fFr fLf : Addr} {fd fdFo fdOf fdWh fdWd fdFr fdLf : FuncData} (F : Fun K "_law_is_slot" "_law_is_slot" sSlot f fd)
    (GFo : FnOk P w K mg base CX0 (2 * j + 4) fFo fdFo ["_law_x", "_law_of_filters"] (spForm K j)) (mFo : mg "_law_is_form" = some (.ref fFo)) (kFo : PySem.W.keepIn K (.ref fFo) = true) (bFo : Binds K fdFo ["_law_x", "_law_of_filters"] [])
    (GOf : FnOk P w K mg base CX0 (j + 3) fOf fdOf ["_law_term", "_law_slot"] (spOf K j)) (mOf : mg "_law_is_of" = some (.ref fOf)) (kOf : PySem.W.keepIn K (.ref fOf) = true) (bOf : Binds K fdOf ["_law_term", "_law_slot"] [])
    (GWh : FnOk P w K mg base CX0 1 fWh fdWh ["_law_x", "_law_most"] (spWh K)) (mWh : mg "_law_is_whole" = some (.ref fWh)) (kWh : PySem.W.keepIn K (.ref fWh) = true) (bWh : Binds K fdWh ["_law_x", "_law_most"] [])
    (GWd : FnOk P w K mg base CX0 1 fWd fdWd ["_law_x"] (spM K wordD)) (mWd : mg "_law_is_word" = some (.ref fWd)) (kWd : PySem.W.keepIn K (.ref fWd) = true) (bWd : Binds K fdWd ["_law_x"] [])
    (GFr : FnOk P w K mg base CX0 2 fFr fdFr ["_law_x"] (spM K freeD)) (mFr : mg "_law_is_free" = some (.ref fFr)) (kFr : PySem.W.keepIn K (.ref fFr) = true) (bFr : Binds K fdFr ["_law_x"] [])
    (GLf : FnOk P w K mg base CX0 1 fLf fdLf ["_law_x"] (spM K leafD)) (mLf : mg "_law_is_leaf" = some (.ref fLf)) (kLf : PySem.W.keepIn K (.ref fLf) = true) (bLf : Binds K fdLf ["_law_x"] [])
    (mI : mg "isinstance" = none) (mTu : mg "tuple" = none) (mStr : mg "str" = none) (mLen : mg "len" = none) (mSet : mg "set" = none) : FnOk P w K mg base CX0 (2 * j + 5) f fd ["_law_slot", "_law_x"] (spSlt K j) := by
  refine F.ok (k := 2 * j + 4) scSlt (fun vs H Q E h => ?_) (fun cdv A outer s H vs Q E hr h => ?_)
  · obtain ⟨v, c, t, rfl, _⟩ := h
    rfl
  · obtain ⟨v, c, t, rfl, hv, hdep, hok, q⟩ := h
    have hu := hr.units
    have hr1 : Room 1 _ := hr.mono (show 1 ≤ 2 * j + 4 by omega)
    have hr2 : Room 2 _ := hr.mono (show 2 ≤ 2 * j + 4 by omega)
    have hrO : Room (j + 3) _ := hr.mono (show j + 3 ≤ 2 * j + 4 by omega)
    refine ⟨_, pss_cons (ps_if (pt_cmpR op_in_sign (pv 0) pe_str (by with_unfolding_all rfl)) (pss_one (ps_ret (pe_and (pe_call GFo hr (by rfl) mFo kFo bFo .nil pass0 (pa_cons (pv 1) (pa_cons pe_bl pa_nil))) (pe_one (pe_or (pe_cmpR op_eq (pv 0) pe_str (nomark _)) (pe_one (pe_call GOf hrO (by rfl) mOf kOf bOf .nil pass0 (pa_cons (pv 1) (pa_cons (pv 0) pa_nil))))))))) pss_nil)
      (pss_cons (ps_if (pt_cmpR op_eq (pv 0) pe_str (nomark _)) (pss_one (ps_ret (pe_call GFo hr (by rfl) mFo kFo bFo .nil pass0 (pa_cons (pv 1) (pa_cons pe_bl pa_nil))))) pss_nil)
      (pss_cons (ps_if (pt_cmpR op_in_sign (pv 0) pe_str (by with_unfolding_all rfl)) (pss_one (ps_ret (pe_ifExp (pt_cmpR op_eq (pv 0) pe_str (nomark _)) (pe_call GWh hr1 (by rfl) mWh kWh bWh .nil pass0 (pa_cons (pv 1) (pa_cons pe_int pa_nil)))
        (pe_ifExp (pt_cmpR op_eq (pv 0) pe_str (nomark _)) (pe_call GWd hr1 (by rfl) mWd kWd bWd .nil pass0 (pa_cons (pv 1) pa_nil)) (pe_call GFr hr2 (by rfl) mFr kFr bFr .nil pass0 (pa_cons (pv 1) pa_nil)))))) pss_nil)
      (pss_cons (ps_if (pt_cmpR op_eq (pv 0) pe_str (nomark _)) (pss_one (ps_ret (pe_call GLf hr1 (by rfl) mLf kLf bLf .nil pass0 (pa_cons (pv 1) pa_nil)))) pss_nil)
      (pss_cons (ps_if (pt_cmpR op_eq (pv 0) pe_str (nomark _)) (pss_one (ps_ret (pe_and (pe_callB call_isi (by rfl) mI PyProof.Rows.boot_isinstance (pa_cons (pv 1) (pa_cons (pe_bltn (v := .ty "str") (by rfl) mStr (by decide +kernel) rfl) pa_nil)))
        (pe_one (pe_cmpR op_in_seq (pv 1) (pe_lst (pa_cons pe_str (pa_cons pe_str (pa_cons pe_str (pa_cons pe_str (pa_cons pe_str (pa_cons pe_str (pa_cons pe_str pa_nil)))))))) (by rfl)))))) pss_nil)
      (pss_cons (ps_if (pt_not (pt_val (pe_callB call_isi (by rfl) mI PyProof.Rows.boot_isinstance (pa_cons (pv 1) (pa_cons (pe_bltn (v := .ty "tuple") (by rfl) mTu (by decide +kernel) rfl) pa_nil))))) (pss_one (ps_ret pe_bl)) pss_nil)
      (pss_cons (ps_if (pt_cmpR op_eq (pv 0) pe_str (nomark _)) (pss_one (ps_ret (pe_and (pe_cmpR op_lt (pe_callB call_len_seq (by rfl) mLen PySem.boot_len (pa_cons (pv 1) pa_nil)) pe_int (nomark _))
        (pe_and (pe_cmpR (op_eqE hu) (pe_lc (own := [("_law_one", 4)]) (g := gName 4) (te := tVar 4) (tt := tNot (tB (tCall (spM K freeD) [] E0 (tCons (tVar 4) tNil)))) (by rfl) scSlt.nd (pi_tup (pv 1))
          (blkOk_by (own := [("_law_one", 4)]) (N := NSl) (sc := defScope sSlot) (by decide +kernel)) (fun _ _ _ _ _ => pg_name (i := 4) scSlt.nd rfl (Or.inl rfl))
          (fun _ _ _ _ _ => pts_one (pt_not (pt_val (pe_call GFr hr2 (by rfl) mFr kFr bFr .nil pass0 (pa_cons (pv 4) pa_nil))))) (fun _ _ _ _ _ => pv 4)) (pe_lst pa_nil) (nomark _))
          (pe_one (pe_cmpR op_eq (L2.pe_lenSetA rfl (by rfl) mLen (by rfl) mSet (pv 1)) (pe_callB call_len_seq (by rfl) mLen PySem.boot_len (pa_cons (pv 1) pa_nil)) (nomark _))))))) pss_nil)
      (pss_cons (ps_if (pt_cmpR op_eq (pv 0) pe_str (nomark _)) (pss_one (ps_ret (pe_and (pe_cmpR op_lt (pe_callB call_len_seq (by rfl) mLen PySem.boot_len (pa_cons (pv 1) pa_nil)) pe_int (nomark _))
        (pe_one (pe_cmpR (op_eqE hu) (pe_lc (own := [("_law_one", 4)]) (g := gName 4) (te := tVar 4) (tt := tNot (tB (tCall (spForm K j) [] E0 (tCons (tVar 4) (tCons (tC (.bl true)) tNil))))) (by rfl) scSlt.nd (pi_tup (pv 1))
          (blkOk_by (own := [("_law_one", 4)]) (N := NSl) (sc := defScope sSlot) (by decide +kernel)) (fun _ _ _ _ _ => pg_name (i := 4) scSlt.nd rfl (Or.inl rfl))
          (fun _ _ _ _ _ => pts_one (pt_not (pt_val (pe_call GFo hr (by rfl) mFo kFo bFo .nil pass0 (pa_cons (pv 4) (pa_cons pe_bl pa_nil)))))) (fun _ _ _ _ _ => pv 4)) (pe_lst pa_nil) (nomark _)))))) pss_nil)
      (pss_cons (ps_set (i := 2) scSlt.nd rfl (Or.inl rfl) (pe_lst pa_nil))
      (pss_cons (ps_for PassesOwn.never rfl (pi_tup (pv 1)) (pg_name (i := 3) scSlt.nd rfl (.inl rfl))
        (pss_cons (ps_if (PW.pt (pw_or (pt_not (pt_val (pe_callB call_isi (by rfl) mI PyProof.Rows.boot_isinstance (pa_cons (pv 3) (pa_cons (pe_bltn (v := .ty "tuple") (by rfl) mTu (by decide +kernel) rfl) pa_nil)))))
            (pw_or (pt_cmpR op_ne (pe_callB call_len_seq (by rfl) mLen PySem.boot_len (pa_cons (pv 3) pa_nil)) pe_int (nomark _)) (pw_or (pt_not (pt_val (pe_call GWd hr1 (by rfl) mWd kWd bWd .nil pass0 (pa_cons (pe_ix ix_tup (pv 3) pe_int (fun _ _ => rfl)) pa_nil))))
              (pw_or1 (pt_cmpR op_in_seq (pe_ix ix_tup (pv 3) pe_int (fun _ _ => rfl)) (pv 2) (by rfl))))))) (pss_one (ps_ret pe_bl)) pss_nil)
        (pss_one (ps_expr (pe_bm PySem.F.plainAttrs_list PySem.F.slot_list_append PySem.F.type_list_append mt_append (pv 2) (pa_cons (pe_ix ix_tup (pv 3) pe_int (fun _ _ => rfl)) pa_nil))))))
      (pss_one (ps_ret (pe_cmpR (op_eqE hu) (pe_lc (own := [("_law_entry", 3)]) (g := gName 3) (te := tVar 3) (tt := tNot (tB (tCall (spForm K j) [] E0 (tCons (tOp (rIxT K) (tVar 3) (tC (.int 1))) (tCons (tC (.bl true)) tNil))))) (by rfl) scSlt.nd (pi_tup (pv 1))
        (blkOk_by (own := [("_law_entry", 3)]) (N := NSl) (sc := defScope sSlot) (by decide +kernel)) (fun _ _ _ _ _ => pg_name (i := 3) scSlt.nd rfl (Or.inl rfl))
        (fun _ _ _ _ _ => pts_one (pt_not (pt_val (pe_call GFo hr (by rfl) mFo kFo bFo .nil pass0 (pa_cons (pe_ix ix_tup (pv 3) pe_int (fun _ _ => rfl)) (pa_cons pe_bl pa_nil)))))) (fun _ _ _ _ _ => pv 3)) (pe_lst pa_nil) (nomark _))))))))))))), ?_⟩
    unfold slt at q
    refine ⟨_, rfl, c, _, rfl, rfl, _, rfl, ite2 (fun c1 => ?_) (fun c1 => ?_)⟩
    · rw [if_pos c1] at q
      refine ⟨_, rfl, v, true, t, rfl, hv, hdep, hok, fun H1 s1 => ⟨_, rfl, ?_⟩⟩
      cases hf : frm j true t with
      | false =>
        rw [hf, Bool.false_and] at q
        exact iteF (q H1 s1)
      | true =>
        rw [hf, Bool.true_and] at q
        refine iteT ⟨_, rfl, rfl, _, rfl, ?_⟩
        rw [sg_f]
        cases h102 : decide (c = 102) with
        | true =>
          rw [h102, Bool.true_or] at q
          exact iteT (q H1 s1)
        | false =>
          rw [h102, Bool.false_or] at q
          exact iteF ⟨_, rfl, _, rfl, v, c, t, rfl, fwc_of c1 h102, dvM s1 hv, hdep, hok, hf, fun H2 s2 => q H2 (s1.trans s2)⟩
    rw [if_neg c1] at q
    refine ⟨_, rfl, rfl, _, rfl, ?_⟩
    rw [sg_t]
    refine ite2 (fun c2 => ?_) (fun c2 => ?_)
    · rw [if_pos c2] at q
      exact ⟨_, rfl, v, false, t, rfl, hv, hdep, hok, fun H1 s1 => q H1 s1⟩
    rw [if_neg c2] at q
    refine ⟨_, rfl, c, _, rfl, rfl, _, rfl, ite2 (fun c3 => ?_) (fun c3 => ?_)⟩
    · rw [if_pos c3] at q
      refine ⟨_, rfl, rfl, _, rfl, ?_⟩
      rw [sg_i]
      refine ite2 (fun c4 => ?_) (fun c4 => ?_)
      · rw [if_pos c4] at q
        exact ⟨_, rfl, v, t, rfl, hv, fun H1 s1 => q H1 s1⟩
      rw [if_neg c4] at q
      refine ⟨_, rfl, rfl, _, rfl, ?_⟩
      rw [sg_k]
      refine ite2 (fun c5 => ?_) (fun c5 => ?_)
      · rw [if_pos c5] at q
        exact ⟨_, rfl, v, t, rfl, hv, hok, fun H1 s1 => q H1 s1⟩
      · rw [if_neg c5] at q
        exact ⟨_, rfl, v, t, rfl, hv, hok, fun H1 s1 => q H1 s1⟩
    rw [if_neg c3] at q
    refine ⟨_, rfl, rfl, _, rfl, ?_⟩
    rw [sg_x]
    refine ite2 (fun c4 => ?_) (fun c4 => ?_)
    · rw [if_pos c4] at q
      exact ⟨_, rfl, v, t, rfl, hv, hok, fun H1 s1 => q H1 s1⟩
    rw [if_neg c4] at q
    refine ⟨_, rfl, rfl, _, rfl, ?_⟩
    rw [sg_s]
    refine ite2 (fun c5 => ?_) (fun c5 => ?_)
    · rw [if_pos c5] at q
      refine ⟨_, rfl, isS hv ⟨_, rfl, ?_⟩⟩
      cases hv with
      | str x =>
        refine iteT ⟨_, rfl, few (by show 7 ≤ 1000; decide), fun L nL => ⟨L, sortsL.map V.str, rfl, .inl (SqL.of upd_same), rfl, flat_strs _, ?_⟩⟩
        show Q (.bl (inV (.str x) (sortsL.map V.str))) _
        rw [inV_strs]
        exact q _ (same_new same_id nL)
      | non => exact iteF (q H same_id)
      | bl b => exact iteF (q H same_id)
      | int i => exact iteF (q H same_id)
      | tup _ _ => exact iteF (q H same_id)
      | lst _ => exact iteF (q H same_id)
      | dct _ => exact iteF (q H same_id)
    rw [if_neg c5] at q
    refine ⟨_, rfl, isT hv ⟨_, rfl, ?_⟩⟩
    cases hv with
    | non => exact iteT (q H same_id)
    | bl b => exact iteT (q H same_id)
    | int i => exact iteT (q H same_id)
    | str x => exact iteT (q H same_id)
    | lst _ => exact iteT (q H same_id)
    | dct _ => exact iteT (q H same_id)
    | @tup a xs l hs hall =>
      refine iteF ?_
      refine nx_run ?_
      dsimp only at q ⊢
      have lx := dvl_len hall
      simp only [okd, Bool.and_eq_true, decide_eq_true_eq] at hok
      simp only [dep] at hdep
      have e4 : decide ((xs.length : Int) < 4) = decide (l.length < 4) := decide_eq_decide.mpr (by omega)
      refine ⟨_, rfl, rfl, _, rfl, ?_⟩
      rw [sg_p]
      refine ite2 (fun c6 => ?_) (fun c6 => ?_)
      · rw [if_pos c6] at q
        refine ⟨_, rfl, a, xs, rfl, .inr hs, _, _, rfl, rfl, _, rfl, ?_⟩
        refine ite2 (fun c7 => ?_) (fun c7 => ?_)
        · rw [e4.symm.trans c7, Bool.true_and] at q
          refine ⟨_, rfl, a, rfl, ⟨xs, hs⟩, fun D nD => ?_⟩
          refine lc_none (walk_tup (K := K) (a := a) (xs := xs)) (fun i => !freeD (l.getD i .non)) (by omega) nD (fun H' s' => same_seqT s' hs) yAt_same ?_ ?_
          · rintro i y H2 P1 P0 hi s2 ⟨_, hy⟩ h1 h0
            obtain ⟨ti, hti, hdi⟩ := dvl_get hall hy
            rw [getD_of hti] at h1 h0
            exact ⟨rfl, _, rfl, y, ti, rfl, dvM s2 hdi, okd_get hok.2 hti, fun H3 s3 => ⟨_, rfl, ite2 (fun c8 => ⟨_, rfl, h1 c8 _ _ s3⟩) (fun c8 => h0 (by simpa using c8) _ s3)⟩⟩
          · intro H2 acc s2 hD ha
            refine ⟨few (by show 0 ≤ 1000; decide), fun T2 nT2 => ⟨D, T2, acc, rfl, rfl, (upd_ne (ne_of_none hD nT2)).trans hD, upd_same, _, rfl, ?_⟩⟩
            rw [ha]
            simp only [Bool.not_not]
            rw [lx, all_dv]
            have s3 := same_new (u := .lst []) s2 nT2
            cases hfa : l.all freeD with
            | false =>
              rw [hfa, Bool.false_and] at q
              exact iteF (q _ s3)
            | true =>
              rw [hfa, Bool.true_and] at q
              have ek := strs_of hall hfa
              have hs3 := same_seqT s3 hs
              rw [ek] at hs3
              refine iteT ⟨_, rfl, a, l.map strOfD, rfl, .inr hs3, by rw [List.length_map]; omega, fun n hn => ⟨_, rfl, a, _, rfl, .inr hs3, rfl, ?_⟩⟩
              have eu : decide (V.int (n : Int) = V.int (((l.map strOfD).map V.str).length : Nat)) = uniq (l.map strOfD) := by
                unfold uniq
                refine decide_eq_decide.mpr ?_
                rw [List.length_map, ← hn]
                constructor
                · intro z
                  have := V.int.inj z
                  omega
                · intro z
                  rw [z]
              rw [eu]
              exact q _ s3
        · have c7 : decide (l.length < 4) = false := by rw [← e4]; simpa using c7
          rw [c7, Bool.false_and] at q
          exact q H same_id
      rw [if_neg c6] at q
      refine ⟨_, rfl, rfl, _, rfl, ?_⟩
      rw [sg_a]
      refine ite2 (fun c6 => ?_) (fun c6 => ?_)
      · rw [if_pos c6] at q
        refine ⟨_, rfl, a, xs, rfl, .inr hs, _, _, rfl, rfl, _, rfl, ?_⟩
        refine ite2 (fun c7 => ?_) (fun c7 => ?_)
        · rw [e4.symm.trans c7, Bool.true_and] at q
          refine ⟨_, rfl, a, rfl, ⟨xs, hs⟩, fun D nD => ?_⟩
          refine lc_none (walk_tup (K := K) (a := a) (xs := xs)) (fun i => !frm j true (l.getD i .non)) (by omega) nD (fun H' s' => same_seqT s' hs) yAt_same ?_ ?_
          · rintro i y H2 P1 P0 hi s2 ⟨_, hy⟩ h1 h0
            obtain ⟨ti, hti, hdi⟩ := dvl_get hall hy
            rw [getD_of hti] at h1 h0
            have hdt : dep ti ≤ depL l := dep_mem (List.mem_of_getElem? hti)
            exact ⟨rfl, _, rfl, y, true, ti, rfl, dvM s2 hdi, by omega, okd_get hok.2 hti, fun H3 s3 => ⟨_, rfl, ite2 (fun c8 => ⟨_, rfl, h1 c8 _ _ s3⟩) (fun c8 => h0 (by simpa using c8) _ s3)⟩⟩
          · intro H2 acc s2 hD ha
            refine ⟨few (by show 0 ≤ 1000; decide), fun T2 nT2 => ⟨D, T2, acc, rfl, rfl, (upd_ne (ne_of_none hD nT2)).trans hD, upd_same, ?_⟩⟩
            rw [ha]
            simp only [Bool.not_not]
            rw [lx, all_dv]
            exact q _ (same_new s2 nT2)
        · have c7 : decide (l.length < 4) = false := by rw [← e4]; simpa using c7
          rw [c7, Bool.false_and] at q
          exact q H same_id
      rw [if_neg c6] at q
      refine nx_run ?_
      dsimp only
      refine asg_run ?_
      refine ⟨few (by show 0 ≤ 1000; decide), fun G nG => ?_⟩
      have sG : Same H (upd H G (.lst [])) := same_new same_id nG
      have hG0 : (upd H G (.lst [])) G = some (.lst []) := upd_same
      refine ⟨_, rfl, a, rfl, ⟨xs, same_seqT sG hs⟩, ?_⟩
      refine for_tup (K := K) (a := a) (xs := xs) (fun i σ H' => ∃ o, σ = [some (.str ⟨#[c]⟩), some (.ref a), some (.ref G), o, none] ∧ Same H H' ∧ H' G = some (.lst (((l.take i).map keyD).map V.str)) ∧ (l.take i).all entD = true ∧ ((l.take i).map keyD).Nodup) ⟨none, rfl, sG, hG0, rfl, List.nodup_nil⟩ ?_ ?_ ?_
      · rintro i σ H' _ ⟨o, _, s2, _⟩
        exact same_seqT s2 hs
      · rintro i y σ H2 hy ⟨o, rfl, s2, hG2, hea, hnd⟩
        obtain ⟨ti, hti, hdi⟩ := dvl_get hall hy
        have hil : i < l.length := (List.getElem?_eq_some_iff.mp hti).1
        have hd2 := dvM s2 hdi
        have bad : entD ti = false → ∀ H3, Same H H3 → Q (.bl false) H3 := fun b H3 s3 => by
          have z := q H3 s3
          rw [ents_bad hti b, Bool.false_and] at z
          exact z
        refine ⟨_, rfl, isT hd2 ⟨_, rfl, ?_⟩⟩
        cases hd2 with
        | non => exact iteT (iteT (bad rfl H2 s2))
        | bl b => exact iteT (iteT (bad rfl H2 s2))
        | int i => exact iteT (iteT (bad rfl H2 s2))
        | str x => exact iteT (iteT (bad rfl H2 s2))
        | lst _ => exact iteT (iteT (bad rfl H2 s2))
        | dct _ => exact iteT (iteT (bad rfl H2 s2))
        | @tup e ys l2 hse hl2 =>
          have ly := dvl_len hl2
          refine iteF ⟨_, rfl, e, ys, rfl, .inr hse, rfl, _, rfl, ?_⟩
          by_cases h2 : ys.length = 2
          · rw [decide_eq_true (show V.int (ys.length : Nat) = V.int 2 by rw [h2]; rfl)]
            refine iteF ?_
            cases hl2 with
            | nil => simp at h2
            | @cons y1 d1 r1 l1 g1 hr1' =>
            cases hr1' with
            | nil => simp at h2
            | @cons y2 d2 r2 l2' g2 hr2' =>
            cases hr2' with
            | cons _ _ => simp at h2
            | nil =>
              have hok2 := okd_get hok.2 hti
              simp only [okd, okdL, Bool.and_eq_true] at hok2
              refine ⟨_, rfl, e, _, 0, y1, rfl, rfl, hse, at_0 _ _, y1, d1, rfl, g1, hok2.2.1, fun H3 s3 => ⟨_, rfl, ?_⟩⟩
              cases g1 with
              | str k =>
                cases hw : wordS k with
                | false =>
                  rw [show wordD (.str k) = false from hw]
                  exact iteT (iteT (bad hw H3 (s2.trans s3)))
                | true =>
                  rw [show wordD (.str k) = true from hw]
                  refine iteF ?_
                  have hse3 := same_seqT s3 hse
                  have hG3 := s3 _ _ hG2
                  refine ⟨_, rfl, e, _, 0, _, rfl, rfl, hse3, at_0 _ _, _, rfl, G, _, rfl, .inl (SqL.of hG3), rfl, flat_strs _, _, rfl, ?_⟩
                  show (if inV (V.str k) (((l.take i).map keyD).map V.str) = true then _ else _)
                  rw [inV_strs]
                  refine ite2 (fun c8 => ?_) (fun c8 => ?_)
                  · have z := q H3 (s2.trans s3)
                    rw [ents_twice hti (of_decide_eq_true c8), Bool.false_and] at z
                    exact z
                  · have nk : k ∉ (l.take i).map keyD := fun m => c8 (decide_eq_true m)
                    refine nx_run ?_
                    dsimp only
                    refine ⟨_, rfl, .inl ⟨rfl, _, SqL.of hG3⟩, _, rfl, e, _, 0, _, rfl, rfl, hse3, at_0 _ _, G, _, _, rfl, rfl, hG3, small1000 (by
                      rw [List.length_map, List.length_map, List.length_take]
                      omega), ?_⟩
                    have et : l.take (i + 1) = l.take i ++ [.tup [.str k, d2]] := by
                      rw [List.take_add_one, hti]
                      rfl
                    refine ⟨_, rfl, ?_, ?_, ?_, ?_⟩
                    · intro b o ho
                      rw [upd_ne (ne_of_none ho nG)]
                      exact s3 _ _ (s2 _ _ ho)
                    · rw [upd_same, et, List.map_append, List.map_append]
                      rfl
                    · rw [et, List.all_append, hea]
                      simpa [entD] using hw
                    · rw [et, List.map_append, List.nodup_append]
                      refine ⟨hnd, by simp, fun x hx y hy e => ?_⟩
                      have : y = k := by simpa [keyD] using hy
                      rw [e, this] at hx
                      exact nk hx
              | non => exact iteT (iteT (bad rfl H3 (s2.trans s3)))
              | bl b => exact iteT (iteT (bad rfl H3 (s2.trans s3)))
              | int i => exact iteT (iteT (bad rfl H3 (s2.trans s3)))
              | tup _ _ => exact iteT (iteT (bad rfl H3 (s2.trans s3)))
              | lst _ => exact iteT (iteT (bad rfl H3 (s2.trans s3)))
              | dct _ => exact iteT (iteT (bad rfl H3 (s2.trans s3)))
          · rw [decide_eq_false (show ¬ V.int (ys.length : Nat) = V.int 2 by
              intro z
              have := V.int.inj z
              omega)]
            refine iteT (iteT (bad ?_ H2 s2))
            cases he : entD (.tup l2) with
            | false => rfl
            | true =>
              obtain ⟨k, g, e2, _⟩ := ent_cases he
              cases e2
              exact absurd ly h2
      · rintro σ H2 ⟨o, rfl, s2, hG2, hea, hnd⟩
        rw [lx, List.take_length] at hea hnd
        have en : entsD l = true := by
          unfold entsD uniq
          rw [hea, decide_eq_true hnd]
          rfl
        rw [en, Bool.true_and] at q
        dsimp only
        refine ret_run ?_
        refine ⟨_, rfl, a, rfl, ⟨xs, same_seqT s2 hs⟩, fun D nD => ?_⟩
        refine lc_none (walk_tup (K := K) (a := a) (xs := xs)) (fun i => !frm j true (valD (l.getD i .non))) (by omega) nD (fun H' s' => same_seqT (s2.trans s') hs) yAt_same ?_ ?_
        · rintro i y H3 P1 P0 hi s3 ⟨_, hy⟩ h1 h0
          obtain ⟨ti, hti, hdi⟩ := dvl_get hall hy
          rw [getD_of hti] at h1 h0
          have hdt : dep ti ≤ depL l := dep_mem (List.mem_of_getElem? hti)
          have hok2 := okd_get hok.2 hti
          obtain ⟨k, g, rfl, _⟩ := ent_cases (List.all_eq_true.mp hea ti (List.mem_of_getElem? hti))
          have hd3 := dvM (s2.trans s3) hdi
          cases hd3 with
          | @tup e ys _ hse hl2 =>
          cases hl2 with
          | @cons y1 _ ys1 _ g1 g2 =>
          cases g2 with
          | @cons y2 _ ys2 _ g2 g3 =>
          cases g3
          cases g1
          simp only [okd, okdL, Bool.and_eq_true] at hok2
          simp only [dep, depL] at hdt
          exact ⟨rfl, _, rfl, e, _, 1, y2, rfl, rfl, hse, at_nat (n := 1) rfl, y2, true, g, rfl, g2, by omega, hok2.2.2.1, fun H4 s4 => ⟨_, rfl, ite2 (fun c8 => ⟨_, rfl, h1 c8 _ _ s4⟩) (fun c8 => h0 (by simpa [valD] using c8) _ s4)⟩⟩
        · intro H3 acc s3 hD ha
          refine ⟨few (by show 0 ≤ 1000; decide), fun T2 nT2 => ⟨D, T2, acc, rfl, rfl, (upd_ne (ne_of_none hD nT2)).trans hD, upd_same, ?_⟩⟩
          rw [ha]
          simp only [Bool.not_not]
          rw [lx, all_dv (p := fun e => frm j true (valD e))]
          exact q _ (same_new (s2.trans s3) nT2)
end
end Toy


namespace Toy
open PySem PySem.Spec L2 PyProof.Rows PySem.W
section
variable {P : Program} {w : World} {K : PySem.W.Frag} {mg : Str → Option Value} {base : Heap}
theorem form_zero {f : Addr} {fd : FuncData} (F : Fun K "_law_is_form" "_law_is_form" sForm f fd) (mI : mg "isinstance" = none) (mTu : mg "tuple" = none) (mStr : mg "str" = none) : FnOk P w K mg base CX0 4 f fd ["_law_x", "_law_of_filters"] (spForm K 0) := by
  refine F.ok (k := 3) scFo (fun vs H Q E h => ?_) (fun cdv A outer s H vs Q E hr h => ?_)
  · obtain ⟨v, tr, t, rfl, _⟩ := h
    rfl
  · obtain ⟨v, tr, t, rfl, hv, hdep, hok, q⟩ := h
    have hu := hr.units
    refine ⟨_, pss_cons (ps_if (PW.pt (pw_or (pt_not (pt_val (pe_callB call_isi (by rfl) mI PyProof.Rows.boot_isinstance (pa_cons (pv 0) (pa_cons (pe_bltn (v := .ty "tuple") (by rfl) mTu (by decide +kernel) rfl) pa_nil)))))
          (pw_or (pt_cmpR (op_eqT0 hu) (pv 0) (pe_tup pa_nil) (nomark _)) (pw_or1 (pt_not (pt_val (pe_callB call_isi (by rfl) mI PyProof.Rows.boot_isinstance (pa_cons (pe_ix ix_tup (pv 0) pe_int (fun _ _ => rfl)) (pa_cons (pe_bltn (v := .ty "str") (by rfl) mStr (by decide +kernel) rfl) pa_nil))))))))) (pss_one (ps_ret pe_bl)) pss_nil) pss_never, ?_⟩
    refine ⟨_, rfl, isT hv ⟨_, rfl, ?_⟩⟩
    cases hv with
    | non => exact iteT (iteT (q H same_id))
    | bl b => exact iteT (iteT (q H same_id))
    | int i => exact iteT (iteT (q H same_id))
    | str x => exact iteT (iteT (q H same_id))
    | lst _ => exact iteT (iteT (q H same_id))
    | dct _ => exact iteT (iteT (q H same_id))
    | tup _ _ =>
      rw [dep] at hdep
      omega
/-- the law's own look, of values of any depth -/
theorem ok_look {f fO fSl fS fT fWh fWd fFr fLf : Addr} {fd fdO fdSl fdS fdT fdWh fdWd fdFr fdLf : FuncData} (F : Fun K "_law_is_form" "_law_is_form" sForm f fd) (FO : Fun K "_law_is_of" "_law_is_of" sOf fO fdO) (FSl : Fun K "_law_is_slot" "_law_is_slot" sSlot fSl fdSl)
    (GS : FnOk P w K mg base CX0 1 fS fdS ["_law_word"] (spSlot slF)) (mS : mg "_law_slots" = some (.ref fS)) (kS : PySem.W.keepIn K (.ref fS) = true) (bS : Binds K fdS ["_law_word"] [])
    (GT : FnOk P w K mg base CX0 1 fT fdT ["_law_word"] (spSlot slT)) (mT : mg "_law_test_slots" = some (.ref fT)) (kT : PySem.W.keepIn K (.ref fT) = true) (bT : Binds K fdT ["_law_word"] [])
    (GWh : FnOk P w K mg base CX0 1 fWh fdWh ["_law_x", "_law_most"] (spWh K)) (mWh : mg "_law_is_whole" = some (.ref fWh)) (kWh : PySem.W.keepIn K (.ref fWh) = true) (bWh : Binds K fdWh ["_law_x", "_law_most"] [])
    (GWd : FnOk P w K mg base CX0 1 fWd fdWd ["_law_x"] (spM K wordD)) (mWd : mg "_law_is_word" = some (.ref fWd)) (kWd : PySem.W.keepIn K (.ref fWd) = true) (bWd : Binds K fdWd ["_law_x"] [])
    (GFr : FnOk P w K mg base CX0 2 fFr fdFr ["_law_x"] (spM K freeD)) (mFr : mg "_law_is_free" = some (.ref fFr)) (kFr : PySem.W.keepIn K (.ref fFr) = true) (bFr : Binds K fdFr ["_law_x"] [])
    (GLf : FnOk P w K mg base CX0 1 fLf fdLf ["_law_x"] (spM K leafD)) (mLf : mg "_law_is_leaf" = some (.ref fLf)) (kLf : PySem.W.keepIn K (.ref fLf) = true) (bLf : Binds K fdLf ["_law_x"] [])
    (mF : mg "_law_is_form" = some (.ref f)) (kF : PySem.W.keepIn K (.ref f) = true) (bF : Binds K fd ["_law_x", "_law_of_filters"] []) (mO : mg "_law_is_of" = some (.ref fO)) (kO : PySem.W.keepIn K (.ref fO) = true) (bO : Binds K fdO ["_law_term", "_law_slot"] []) (mSl : mg "_law_is_slot" = some (.ref fSl)) (kSl : PySem.W.keepIn K (.ref fSl) = true) (bSl : Binds K fdSl ["_law_slot", "_law_x"] [])
    (mI : mg "isinstance" = none) (mTu : mg "tuple" = none) (mStr : mg "str" = none) (mLen : mg "len" = none) (mSet : mg "set" = none) (mR : mg "range" = none) (mLi : mg "list" = none) (mZip : mg "zip" = none) (j : Nat) :
    FnOk P w K mg base CX0 (2 * j + 4) f fd ["_law_x", "_law_of_filters"] (spForm K j) ∧ FnOk P w K mg base CX0 (j + 3) fO fdO ["_law_term", "_law_slot"] (spOf K j) := by
  induction j with
  | zero => exact ⟨form_zero F mI mTu mStr, of_zero FO⟩
  | succ j ih =>
    have sl := ok_slt (j := j) FSl ih.1 mF kF bF ih.2 mO kO bO GWh mWh kWh bWh GWd mWd kWd bWd GFr mFr kFr bFr GLf mLf kLf bLf mI mTu mStr mLen mSet
    exact ⟨ok_form F GS mS kS bS GT mT kT bT sl mSl kSl bSl mI mTu mStr mLen mR, ok_of1 FO GS mS kS bS ih.2 mO kO bO mLi mZip⟩
end
end Toy


namespace Toy
open PySem PySem.Spec L2 PyProof.Rows PySem.W
/-! ### the program's words, leaves, keys -/
abbrev sIsInt : Stmt := top 3
abbrev sName : Stmt := top 4
abbrev sFree : Stmt := top 5
abbrev sLeafV : Stmt := top 11
abbrev sTxt : Stmt := top 12
abbrev sUnl : Stmt := top 36
abbrev sEnts : Stmt := top 35
def intD : Dt → Bool
  | .int _ => true
  | _ => false
def txtS (x : Str) : Bool := decide (x.length ≤ 200) && x.cps.toList.all shown
def spTxt : Sp := fun vs H Q _ => ∃ x : Str, vs = [.str x] ∧ okK x = true ∧ ∀ H', Same H H' → Q (.bl (txtS x)) H'
abbrev NTx : List Str := ["text", "codes", "letter", "code"]
/-- the texts that a written tuple holds -/
def TupK (K : PySem.W.Frag) (a : Addr) (xs : List Str) : Prop := ∀ H : Hp, SqT K H a (xs.map V.str)
theorem low_le (c : Nat) : (!decide ((⟨#[c]⟩ : Str).cps.toList < ("a" : Str).cps.toList)) = decide (97 ≤ c) := by
  show (!decide ([c] < [97])) = _
  rw [lt1, Bool.eq_iff_iff]
  simp
theorem low_ge (c : Nat) : (!decide (("z" : Str).cps.toList < (⟨#[c]⟩ : Str).cps.toList)) = decide (c ≤ 122) := by
  show (!decide ([122] < [c])) = _
  rw [lt1, Bool.eq_iff_iff]
  simp
theorem all_map_id {l : List Nat} {f : Nat → Bool} : (l.map f).all id = l.all f := by
  rw [List.all_map]
  rfl
section
variable {P : Program} {w : World} {K : PySem.W.Frag} {mg : Str → Option Value} {base : Heap}
theorem scNm : FnScope ["value", "letter"] ["value"] (defScope sName) := ⟨rfl, rfl, rfl, by decide +kernel, rfl, by decide +kernel, by decide +kernel⟩
theorem scV1 : FnScope ["value"] ["value"] (defScope sIsInt) := ⟨rfl, rfl, rfl, by decide +kernel, rfl, by decide +kernel, by decide +kernel⟩
theorem scV2 : FnScope ["value"] ["value"] (defScope sFree) := ⟨rfl, rfl, rfl, by decide +kernel, rfl, by decide +kernel, by decide +kernel⟩
theorem scV3 : FnScope ["value"] ["value"] (defScope sLeafV) := ⟨rfl, rfl, rfl, by decide +kernel, rfl, by decide +kernel, by decide +kernel⟩
theorem scTx : FnScope NTx ["text"] (defScope sTxt) := ⟨rfl, rfl, rfl, by decide +kernel, rfl, by decide +kernel, by decide +kernel⟩
theorem ok_isInt {f : Addr} {fd : FuncData} (F : Fun K "is_integer" "is_integer" sIsInt f fd) (mI : mg "isinstance" = none) (mB : mg "bool" = none) (mN : mg "int" = none) : FnOk P w K mg base CX0 1 f fd ["value"] (spM K intD) := by
  refine F.ok scV1 (fun vs H Q E h => ?_) (fun cdv A outer s H vs Q E hr h => ?_)
  · obtain ⟨v, t, rfl, _⟩ := h
    rfl
  · obtain ⟨v, t, rfl, hv, hok, q⟩ := h
    refine ⟨_, pss_one (ps_ret (pe_and (pe_callB call_isi (by rfl) mI PyProof.Rows.boot_isinstance (pa_cons (pv 0) (pa_cons (pe_bltn (v := .ty "int") (by rfl) mN (by decide +kernel) rfl) pa_nil))) (pe_one (pe_not (pe_callB call_isi (by rfl) mI PyProof.Rows.boot_isinstance (pa_cons (pv 0) (pa_cons (pe_bltn (v := .ty "bool") (by rfl) mB (by decide +kernel) rfl) pa_nil))))))), ?_⟩
    refine ⟨_, rfl, isI hv ⟨_, rfl, ?_⟩⟩
    cases hv with
    | int i => exact iteT ⟨_, rfl, isB (.int i) ⟨_, rfl, q H same_id⟩⟩
    | bl b => exact iteT ⟨_, rfl, isB (.bl b) ⟨_, rfl, q H same_id⟩⟩
    | str x => exact iteF (q H same_id)
    | non => exact iteF (q H same_id)
    | tup _ _ => exact iteF (q H same_id)
    | lst _ => exact iteF (q H same_id)
    | dct _ => exact iteF (q H same_id)
theorem ok_name {f : Addr} {fd : FuncData} {u8 : Value} (F : Fun K "is_name" "is_name" sName f fd) (m8 : mg "MOST_LETTERS_words" = some u8) (r8 : RelV (.int 8) u8) (mI : mg "isinstance" = none) (mS : mg "str" = none) (mLen : mg "len" = none) (mA : mg "all" = none) : FnOk P w K mg base CX0 1 f fd ["value"] (spM K wordD) := by
  refine F.ok scNm (fun vs H Q E h => ?_) (fun cdv A outer s H vs Q E hr h => ?_)
  · obtain ⟨v, t, rfl, _⟩ := h
    rfl
  · obtain ⟨v, t, rfl, hv, hok, q⟩ := h
    refine ⟨_, pss_cons (ps_if (PW.pt (pw_or (pt_not (pt_val (pe_callB call_isi (by rfl) mI PyProof.Rows.boot_isinstance (pa_cons (pv 0) (pa_cons (pe_bltn (v := .ty "str") (by rfl) mS (by decide +kernel) rfl) pa_nil)))))
          (pw_or1 (pt_not (pt_chain op_le op_le pe_int (pe_callB call_len_str (by rfl) mLen PySem.boot_len (pa_cons (pv 0) pa_nil)) (pe_glob (v := .int 8) (by rfl) m8 r8)))))) (pss_one (ps_ret pe_bl)) pss_nil)
      (pss_one (ps_ret (pe_callB (cr_all rfl) (by rfl) mA (by decide +kernel) (pa_cons (pe_lc (own := [("letter", 1)]) (g := gName 1) (by rfl) scNm.nd (pi_str (pv 0))
            (blkOk_by (own := [("letter", 1)]) (N := ["value", "letter"]) (sc := defScope sName) (by decide +kernel)) (fun _ _ _ _ _ => pg_name (i := 1) scNm.nd rfl (Or.inl rfl)) (fun _ _ _ _ _ => pts_nil)
            (fun _ _ _ _ _ => pe_chain op_le_str op_le_str pe_str (pv 1) pe_str)) pa_nil)))), ?_⟩
    refine ⟨_, rfl, isS hv ⟨_, rfl, ?_⟩⟩
    cases hv with
    | str x =>
      have hok : okK x = true := by simpa [okd] using hok
      refine iteF ⟨_, rfl, x, rfl, few (okK_2 hok), 1, _, rfl, rfl, _, rfl, ?_⟩
      have eS : wordD (.str x) = ((decide (1 ≤ x.length) && decide (x.length ≤ 8)) && x.cps.toList.all lower) := rfl
      have e1 : decide ((1 : Int) ≤ (x.length : Int)) = decide (1 ≤ x.length) := decide_eq_decide.mpr (by omega)
      have e2 : decide ((x.length : Int) ≤ 8) = decide (x.length ≤ 8) := decide_eq_decide.mpr (by omega)
      rw [eS] at q
      refine ite2 (fun c => ?_) (fun c => ?_)
      · have c := e1.symm.trans c
        rw [c, Bool.true_and] at q
        refine ⟨_, _, rfl, rfl, _, rfl, ?_⟩
        refine ite2 (fun c2 => ?_) (fun c2 => ?_)
        · have c2 : decide ((x.length : Int) ≤ 8) = false := by simpa using c2
          rw [e2.symm.trans c2, Bool.false_and] at q
          exact q H same_id
        have c2 : decide ((x.length : Int) ≤ 8) = true := by simpa using c2
        rw [e2.symm.trans c2, Bool.true_and] at q
        have h8 : x.length ≤ 8 := of_decide_eq_true (e2.symm.trans c2)
        have h8' : x.cps.size ≤ 8 := h8
        refine ⟨_, rfl, x, rfl, fun D nD => ?_⟩
        refine lc_map walk_str (fun i => V.bl (lower (sg x i))) (by omega) nD (fun _ _ => trivial) (fun _ _ _ _ y => y.1) ?_ ?_
        · rintro i y H2 P1 hi s2 ⟨_, c3, hc, rfl⟩ h1
          have e := sg_of hc
          rw [e] at h1
          refine ⟨rfl, _, rfl, _, _, rfl, rfl, _, rfl, ?_⟩
          rw [low_le]
          unfold lower at h1
          refine ite2 (fun c4 => ?_) (fun c4 => ?_)
          · rw [c4, Bool.true_and] at h1
            refine ⟨_, _, rfl, rfl, ?_⟩
            rw [low_ge]
            exact h1 _ same_id
          · have c4 : decide (97 ≤ c3) = false := by simpa using c4
            rw [c4, Bool.false_and] at h1
            exact h1 _ same_id
        · intro H2 s2 hD
          refine ⟨D, (List.range x.cps.size).map fun i => lower (sg x i), rfl, SqL.of (by rw [hD, List.map_map]; rfl), ?_⟩
          rw [all_map_id, all_sg x lower]
          exact q _ s2
      · have c : decide (1 ≤ x.length) = false := by rw [← e1]; simpa using c
        rw [c, Bool.false_and, Bool.false_and] at q
        exact ⟨_, rfl, iteT (q H same_id)⟩
    | non => exact iteT (iteT (q H same_id))
    | bl b => exact iteT (iteT (q H same_id))
    | int i => exact iteT (iteT (q H same_id))
    | tup _ _ => exact iteT (iteT (q H same_id))
    | lst _ => exact iteT (iteT (q H same_id))
    | dct _ => exact iteT (iteT (q H same_id))
theorem ok_free {f fN aW : Addr} {fd fdN : FuncData} (F : Fun K "is_free_name" "is_free_name" sFree f fd) (GN : FnOk P w K mg base CX0 1 fN fdN ["value"] (spM K wordD)) (mN : mg "is_name" = some (.ref fN)) (kN : PySem.W.keepIn K (.ref fN) = true) (bN : Binds K fdN ["value"] []) (mW : mg "WORDS" = some (.ref aW)) (WK : TupK K aW wordsL) : FnOk P w K mg base CX0 2 f fd ["value"] (spM K freeD) := by
  refine F.ok scV2 (fun vs H Q E h => ?_) (fun cdv A outer s H vs Q E hr h => ?_)
  · obtain ⟨v, t, rfl, _⟩ := h
    rfl
  · obtain ⟨v, t, rfl, hv, hok, q⟩ := h
    refine ⟨_, pss_one (ps_ret (pe_and (pe_call GN hr (by rfl) mN kN bN .nil pass0 (pa_cons (pv 0) pa_nil)) (pe_one (pe_cmpR op_notIn_seq (pv 0) (pe_glob (v := .ref aW) (by rfl) mW rfl) (by rfl))))), ?_⟩
    refine ⟨_, rfl, v, t, rfl, hv, hok, fun H1 s1 => ⟨_, rfl, ?_⟩⟩
    cases hv with
    | str x =>
      have e : freeD (.str x) = (wordS x && !decide (x ∈ wordsL)) := rfl
      rw [e] at q
      cases hw : wordS x with
      | false =>
        rw [hw, Bool.false_and] at q
        rw [show wordD (.str x) = false from hw]
        exact iteF (q H1 s1)
      | true =>
        rw [hw, Bool.true_and] at q
        rw [show wordD (.str x) = true from hw]
        refine iteT ⟨_, rfl, aW, wordsL.map V.str, rfl, .inr (WK H1), rfl, flat_strs _, ?_⟩
        show Q (.bl (!inV (.str x) (wordsL.map V.str))) _
        rw [inV_strs]
        exact q _ s1
    | non => exact iteF (q H1 s1)
    | bl b => exact iteF (q H1 s1)
    | int i => exact iteF (q H1 s1)
    | tup _ _ => exact iteF (q H1 s1)
    | lst _ => exact iteF (q H1 s1)
    | dct _ => exact iteF (q H1 s1)
theorem ok_txt {f : Addr} {fd : FuncData} {u2 u3 : Value} (F : Fun K "_is_text" "_is_text" sTxt f fd) (m2 : mg "MOST_LETTERS_data" = some u2) (r2 : RelV (.int 200) u2) (m3 : mg "PERCENT_SIGN" = some u3) (r3 : RelV (.int 37) u3) (mLen : mg "len" = none) (mO : mg "ord" = none) (mA : mg "all" = none) : FnOk P w K mg base CX0 1 f fd ["text"] spTxt := by
  refine F.ok scTx (fun vs H Q E h => ?_) (fun cdv A outer s H vs Q E hr h => ?_)
  · obtain ⟨x, rfl, _⟩ := h
    rfl
  · obtain ⟨x, rfl, hok, q⟩ := h
    refine ⟨_, pss_cons (ps_if (pt_cmpR op_gt (pe_callB call_len_str (by rfl) mLen PySem.boot_len (pa_cons (pv 0) pa_nil)) (pe_glob (v := .int 200) (by rfl) m2 r2) (nomark _)) (pss_one (ps_ret pe_bl)) pss_nil)
      (pss_cons (ps_setLc (i := 1) (own := [("letter", 2)]) (g := gName 2) (by rfl) scTx.nd rfl rfl (sw_true rfl rfl rfl (by decide +kernel)) (pi_str (pv 0))
            (blkOk_by (own := [("letter", 2)]) (N := NTx) (sc := defScope sTxt) (by decide +kernel)) (fun _ _ _ _ _ => pg_name (i := 2) scTx.nd rfl (Or.inl rfl)) (fun _ _ _ _ _ => pts_nil)
            (fun _ _ _ _ _ => pe_callB call_ord (by rfl) mO (by decide +kernel) (pa_cons (pv 2) pa_nil)))
      (pss_one (ps_ret (pe_callB (cr_all rfl) (by rfl) mA (by decide +kernel) (pa_cons (pe_lc (own := [("code", 3)]) (g := gName 3) (by rfl) scTx.nd (pi_list (pv 1))
            (blkOk_by (own := [("code", 3)]) (N := NTx) (sc := defScope sTxt) (by decide +kernel)) (fun _ _ _ _ _ => pg_name (i := 3) scTx.nd rfl (Or.inl rfl)) (fun _ _ _ _ _ => pts_nil)
            (fun _ _ _ _ _ => pe_and (pe_chain op_le op_le pe_int (pv 3) pe_int) (pe_one (pe_cmpR op_ne (pv 3) (pe_glob (v := .int 37) (by rfl) m3 r3) (nomark _))))) pa_nil))))), ?_⟩
    have e2 : decide ((200 : Int) < (x.length : Int)) = !decide (x.length ≤ 200) := by
      rw [Bool.eq_iff_iff]
      simp
      omega
    unfold txtS at q
    refine ⟨_, rfl, x, rfl, few (okK_2 hok), _, _, rfl, rfl, _, rfl, ?_⟩
    refine ite2 (fun c => ?_) (fun c => ?_)
    · have c := e2.symm.trans c
      have c : decide (x.length ≤ 200) = false := by simpa using c
      rw [c, Bool.false_and] at q
      exact q H same_id
    · have c : decide (x.length ≤ 200) = true := by
        have : ¬ (!decide (x.length ≤ 200)) = true := fun z => c (e2.trans z)
        simpa using this
      rw [c, Bool.true_and] at q
      have h2' : x.cps.size ≤ 200 := of_decide_eq_true c
      refine ⟨_, rfl, x, rfl, fun D nD => ?_⟩
      refine lc_map walk_str (fun i => V.int (sg x i : Nat)) (by omega) nD (fun _ _ => trivial) (fun _ _ _ _ y => y.1) ?_ ?_
      · rintro i y H2 P1 hi s2 ⟨_, c3, hc, rfl⟩ h1
        have e := sg_of hc
        rw [e] at h1
        exact ⟨rfl, _, rfl, _, rfl, rfl, h1 _ same_id⟩
      · intro H1 s1 hD
        refine ⟨_, rfl, D, rfl, ⟨_, SqL.of hD⟩, fun L nL => ?_⟩
        refine lc_map (walk_list (K := K) (a := D) (xs := (List.range x.cps.size).map fun i => V.int (sg x i : Nat))) (fun i => V.bl (shown (sg x i))) (by rw [List.length_map, List.length_range]; omega) nL (fun H' s' => SqL.of (s' _ _ hD)) yAt_same ?_ ?_
        · rintro i y H2 P1 hi s2 ⟨_, hy⟩ h1
          rw [List.length_map, List.length_range] at hi
          rw [List.getElem?_map, List.getElem?_range hi] at hy
          cases hy
          have n37 : sg x i ≠ 37 := by
            intro z
            refine okK_3 hok ?_
            rw [← z]
            unfold sg
            have hi' : i < x.cps.toList.length := by rw [Array.length_toList]; exact hi
            rw [List.getD_eq_getElem?_getD, List.getElem?_eq_getElem hi']
            exact List.getElem_mem hi'
          have ea : decide ((32 : Int) ≤ (sg x i : Nat)) = decide (32 ≤ sg x i) := decide_eq_decide.mpr (by omega)
          have eb : decide (((sg x i : Nat) : Int) ≤ 126) = decide (sg x i ≤ 126) := decide_eq_decide.mpr (by omega)
          have ec : (!decide (V.int ((sg x i : Nat) : Int) = V.int 37)) = true := by
            rw [Bool.not_eq_true', decide_eq_false_iff_not]
            intro z
            have := V.int.inj z
            omega
          unfold shown at h1
          refine ⟨rfl, _, rfl, _, _, rfl, rfl, _, rfl, ?_⟩
          refine ite2 (fun c4 => ?_) (fun c4 => ?_)
          · rw [ea.symm.trans c4, Bool.true_and] at h1
            refine ⟨_, _, rfl, rfl, _, rfl, ?_⟩
            refine ite2 (fun c5 => ?_) (fun c5 => ?_)
            · rw [eb.symm.trans c5] at h1
              refine ⟨_, rfl, rfl, ?_⟩
              show P1 (.bl (!decide (V.int ((sg x i : Nat) : Int) = V.int 37))) _
              rw [ec]
              exact h1 _ same_id
            · have c5 : decide (sg x i ≤ 126) = false := by rw [← eb]; simpa using c5
              rw [c5] at h1
              exact h1 _ same_id
          · have c4 : decide (32 ≤ sg x i) = false := by rw [← ea]; simpa using c4
            rw [c4, Bool.false_and] at h1
            exact ⟨_, rfl, iteF (h1 _ same_id)⟩
        · intro H2 s2 hL
          rw [List.length_map, List.length_range] at hL
          refine ⟨L, (List.range x.cps.size).map fun i => shown (sg x i), rfl, SqL.of (by rw [hL, List.map_map]; rfl), ?_⟩
          rw [all_map_id, all_sg x shown]
          exact q _ (s1.trans s2)
theorem ok_leafV {f fT : Addr} {fd fdT : FuncData} {u1 : Value} (F : Fun K "is_leaf" "is_leaf" sLeafV f fd) (GT : FnOk P w K mg base CX0 1 fT fdT ["text"] spTxt) (mT : mg "_is_text" = some (.ref fT)) (kT : PySem.W.keepIn K (.ref fT) = true) (bT : Binds K fdT ["text"] [])
    (m1 : mg "GREATEST" = some u1) (r1 : RelV (.int (10 ^ 30)) u1) (mI : mg "isinstance" = none) (mB : mg "bool" = none) (mN : mg "int" = none) (mS : mg "str" = none) : FnOk P w K mg base CX0 2 f fd ["value"] (spM K leafD) := by
  refine F.ok scV3 (fun vs H Q E h => ?_) (fun cdv A outer s H vs Q E hr h => ?_)
  · obtain ⟨v, t, rfl, _⟩ := h
    rfl
  · obtain ⟨v, t, rfl, hv, hok, q⟩ := h
    refine ⟨_, pss_cons (ps_if (PW.pt (pw_or (pt_cmpR op_isN (pv 0) pe_non (nomark _)) (pw_or1 (pt_val (pe_callB call_isi (by rfl) mI PyProof.Rows.boot_isinstance (pa_cons (pv 0) (pa_cons (pe_bltn (v := .ty "bool") (by rfl) mB (by decide +kernel) rfl) pa_nil))))))) (pss_one (ps_ret pe_bl)) pss_nil)
      (pss_cons (ps_if (pt_val (pe_callB call_isi (by rfl) mI PyProof.Rows.boot_isinstance (pa_cons (pv 0) (pa_cons (pe_bltn (v := .ty "int") (by rfl) mN (by decide +kernel) rfl) pa_nil)))) (pss_one (ps_ret (pe_chain op_le op_le (pe_un un_neg (pe_glob (v := .int (10 ^ 30)) (by rfl) m1 r1)) (pv 0) (pe_glob (v := .int (10 ^ 30)) (by rfl) m1 r1)))) pss_nil)
      (pss_one (ps_ret (pe_and (pe_callB call_isi (by rfl) mI PyProof.Rows.boot_isinstance (pa_cons (pv 0) (pa_cons (pe_bltn (v := .ty "str") (by rfl) mS (by decide +kernel) rfl) pa_nil))) (pe_one (pe_call GT hr (by rfl) mT kT bT .nil pass0 (pa_cons (pv 0) pa_nil))))))), ?_⟩
    refine ⟨_, rfl, rfl, _, rfl, ?_⟩
    cases hv with
    | non => exact iteT (iteT (q H same_id))
    | bl b => exact iteF ⟨_, rfl, isB (.bl b) ⟨_, rfl, iteT (q H same_id)⟩⟩
    | int i =>
      refine iteF ⟨_, rfl, isB (.int i) ⟨_, rfl, iteF ⟨_, rfl, isI (.int i) ⟨_, rfl, iteT ⟨_, rfl, _, rfl, _, _, rfl, rfl, _, rfl, ?_⟩⟩⟩⟩⟩
      have e : leafD (.int i) = (decide (-(10 ^ 30) ≤ i) && decide (i ≤ 10 ^ 30)) := rfl
      rw [e] at q
      refine ite2 (fun c => ?_) (fun c => ?_)
      · rw [c, Bool.true_and] at q
        exact ⟨_, _, rfl, rfl, q H same_id⟩
      · have c : decide (-(10 ^ 30) ≤ i) = false := by simpa using c
        rw [c, Bool.false_and] at q
        exact q H same_id
    | str x =>
      have hok : okK x = true := by simpa [okd] using hok
      exact iteF ⟨_, rfl, isB (.str x) ⟨_, rfl, iteF ⟨_, rfl, isI (.str x) ⟨_, rfl, iteF ⟨_, rfl, isS (.str x) ⟨_, rfl, iteT ⟨_, rfl, x, rfl, hok, fun H1 s1 => q H1 s1⟩⟩⟩⟩⟩⟩⟩
    | tup hs ha => exact iteF ⟨_, rfl, isB (.tup hs ha) ⟨_, rfl, iteF ⟨_, rfl, isI (.tup hs ha) ⟨_, rfl, iteF ⟨_, rfl, isS (.tup hs ha) ⟨_, rfl, iteF (q H same_id)⟩⟩⟩⟩⟩⟩
    | lst hs => exact iteF ⟨_, rfl, isB (.lst hs) ⟨_, rfl, iteF ⟨_, rfl, isI (.lst hs) ⟨_, rfl, iteF ⟨_, rfl, isS (.lst hs) ⟨_, rfl, iteF (q H same_id)⟩⟩⟩⟩⟩⟩
    | dct hs => exact iteF ⟨_, rfl, isB (.dct hs) ⟨_, rfl, iteF ⟨_, rfl, isI (.dct hs) ⟨_, rfl, iteF ⟨_, rfl, isS (.dct hs) ⟨_, rfl, iteF (q H same_id)⟩⟩⟩⟩⟩⟩
end
end Toy


namespace Toy
open PySem PySem.Spec L2 PyProof.Rows PySem.W
/-! ### the table of forms, as the program tells it -/
def formsL0 : List (Str × List Str) := [("same", []), ("field", ["key"]), ("item", ["index"]), ("every", []), ("none", []), ("fail", []), ("pipe", ["filter", "filter"]), ("both", ["filter", "filter"])]
def formsL1 : List (Str × List Str) := [("if", ["test", "filter", "filter"]), ("try", ["walk"]), ("other", ["walk", "filter"]), ("leaf", ["leaf"]), ("list", ["filter"]), ("dict", ["entries"]), ("sum", ["filter", "filter"]), ("less", ["filter", "filter"])]
def formsL2 : List (Str × List Str) := [("product", ["filter", "filter"]), ("alike", ["filter", "filter"]), ("before", ["filter", "filter"]), ("as", ["filter", "free", "filter"]), ("name", ["free"]), ("when", ["filter", "filter", "filter"]), ("catch", ["filter", "filter"]), ("reduce", ["filter", "free", "filter", "filter"])]
def formsL3 : List (Str × List Str) := [("first", ["filter"]), ("take", ["index", "filter"]), ("fails", ["filter"]), ("def", ["free", "parameters", "filter", "filter"]), ("call", ["free", "filters"]), ("places", ["chooser"]), ("change", ["chooser", "filter"]), ("drop", ["chooser"])]
def formsL4 : List (Str × List Str) := [("add", ["chooser", "key", "filter"]), ("append", ["chooser", "filter"]), ("is", ["sort"]), ("equal", ["leaf"]), ("at", ["walk", "test"]), ("and", ["test", "test"]), ("or", ["test", "test"]), ("not", ["test"])]
def formsL : List (Str × List Str) := formsL0 ++ (formsL1 ++ (formsL2 ++ (formsL3 ++ formsL4)))
def formOf (w : Str) : Option (List Str) := formsL.lookup w
def kinds4 : List Str := ["filter", "test", "walk", "chooser"]
def PK (k : Str) : Bool := decide (k ∈ kinds4)
def choosersL : List Str := ["same", "field", "item", "every", "none", "fail", "pipe", "both", "if", "try", "other"]
abbrev sBeg : Stmt := top 19
abbrev sNar : Stmt := top 20
abbrev sFld : Stmt := top 33
def nar (o k : Str) : Str := if k = "filter" then o else k
def begK (x k : Str) : Bool := if k = "walk" then decide (x ∈ walksL) else if k = "chooser" then decide (x ∈ choosersL) else (formOf x).isSome && decide (decide (x ∈ testsL) = decide (k = "test"))
def fldD (k : Str) (f : Dt) : Bool :=
  if PK k = true then true else if k = "key" then wordD f else if k = "free" then freeD f else if k = "index" then wholeD f else if k = "leaf" then leafD f else if k = "sort" then sortD f
  else match f with
    | .tup l => if k = "filters" then decide (l.length ≤ 3) else if k = "parameters" then decide (l.length ≤ 3) && (l.all freeD && uniq (l.map strOfD)) else entsD l
    | _ => false
def FormsK (K : PySem.W.Frag) (w : World) (d : Addr) : Prop := ∀ p ∈ formsL, ∃ a, KDct K w d p.1 (.ref a) ∧ ∀ H, SqT K H a (p.2.map V.str)
def spUnl (K : PySem.W.Frag) : Sp := fun vs H Q _ => ∃ (a : Addr) (ks : List Str), vs = [.ref a] ∧ (SqL K H a (ks.map V.str) ∨ SqT K H a (ks.map V.str)) ∧ ks.length ≤ 300 ∧ ∀ H', Same H H' → Q (.bl (uniq ks)) H'
def spEnts (K : PySem.W.Frag) : Sp := fun vs H Q _ => ∃ (a : Addr) (us : List V) (l : List Dt), vs = [.ref a] ∧ SqT K H a us ∧ DvL K H us l ∧ l.length ≤ 300 ∧ okdL 300 l = true ∧ ∀ H', Same H H' → Q (.bl (entsD l)) H'
def spBeg : Sp := fun vs H Q _ => ∃ (x k : Str), vs = [.str x, .str k] ∧ ∀ H', Same H H' → Q (.bl (begK x k)) H'
def spNar : Sp := fun vs H Q _ => ∃ (o k : Str), vs = [.str o, .str k] ∧ ∀ H', Same H H' → Q (.str (nar o k)) H'
def spFld (K : PySem.W.Frag) : Sp := fun vs H Q _ => ∃ (v : V) (k : Str) (t : Dt), vs = [v, .str k] ∧ Dv K H v t ∧ okd 300 t = true ∧ ∀ H', Same H H' → Q (.bl (fldD k t)) H'
abbrev NEn : List Str := ["values", "entry", "_", "key"]
abbrev NFi : List Str := ["value", "told", "name"]
theorem dec_s (a b : Str) : decide (V.str a = V.str b) = decide (a = b) := decide_eq_decide.mpr ⟨fun h => V.str.inj h, fun h => by rw [h]⟩
theorem lookup_mem {w : Str} {ks : List Str} : ∀ {L : List (Str × List Str)}, L.lookup w = some ks → (w, ks) ∈ L
  | [], h => by cases h
  | (k, v) :: L, h => by
    by_cases e : w = k
    · subst e
      simp [List.lookup] at h
      subst h
      exact List.mem_cons_self
    · have : (w == k) = false := by simp [e]
      simp only [List.lookup, this] at h
      exact List.mem_cons_of_mem _ (lookup_mem h)
theorem dv_flat {K : PySem.W.Frag} {H : Hp} {v : V} {t : Dt} (h : Dv K H v t) : (flatV v = true ∧ sortD t = inV v (sortsL.map V.str)) ∨ ∃ a, v = .ref a ∧ sortD t = false ∧ ((∃ us, SqL K H a us) ∨ (∃ us, SqT K H a us) ∨ ∃ m, H a = some (.dK m)) := by
  have z : ∀ v : V, (∀ k : Str, eqV (.str k) v = false) → inV v (sortsL.map V.str) = false := fun v hv => by
    unfold inV
    rw [List.any_eq_false]
    intro y hy
    obtain ⟨k, _, rfl⟩ := List.mem_map.mp hy
    rw [hv k]
    exact Bool.false_ne_true
  cases h with
  | non => exact .inl ⟨rfl, (z _ fun _ => rfl).symm⟩
  | bl b => exact .inl ⟨rfl, (z _ fun _ => rfl).symm⟩
  | int i => exact .inl ⟨rfl, (z _ fun _ => rfl).symm⟩
  | str x => exact .inl ⟨rfl, (inV_strs x sortsL).symm⟩
  | tup hs _ => exact .inr ⟨_, rfl, rfl, .inr (.inl ⟨_, hs⟩)⟩
  | lst hs => exact .inr ⟨_, rfl, rfl, .inl ⟨_, SqL.of hs⟩⟩
  | dct hs => exact .inr ⟨_, rfl, rfl, .inr (.inr ⟨_, hs⟩)⟩
section
variable {P : Program} {w : World} {K : PySem.W.Frag} {mg : Str → Option Value} {base : Heap}
theorem scUn : FnScope ["names"] ["names"] (defScope sUnl) := ⟨rfl, rfl, rfl, by decide +kernel, rfl, by decide +kernel, by decide +kernel⟩
theorem scEn : FnScope NEn ["values"] (defScope sEnts) := ⟨rfl, rfl, rfl, by decide +kernel, rfl, by decide +kernel, by decide +kernel⟩
theorem scBe' : FnScope ["word", "kind"] ["word", "kind"] (defScope sBeg) := ⟨rfl, rfl, rfl, by decide +kernel, rfl, by decide +kernel, by decide +kernel⟩
theorem scNa : FnScope ["outer", "kind"] ["outer", "kind"] (defScope sNar) := ⟨rfl, rfl, rfl, by decide +kernel, rfl, by decide +kernel, by decide +kernel⟩
theorem scFi : FnScope NFi ["value", "told"] (defScope sFld) := ⟨rfl, rfl, rfl, by decide +kernel, rfl, by decide +kernel, by decide +kernel⟩
theorem ok_nar {f : Addr} {fd : FuncData} (F : Fun K "narrowed" "narrowed" sNar f fd) : FnOk P w K mg base CX0 1 f fd ["outer", "kind"] spNar := by
  refine F.ok scNa (fun vs H Q E h => ?_) (fun cdv A outer s H vs Q E hr h => ?_)
  · obtain ⟨o, k, rfl, _⟩ := h
    rfl
  · obtain ⟨o, k, rfl, q⟩ := h
    refine ⟨_, pss_one (ps_ret (pe_ifExp (pt_cmpR op_eq (pv 1) pe_str (nomark _)) (pv 0) (pv 1))), ?_⟩
    unfold nar at q
    refine ⟨_, rfl, rfl, _, rfl, ?_⟩
    rw [dec_s]
    refine ite2 (fun c => ?_) (fun c => ?_)
    · rw [if_pos (of_decide_eq_true c)] at q
      exact ⟨_, rfl, q H same_id⟩
    · rw [if_neg (fun e => c (decide_eq_true e))] at q
      exact ⟨_, rfl, q H same_id⟩
theorem ok_beg {f aF aT aW aC : Addr} {fd : FuncData} (F : Fun K "begins_kind" "begins_kind" sBeg f fd) (mFo : mg "FORMS" = some (.ref aF)) (FD : ∃ es n, KDict K w aF es n) (FK : FormsK K w aF) (FN : ∀ x, formOf x = none → PySem.W.nsIn K aF x = some none)
    (mT : mg "TESTS" = some (.ref aT)) (TK : TupK K aT testsL) (mW : mg "WALKS" = some (.ref aW)) (WK : TupK K aW walksL) (mC : mg "CHOOSERS" = some (.ref aC)) (CK : TupK K aC choosersL) : FnOk P w K mg base CX0 1 f fd ["word", "kind"] spBeg := by
  obtain ⟨es, nn, FD⟩ := FD
  refine F.ok scBe' (fun vs H Q E h => ?_) (fun cdv A outer s H vs Q E hr h => ?_)
  · obtain ⟨x, k, rfl, _⟩ := h
    rfl
  · obtain ⟨x, k, rfl, q⟩ := h
    refine ⟨_, pss_cons (ps_if (pt_cmpR op_eq (pv 1) pe_str (nomark _)) (pss_one (ps_ret (pe_cmpR op_in_seq (pv 0) (pe_glob (v := .ref aW) (by rfl) mW rfl) (by rfl)))) pss_nil)
      (pss_cons (ps_if (pt_cmpR op_eq (pv 1) pe_str (nomark _)) (pss_one (ps_ret (pe_cmpR op_in_seq (pv 0) (pe_glob (v := .ref aC) (by rfl) mC rfl) (by rfl)))) pss_nil)
      (pss_one (ps_ret (pe_and (pe_cmpR (op_in_kd FD) (pv 0) (pe_glob (v := .ref aF) (by rfl) mFo rfl) (by rfl)) (pe_one (pe_cmpR op_eq (pe_cmpR op_in_seq (pv 0) (pe_glob (v := .ref aT) (by rfl) mT rfl) (by rfl)) (pe_cmpR op_eq (pv 1) pe_str (nomark _)) (nomark _))))))), ?_⟩
    unfold begK at q
    refine ⟨_, rfl, rfl, _, rfl, ?_⟩
    rw [dec_s]
    refine ite2 (fun c1 => ?_) (fun c1 => ?_)
    · rw [if_pos (of_decide_eq_true c1)] at q
      refine ⟨_, rfl, aW, walksL.map V.str, rfl, .inr (WK H), rfl, flat_strs _, ?_⟩
      show Q (.bl (inV (.str x) (walksL.map V.str))) _
      rw [inV_strs]
      exact q H same_id
    rw [if_neg (fun e => c1 (decide_eq_true e))] at q
    refine ⟨_, rfl, rfl, _, rfl, ?_⟩
    rw [dec_s]
    refine ite2 (fun c2 => ?_) (fun c2 => ?_)
    · rw [if_pos (of_decide_eq_true c2)] at q
      refine ⟨_, rfl, aC, choosersL.map V.str, rfl, .inr (CK H), rfl, flat_strs _, ?_⟩
      show Q (.bl (inV (.str x) (choosersL.map V.str))) _
      rw [inV_strs]
      exact q H same_id
    rw [if_neg (fun e => c2 (decide_eq_true e))] at q
    cases hf : formOf x with
    | none =>
      rw [hf] at q
      exact ⟨_, rfl, x, _, rfl, rfl, FN x hf, _, rfl, iteF (q H same_id)⟩
    | some ks =>
      rw [hf] at q
      obtain ⟨a, ⟨es2, n2, u, e1, e2, e3, e4⟩, _⟩ := FK _ (lookup_mem hf)
      refine ⟨_, rfl, x, _, rfl, rfl, e3, _, rfl, iteT ⟨_, rfl, aT, testsL.map V.str, rfl, .inr (TK H), rfl, flat_strs _, _, rfl, rfl, rfl, ?_⟩⟩
      show Q (.bl (decide (V.bl (inV (.str x) (testsL.map V.str)) = V.bl (decide (V.str k = V.str "test"))))) _
      rw [inV_strs, dec_s]
      have e : decide (V.bl (decide (x ∈ testsL)) = V.bl (decide (k = "test"))) = decide (decide (x ∈ testsL) = decide (k = "test")) := decide_eq_decide.mpr ⟨fun h => V.bl.inj h, fun h => by rw [h]⟩
      rw [e]
      exact q H same_id
theorem ok_unl {f : Addr} {fd : FuncData} (F : Fun K "_are_unlike" "_are_unlike" sUnl f fd) (mLen : mg "len" = none) (mSet : mg "set" = none) : FnOk P w K mg base CX0 1 f fd ["names"] (spUnl K) := by
  refine F.ok scUn (fun vs H Q E h => ?_) (fun cdv A outer s H vs Q E hr h => ?_)
  · obtain ⟨a, ks, rfl, _⟩ := h
    rfl
  · obtain ⟨a, ks, rfl, ha, hl, q⟩ := h
    refine ⟨_, pss_one (ps_ret (pe_cmpR op_eq (L2.pe_lenSetA rfl (by rfl) mLen (by rfl) mSet (pv 0)) (pe_callB call_len_seq (by rfl) mLen PySem.boot_len (pa_cons (pv 0) pa_nil)) (nomark _))), ?_⟩
    refine ⟨_, rfl, a, ks, rfl, ha, hl, fun n hn => ⟨_, rfl, a, _, rfl, ha, rfl, ?_⟩⟩
    have eu : decide (V.int (n : Int) = V.int ((ks.map V.str).length : Nat)) = uniq ks := by
      unfold uniq
      refine decide_eq_decide.mpr ?_
      rw [List.length_map, ← hn]
      constructor
      · intro z
        have := V.int.inj z
        omega
      · intro z
        rw [z]
    rw [eu]
    exact q H same_id
theorem ok_ents {f fN fU : Addr} {fd fdN fdU : FuncData} (F : Fun K "_are_entries" "_are_entries" sEnts f fd) (GN : FnOk P w K mg base CX0 1 fN fdN ["value"] (spM K wordD)) (mN : mg "is_name" = some (.ref fN)) (kN : PySem.W.keepIn K (.ref fN) = true) (bN : Binds K fdN ["value"] [])
    (GU : FnOk P w K mg base CX0 1 fU fdU ["names"] (spUnl K)) (mU : mg "_are_unlike" = some (.ref fU)) (kU : PySem.W.keepIn K (.ref fU) = true) (bU : Binds K fdU ["names"] []) (mI : mg "isinstance" = none) (mTu : mg "tuple" = none) (mLen : mg "len" = none) (mA : mg "all" = none) : FnOk P w K mg base CX0 2 f fd ["values"] (spEnts K) := by
  refine F.ok scEn (fun vs H Q E h => ?_) (fun cdv A outer s H vs Q E hr h => ?_)
  · obtain ⟨a, us, l, rfl, _⟩ := h
    rfl
  · obtain ⟨a, us, l, rfl, ha, hus, hl, hok, q⟩ := h
    have lus := dvl_len hus
    refine ⟨_, pss_cons (ps_if (pt_not (pt_val (pe_callB (cr_all rfl) (by rfl) mA (by decide +kernel) (pa_cons (pe_lc (own := [("entry", 1)]) (g := gName 1) (te := tAndV (tCB (rIsi K) (tCons (tVar 1) (tCons (tC (.ty "tuple")) tNil))) (tAndV (tOp rEq (tCB (fun xs H Q => ∃ p ys, xs = [.ref p] ∧ (SqL K H p ys ∨ SqT K H p ys) ∧ Q (.int ys.length) H) (tCons (tVar 1) tNil)) (tC (.int 2))) (tCall (spM K wordD) [] E0 (tCons (tOp (rIxT K) (tVar 1) (tC (.int 0))) tNil)))) (by rfl) scEn.nd (pi_tup (pv 0))
            (blkOk_by (own := [("entry", 1)]) (N := NEn) (sc := defScope sEnts) (by decide +kernel)) (fun _ _ _ _ _ => pg_name (i := 1) scEn.nd rfl (Or.inl rfl)) (fun _ _ _ _ _ => pts_nil)
            (fun _ _ _ _ _ => pe_and (pe_callB call_isi (by rfl) mI PyProof.Rows.boot_isinstance (pa_cons (pv 1) (pa_cons (pe_bltn (v := .ty "tuple") (by rfl) mTu (by decide +kernel) rfl) pa_nil)))
              (pe_and (pe_cmpR op_eq (pe_callB call_len_seq (by rfl) mLen PySem.boot_len (pa_cons (pv 1) pa_nil)) pe_int (nomark _)) (pe_one (pe_call GN hr (by rfl) mN kN bN .nil pass0 (pa_cons (pe_ix ix_tup (pv 1) pe_int (fun _ _ => rfl)) pa_nil)))))) pa_nil)))) (pss_one (ps_ret pe_bl)) pss_nil)
      (pss_one (ps_ret (pe_call GU hr (by rfl) mU kU bU .nil pass0 (pa_cons (pe_lc (own := [("key", 3), ("_", 2)]) (g := gTup K 2 (gCons (gName 3) (gCons (gName 2) gNil))) (te := tVar 3) (by rfl) scEn.nd (pi_tup (pv 0))
            (blkOk_by (own := [("key", 3), ("_", 2)]) (N := NEn) (sc := defScope sEnts) (by decide +kernel)) (fun _ _ _ _ _ => by exact (pg_tup rfl (pgs_cons (by exact (pg_name (i := 3) scEn.nd rfl (Or.inl rfl))) (pgs_cons (by exact (pg_name (i := 2) scEn.nd rfl (Or.inl rfl))) pgs_nil)))) (fun _ _ _ _ _ => pts_nil)
            (fun _ _ _ _ _ => pv 3)) pa_nil)))), ?_⟩
    refine ⟨_, rfl, a, rfl, ⟨us, ha⟩, fun D nD => ?_⟩
    refine lc_map (walk_tup (K := K) (a := a) (xs := us)) (fun i => V.bl (entD (l.getD i .non))) (by omega) nD (fun H' s' => same_seqT s' ha) yAt_same ?_ ?_
    · rintro i y H2 P1 hi s2 ⟨_, hy⟩ h1
      obtain ⟨ti, hti, hdi⟩ := dvl_get hus hy
      have eg : l.getD i .non = ti := by rw [List.getD_eq_getElem?_getD, hti]; rfl
      rw [eg] at h1
      have hd2 := dvM s2 hdi
      have hok2 := okd_get hok hti
      refine ⟨rfl, _, rfl, isT hd2 ⟨_, rfl, ?_⟩⟩
      cases hd2 with
      | non => exact iteF (h1 _ same_id)
      | bl b => exact iteF (h1 _ same_id)
      | int i => exact iteF (h1 _ same_id)
      | str x => exact iteF (h1 _ same_id)
      | lst _ => exact iteF (h1 _ same_id)
      | dct _ => exact iteF (h1 _ same_id)
      | @tup e ys l2 hse hl2 =>
        have ly := dvl_len hl2
        refine iteT ⟨_, rfl, e, ys, rfl, .inr hse, rfl, _, rfl, ?_⟩
        by_cases h2 : ys.length = 2
        · rw [decide_eq_true (show V.int (ys.length : Nat) = V.int 2 by rw [h2]; rfl)]
          refine iteT ?_
          cases hl2 with
          | nil => simp at h2
          | @cons y1 d1 r1 l1 g1 hr1' =>
          cases hr1' with
          | nil => simp at h2
          | @cons y2 d2 r2 l2' g2 hr2' =>
          cases hr2' with
          | cons _ _ => simp at h2
          | nil =>
            simp only [okd, okdL, Bool.and_eq_true] at hok2
            refine ⟨_, rfl, e, _, 0, y1, rfl, rfl, hse, atI_nat (j := 0) rfl, y1, d1, rfl, g1, hok2.2.1, fun H3 s3 => ?_⟩
            have e3 : entD (.tup [d1, d2]) = wordD d1 := by cases g1 <;> rfl
            rw [e3] at h1
            exact h1 _ s3
        · rw [decide_eq_false (show ¬ V.int (ys.length : Nat) = V.int 2 by
            intro z
            have := V.int.inj z
            omega)]
          have e3 : entD (.tup l2) = false := by
            unfold entD
            split
            · rename_i he
              cases he
              exact absurd ly h2
            · rfl
          rw [e3] at h1
          exact iteF (h1 _ same_id)
    · intro H1 s1 hD
      rw [lus] at hD
      refine ⟨D, (List.range l.length).map fun i => entD (l.getD i .non), rfl, SqL.of (by rw [hD, List.map_map]; rfl), _, rfl, ?_⟩
      have ea : ((List.range l.length).map fun i => entD (l.getD i .non)).all id = l.all entD := by
        rw [all_map_id]
        refine all_range l entD _ fun i hi => ?_
        rw [List.getD_eq_getElem?_getD, List.getElem?_eq_getElem hi]
        rfl
      rw [ea]
      unfold entsD at q
      cases hea : l.all entD with
      | false =>
        rw [hea, Bool.false_and] at q
        exact iteT (q H1 s1)
      | true =>
        rw [hea, Bool.true_and] at q
        refine iteF ?_
        have ha1 := same_seqT s1 ha
        refine ⟨_, rfl, a, rfl, ⟨us, ha1⟩, fun D2 nD2 => ?_⟩
        refine lc_map (walk_tup (K := K) (a := a) (xs := us)) (fun i => V.str (keyD (l.getD i .non))) (by omega) nD2 (fun H' s' => same_seqT s' ha1) yAt_same ?_ ?_
        · rintro i y H2 P1 hi s2 ⟨_, hy⟩ h1
          obtain ⟨ti, hti, hdi⟩ := dvl_get hus hy
          have eg : l.getD i .non = ti := by rw [List.getD_eq_getElem?_getD, hti]; rfl
          rw [eg] at h1
          have he := List.all_eq_true.mp hea ti (List.mem_of_getElem? hti)
          have hd2 := dvM (s1.trans s2) hdi
          cases hd2 with
          | @tup e ys l2 hse hl2 =>
            cases hl2 with
            | nil => cases he
            | @cons y1 d1 r1 l1 g1 hr1' =>
            cases hr1' with
            | nil =>
              cases g1 <;> cases he
            | @cons y2 d2 r2 l2' g2 hr2' =>
            cases hr2' with
            | cons _ _ => cases g1 <;> cases he
            | nil =>
              cases g1 with
              | str k => exact ⟨e, _, rfl, hse, rfl, _, _, rfl, _, _, rfl, rfl, rfl, _, rfl, h1 _ same_id⟩
              | _ => cases he
          | _ => cases he
        · intro H2 s2 hD2
          rw [lus] at hD2
          have ek : (List.range l.length).map (fun i => V.str (keyD (l.getD i .non))) = (l.map keyD).map V.str := by
            refine List.ext_getElem (by simp) fun i h1 h2 => ?_
            simp only [List.getElem_map, List.getElem_range]
            have hi : i < l.length := by simpa using h1
            rw [List.getD_eq_getElem?_getD, List.getElem?_eq_getElem hi]
            rfl
          rw [ek] at hD2
          exact ⟨D2, l.map keyD, rfl, .inl (SqL.of hD2), by rw [List.length_map]; omega, fun H3 s3 => q H3 ((s1.trans s2).trans s3)⟩
abbrev sIdx : Stmt := top 34
theorem scIx : FnScope ["value"] ["value"] (defScope sIdx) := ⟨rfl, rfl, rfl, by decide +kernel, rfl, by decide +kernel, by decide +kernel⟩
theorem ok_index {f fI : Addr} {fd fdI : FuncData} {u99 : Value} (F : Fun K "is_index" "is_index" sIdx f fd) (m99 : mg "MOST_INDEX" = some u99) (r99 : RelV (.int 99) u99)
    (GI : FnOk P w K mg base CX0 1 fI fdI ["value"] (spM K intD)) (mIn : mg "is_integer" = some (.ref fI)) (kI : PySem.W.keepIn K (.ref fI) = true) (bI : Binds K fdI ["value"] []) : FnOk P w K mg base CX0 2 f fd ["value"] (spM K wholeD) := by
  refine F.ok scIx (fun vs H Q E h => ?_) (fun cdv A outer s H vs Q E hr h => ?_)
  · obtain ⟨v, t, rfl, _⟩ := h
    rfl
  · obtain ⟨v, t, rfl, hv, hok, q⟩ := h
    refine ⟨_, pss_one (ps_ret (pe_and (pe_call GI hr (by rfl) mIn kI bI .nil pass0 (pa_cons (pv 0) pa_nil)) (pe_one (pe_chain op_le op_le pe_int (pv 0) (pe_glob (v := .int 99) (by rfl) m99 r99))))), ?_⟩
    refine ⟨_, rfl, v, t, rfl, hv, hok, fun H1 s1 => ⟨_, rfl, ?_⟩⟩
    cases hv with
    | int i =>
      have e : wholeD (.int i) = (decide (0 ≤ i) && decide (i ≤ 99)) := rfl
      rw [e] at q
      refine iteT ⟨_, rfl, _, _, rfl, rfl, _, rfl, ?_⟩
      refine ite2 (fun c5 => ?_) (fun c5 => ?_)
      · rw [c5, Bool.true_and] at q
        exact ⟨_, _, rfl, rfl, q H1 s1⟩
      · have c5 : decide (0 ≤ i) = false := by simpa using c5
        rw [c5, Bool.false_and] at q
        exact q H1 s1
    | non => exact iteF (q H1 s1)
    | bl b => exact iteF (q H1 s1)
    | str x => exact iteF (q H1 s1)
    | tup _ _ => exact iteF (q H1 s1)
    | lst _ => exact iteF (q H1 s1)
    | dct _ => exact iteF (q H1 s1)
theorem ok_fld {f aP aS fN fF fI fL fU fE : Addr} {fd fdN fdF fdI fdL fdU fdE : FuncData} {u3 : Value} (F : Fun K "_is_field" "_is_field" sFld f fd) (mPK : mg "PART_KINDS" = some (.ref aP)) (PKK : TupK K aP kinds4) (mSo : mg "SORTS" = some (.ref aS)) (SK : TupK K aS sortsL)
    (m3 : mg "MOST_HANDED" = some u3) (r3 : RelV (.int 3) u3)
    (GN : FnOk P w K mg base CX0 1 fN fdN ["value"] (spM K wordD)) (mN : mg "is_name" = some (.ref fN)) (kN : PySem.W.keepIn K (.ref fN) = true) (bN : Binds K fdN ["value"] [])
    (GF : FnOk P w K mg base CX0 2 fF fdF ["value"] (spM K freeD)) (mF : mg "is_free_name" = some (.ref fF)) (kF : PySem.W.keepIn K (.ref fF) = true) (bF : Binds K fdF ["value"] [])
    (GI : FnOk P w K mg base CX0 2 fI fdI ["value"] (spM K wholeD)) (mIn : mg "is_index" = some (.ref fI)) (kI : PySem.W.keepIn K (.ref fI) = true) (bI : Binds K fdI ["value"] [])
    (GL : FnOk P w K mg base CX0 2 fL fdL ["value"] (spM K leafD)) (mL : mg "is_leaf" = some (.ref fL)) (kL : PySem.W.keepIn K (.ref fL) = true) (bL : Binds K fdL ["value"] [])
    (GU : FnOk P w K mg base CX0 1 fU fdU ["names"] (spUnl K)) (mU : mg "_are_unlike" = some (.ref fU)) (kU : PySem.W.keepIn K (.ref fU) = true) (bU : Binds K fdU ["names"] [])
    (GE : FnOk P w K mg base CX0 2 fE fdE ["values"] (spEnts K)) (mE : mg "_are_entries" = some (.ref fE)) (kE : PySem.W.keepIn K (.ref fE) = true) (bE : Binds K fdE ["values"] [])
    (mI : mg "isinstance" = none) (mTu : mg "tuple" = none) (mLen : mg "len" = none) (mA : mg "all" = none) : FnOk P w K mg base CX0 3 f fd ["value", "told"] (spFld K) := by
  refine F.ok scFi (fun vs H Q E h => ?_) (fun cdv A outer s H vs Q E hr h => ?_)
  · obtain ⟨v, k, t, rfl, _⟩ := h
    rfl
  · obtain ⟨v, k, t, rfl, hv, hok, q⟩ := h
    have hu : A.units + 3 + 65 < cLine ∨ True := .inr trivial
    have hu := hr.un
    have hu : (A.deeper (envOfC "_is_field" (defScope sFld) s.heap.objs.size f cdv)).units + 65 < cLine := by
      have := hr.un
      omega
    have hr1 : Room 1 _ := hr.mono (show 1 ≤ 2 by omega)
    refine ⟨_, pss_cons (ps_if (pt_cmpR op_in_seq (pv 1) (pe_glob (v := .ref aP) (by rfl) mPK rfl) (by rfl)) (pss_one (ps_ret pe_bl)) pss_nil)
      (pss_cons (ps_if (pt_cmpR op_eq (pv 1) pe_str (nomark _)) (pss_one (ps_ret (pe_call GN hr1 (by rfl) mN kN bN .nil pass0 (pa_cons (pv 0) pa_nil)))) pss_nil)
      (pss_cons (ps_if (pt_cmpR op_eq (pv 1) pe_str (nomark _)) (pss_one (ps_ret (pe_call GF hr (by rfl) mF kF bF .nil pass0 (pa_cons (pv 0) pa_nil)))) pss_nil)
      (pss_cons (ps_if (pt_cmpR op_eq (pv 1) pe_str (nomark _)) (pss_one (ps_ret (pe_call GI hr (by rfl) mIn kI bI .nil pass0 (pa_cons (pv 0) pa_nil)))) pss_nil)
      (pss_cons (ps_if (pt_cmpR op_eq (pv 1) pe_str (nomark _)) (pss_one (ps_ret (pe_call GL hr (by rfl) mL kL bL .nil pass0 (pa_cons (pv 0) pa_nil)))) pss_nil)
      (pss_cons (ps_if (pt_cmpR op_eq (pv 1) pe_str (nomark _)) (pss_one (ps_ret (pe_cmpR (op_inTx hu) (pv 0) (pe_glob (v := .ref aS) (by rfl) mSo rfl) (by rfl)))) pss_nil)
      (pss_cons (ps_if (pt_not (pt_val (pe_callB call_isi (by rfl) mI PyProof.Rows.boot_isinstance (pa_cons (pv 0) (pa_cons (pe_bltn (v := .ty "tuple") (by rfl) mTu (by decide +kernel) rfl) pa_nil))))) (pss_one (ps_ret pe_bl)) pss_nil)
      (pss_cons (ps_if (pt_cmpR op_eq (pv 1) pe_str (nomark _)) (pss_one (ps_ret (pe_cmpR op_le (pe_callB call_len_seq (by rfl) mLen PySem.boot_len (pa_cons (pv 0) pa_nil)) (pe_glob (v := .int 3) (by rfl) m3 r3) (nomark _)))) pss_nil)
      (pss_cons (ps_if (pt_cmpR op_eq (pv 1) pe_str (nomark _)) (pss_one (ps_ret (pe_and (pe_cmpR op_le (pe_callB call_len_seq (by rfl) mLen PySem.boot_len (pa_cons (pv 0) pa_nil)) (pe_glob (v := .int 3) (by rfl) m3 r3) (nomark _))
          (pe_and (pe_callB (cr_all rfl) (by rfl) mA (by decide +kernel) (pa_cons (pe_lc (own := [("name", 2)]) (g := gName 2) (te := tCall (spM K freeD) [] E0 (tCons (tVar 2) tNil)) (by rfl) scFi.nd (pi_tup (pv 0))
            (blkOk_by (own := [("name", 2)]) (N := NFi) (sc := defScope sFld) (by decide +kernel)) (fun _ _ _ _ _ => pg_name (i := 2) scFi.nd rfl (Or.inl rfl)) (fun _ _ _ _ _ => pts_nil)
            (fun _ _ _ _ _ => pe_call GF hr (by rfl) mF kF bF .nil pass0 (pa_cons (pv 2) pa_nil))) pa_nil))
          (pe_one (pe_call GU hr1 (by rfl) mU kU bU .nil pass0 (pa_cons (pv 0) pa_nil))))))) pss_nil)
      (pss_one (ps_ret (pe_call GE hr (by rfl) mE kE bE .nil pass0 (pa_cons (pv 0) pa_nil)))))))))))), ?_⟩
    unfold fldD at q
    refine ⟨_, rfl, aP, _, rfl, .inr (PKK H), rfl, flat_strs kinds4, _, rfl, ?_⟩
    have ein : inV (V.str k) (kinds4.map V.str) = PK k := inV_strs k kinds4
    show (if inV (V.str k) (kinds4.map V.str) = true then _ else _)
    rw [ein]
    refine ite2 (fun c1 => ?_) (fun c1 => ?_)
    · rw [if_pos c1] at q
      exact q H same_id
    rw [if_neg c1] at q
    refine ⟨_, rfl, rfl, _, rfl, ?_⟩
    rw [dec_s]
    refine ite2 (fun c => ?_) (fun c => ?_)
    · rw [if_pos (of_decide_eq_true c)] at q
      exact ⟨_, rfl, v, t, rfl, hv, hok, fun H1 s1 => q H1 s1⟩
    rw [if_neg (fun e => c (decide_eq_true e))] at q
    refine ⟨_, rfl, rfl, _, rfl, ?_⟩
    rw [dec_s]
    refine ite2 (fun c => ?_) (fun c => ?_)
    · rw [if_pos (of_decide_eq_true c)] at q
      exact ⟨_, rfl, v, t, rfl, hv, hok, fun H1 s1 => q H1 s1⟩
    rw [if_neg (fun e => c (decide_eq_true e))] at q
    refine ⟨_, rfl, rfl, _, rfl, ?_⟩
    rw [dec_s]
    refine ite2 (fun c => ?_) (fun c => ?_)
    · rw [if_pos (of_decide_eq_true c)] at q
      exact ⟨_, rfl, v, t, rfl, hv, hok, fun H1 s1 => q H1 s1⟩
    rw [if_neg (fun e => c (decide_eq_true e))] at q
    refine ⟨_, rfl, rfl, _, rfl, ?_⟩
    rw [dec_s]
    refine ite2 (fun c => ?_) (fun c => ?_)
    · rw [if_pos (of_decide_eq_true c)] at q
      exact ⟨_, rfl, v, t, rfl, hv, hok, fun H1 s1 => q H1 s1⟩
    rw [if_neg (fun e => c (decide_eq_true e))] at q
    refine ⟨_, rfl, rfl, _, rfl, ?_⟩
    rw [dec_s]
    refine ite2 (fun c => ?_) (fun c => ?_)
    · rw [if_pos (of_decide_eq_true c)] at q
      rcases dv_flat hv with ⟨f1, f2⟩ | ⟨a, rfl, f2, f3⟩
      · rw [f2] at q
        exact ⟨_, rfl, aS, sortsL, rfl, SK H, .inl ⟨f1, q H same_id⟩⟩
      · rw [f2] at q
        exact ⟨_, rfl, aS, sortsL, rfl, SK H, .inr ⟨a, rfl, f3, q H same_id⟩⟩
    rw [if_neg (fun e => c (decide_eq_true e))] at q
    refine ⟨_, rfl, isT hv ⟨_, rfl, ?_⟩⟩
    cases hv with
    | non => exact iteT (q H same_id)
    | bl b => exact iteT (q H same_id)
    | int i => exact iteT (q H same_id)
    | str x => exact iteT (q H same_id)
    | lst _ => exact iteT (q H same_id)
    | dct _ => exact iteT (q H same_id)
    | @tup a us l ha hus =>
      refine iteF ?_
      refine nx_run ?_
      dsimp only at q ⊢
      have lus := dvl_len hus
      simp only [okd, Bool.and_eq_true, decide_eq_true_eq] at hok
      have e3 : decide ((us.length : Int) ≤ 3) = decide (l.length ≤ 3) := decide_eq_decide.mpr (by omega)
      refine ⟨_, rfl, rfl, _, rfl, ?_⟩
      rw [dec_s]
      refine ite2 (fun c => ?_) (fun c => ?_)
      · rw [if_pos (of_decide_eq_true c), ← e3] at q
        exact ⟨_, rfl, a, us, rfl, .inr ha, _, _, rfl, rfl, q H same_id⟩
      rw [if_neg (fun e => c (decide_eq_true e))] at q
      refine ⟨_, rfl, rfl, _, rfl, ?_⟩
      rw [dec_s]
      refine ite2 (fun c => ?_) (fun c => ?_)
      · rw [if_pos (of_decide_eq_true c)] at q
        refine ⟨_, rfl, a, us, rfl, .inr ha, _, _, rfl, rfl, _, rfl, ?_⟩
        refine ite2 (fun c7 => ?_) (fun c7 => ?_)
        · rw [e3.symm.trans c7, Bool.true_and] at q
          refine ⟨_, rfl, a, rfl, ⟨us, ha⟩, fun D nD => ?_⟩
          refine lc_map (walk_tup (K := K) (a := a) (xs := us)) (fun i => V.bl (freeD (l.getD i .non))) (by omega) nD (fun H' s' => same_seqT s' ha) yAt_same ?_ ?_
          · rintro i y H2 P1 hi s2 ⟨_, hy⟩ h1
            obtain ⟨ti, hti, hdi⟩ := dvl_get hus hy
            have eg : l.getD i .non = ti := by rw [List.getD_eq_getElem?_getD, hti]; rfl
            rw [eg] at h1
            exact ⟨rfl, _, rfl, y, ti, rfl, dvM s2 hdi, okd_get hok.2 hti, fun H3 s3 => h1 _ s3⟩
          · intro H1 s1 hD
            rw [lus] at hD
            refine ⟨D, (List.range l.length).map fun i => freeD (l.getD i .non), rfl, SqL.of (by rw [hD, List.map_map]; rfl), _, rfl, ?_⟩
            have ea : ((List.range l.length).map fun i => freeD (l.getD i .non)).all id = l.all freeD := by
              rw [all_map_id]
              refine all_range l freeD _ fun i hi => ?_
              rw [List.getD_eq_getElem?_getD, List.getElem?_eq_getElem hi]
              rfl
            rw [ea]
            cases hfa : l.all freeD with
            | false =>
              rw [hfa, Bool.false_and] at q
              exact iteF (q H1 s1)
            | true =>
              rw [hfa, Bool.true_and] at q
              have ek : us = (l.map strOfD).map V.str := by
                have : ∀ {us : List V} {ts : List Dt}, DvL K H us ts → ts.all freeD = true → us = (ts.map strOfD).map V.str := by
                  intro us ts h
                  induction ts generalizing us with
                  | nil => cases h; intro _; rfl
                  | cons t ts ih =>
                    cases h with
                    | cons a b =>
                      intro h
                      rw [List.all_cons, Bool.and_eq_true] at h
                      have ih := ih b h.2
                      cases a with
                      | str x =>
                        rw [ih]
                        rfl
                      | _ => simp [freeD] at h
                exact this hus hfa
              have ha1 := same_seqT s1 ha
              rw [ek] at ha1
              exact iteT ⟨_, rfl, a, l.map strOfD, rfl, .inr ha1, by rw [List.length_map]; omega, fun H2 s2 => q H2 (s1.trans s2)⟩
        · have c7 : decide (l.length ≤ 3) = false := by rw [← e3]; simpa using c7
          rw [c7, Bool.false_and] at q
          exact q H same_id
      rw [if_neg (fun e => c (decide_eq_true e))] at q
      exact ⟨_, rfl, a, us, l, rfl, ha, hus, hok.1, hok.2, fun H1 s1 => q H1 s1⟩
end
end Toy


namespace Toy
open PySem PySem.Spec L2 PyProof.Rows PySem.W
abbrev sHF : Stmt := top 32
abbrev NHF : List Str := ["value", "kind", "fields", "told", "field"]
def hasF (k : Str) (t : Dt) : Bool := match t with
  | .tup (.str x :: fs) => begK x k && (match formOf x with
    | some ks => decide (fs.length = ks.length) && (List.range fs.length).all fun i => fldD (ks.getD i Str.empty) (fs.getD i .non)
    | none => false)
  | _ => false
theorem walks_form : ∀ x ∈ walksL, (formOf x).isSome = true := by decide +kernel
theorem choosers_form : ∀ x ∈ choosersL, (formOf x).isSome = true := by decide +kernel
theorem forms_len : ∀ p ∈ formsL, p.2.length ≤ 4 := by decide +kernel
theorem begK_form {x k : Str} (h : begK x k = true) : ∃ ks, formOf x = some ks := by
  have : (formOf x).isSome = true := by
    unfold begK at h
    split at h
    · exact walks_form x (of_decide_eq_true h)
    · split at h
      · exact choosers_form x (of_decide_eq_true h)
      · rw [Bool.and_eq_true] at h
        exact h.1
  cases e : formOf x with
  | none => rw [e] at this; cases this
  | some ks => exact ⟨ks, rfl⟩
theorem hasF_cases {k : Str} {t : Dt} (h : hasF k t = true) : ∃ x fs ks, t = .tup (.str x :: fs) ∧ formOf x = some ks ∧ fs.length = ks.length ∧ ∀ i, i < fs.length → fldD (ks.getD i Str.empty) (fs.getD i .non) = true := by
  unfold hasF at h
  split at h
  · rename_i x fs
    rw [Bool.and_eq_true] at h
    cases e : formOf x with
    | none =>
      rw [e] at h
      exact absurd h.2 Bool.false_ne_true
    | some ks =>
      have h2 := h.2
      rw [e] at h2
      simp only [Bool.and_eq_true, decide_eq_true_eq, List.all_eq_true, List.mem_range] at h2
      exact ⟨x, fs, ks, rfl, e, h2.1, h2.2⟩
  · cases h
def spHF (K : PySem.W.Frag) : Sp := fun vs H Q _ => ∃ (v : V) (t : Dt) (k : Str), vs = [v, .str k] ∧ Dv K H v t ∧ okd 300 t = true ∧ ∀ H', Same H H' → Q (.bl (hasF k t)) H'
theorem cut_1w (a : V) (xs : List V) : ¬ (HT.sIx (a :: xs).length 0 (some 1) = 0 ∧ HT.sIx (a :: xs).length (a :: xs).length none = (a :: xs).length) := by
  rw [show HT.sIx (a :: xs).length 0 (some 1) = min 1 (a :: xs).length from HT.sIx_nat _ _ 1]
  intro h
  have := h.1
  rw [List.length_cons] at this
  omega
section
variable {P : Program} {w : World} {K : PySem.W.Frag} {mg : Str → Option Value} {base : Heap}
theorem scHF : FnScope NHF ["value", "kind"] (defScope sHF) := ⟨rfl, rfl, rfl, by decide +kernel, rfl, by decide +kernel, by decide +kernel⟩
theorem ok_hf {f aF fB fF : Addr} {fd fdB fdF : FuncData} (F : Fun K "_has_form" "_has_form" sHF f fd) (mFo : mg "FORMS" = some (.ref aF)) (FK : FormsK K w aF)
    (GB : FnOk P w K mg base CX0 1 fB fdB ["word", "kind"] spBeg) (mB : mg "begins_kind" = some (.ref fB)) (kB : PySem.W.keepIn K (.ref fB) = true) (bB : Binds K fdB ["word", "kind"] [])
    (GF : FnOk P w K mg base CX0 3 fF fdF ["value", "told"] (spFld K)) (mF : mg "_is_field" = some (.ref fF)) (kF : PySem.W.keepIn K (.ref fF) = true) (bF : Binds K fdF ["value", "told"] [])
    (mI : mg "isinstance" = none) (mTu : mg "tuple" = none) (mS : mg "str" = none) (mLen : mg "len" = none) (mA : mg "all" = none) (mZip : mg "zip" = none) : FnOk P w K mg base CX0 4 f fd ["value", "kind"] (spHF K) := by
  refine F.ok scHF (fun vs H Q E h => ?_) (fun cdv A outer s H vs Q E hr h => ?_)
  · obtain ⟨v, t, k, rfl, _⟩ := h
    rfl
  · obtain ⟨v, t, k, rfl, hv, hok, q⟩ := h
    have hr1 : Room 1 _ := hr.mono (show 1 ≤ 3 by omega)
    refine ⟨_, pss_cons (ps_if (PW.pt (pw_or (pt_not (pt_val (pe_callB call_isi (by rfl) mI PyProof.Rows.boot_isinstance (pa_cons (pv 0) (pa_cons (pe_bltn (v := .ty "tuple") (by rfl) mTu (by decide +kernel) rfl) pa_nil)))))
          (pw_or (pt_not (pt_truth (pv 0) (by intro _; rfl))) (pw_or1 (pt_not (pt_val (pe_callB call_isi (by rfl) mI PyProof.Rows.boot_isinstance (pa_cons (pe_ix ix_tup (pv 0) pe_int (fun _ _ => rfl)) (pa_cons (pe_bltn (v := .ty "str") (by rfl) mS (by decide +kernel) rfl) pa_nil))))))))) (pss_one (ps_ret pe_bl)) pss_nil)
      (pss_cons (ps_if (pt_not (pt_val (pe_call GB hr1 (by rfl) mB kB bB .nil pass0 (pa_cons (pe_ix ix_tup (pv 0) pe_int (fun _ _ => rfl)) (pa_cons (pv 1) pa_nil))))) (pss_one (ps_ret pe_bl)) pss_nil)
      (pss_cons (ps_set (i := 2) scHF.nd rfl (Or.inl rfl) (pe_ix ix_kdict (pe_glob (v := .ref aF) (by rfl) mFo rfl) (pe_ix ix_tup (pv 0) pe_int (fun _ _ => rfl)) (fun _ _ => rfl)))
      (pss_cons (ps_if (pt_cmpR op_ne (pe_callB call_len_seq (by rfl) mLen PySem.boot_len (pa_cons (pv 0) pa_nil)) (pe_op op_add (pe_callB call_len_seq (by rfl) mLen PySem.boot_len (pa_cons (pv 2) pa_nil)) pe_int) (nomark _)) (pss_one (ps_ret pe_bl)) pss_nil)
      (pss_one (ps_ret (pe_callB (cr_all rfl) (by rfl) mA (by decide +kernel) (pa_cons (pe_lc (own := [("told", 3), ("field", 4)]) (g := gTup K 2 (gCons (gName 3) (gCons (gName 4) gNil))) (te := tCall (spFld K) [] E0 (tCons (tVar 4) (tCons (tVar 3) tNil))) (by rfl) scHF.nd (RZ.pi_zipA (by rfl) mZip (pa_cons (pv 2) (pa_cons (pe_slice sl_tup (pv 0) (po_some pe_int) po_none) pa_nil)))
            (blkOk_by (own := [("told", 3), ("field", 4)]) (N := NHF) (sc := defScope sHF) (by decide +kernel)) (fun _ _ _ _ _ => by exact (pg_tup rfl (pgs_cons (by exact (pg_name (i := 3) scHF.nd rfl (Or.inl rfl))) (pgs_cons (by exact (pg_name (i := 4) scHF.nd rfl (Or.inl rfl))) pgs_nil)))) (fun _ _ _ _ _ => pts_nil)
            (fun _ _ _ _ _ => pe_call GF hr (by rfl) mF kF bF .nil pass0 (pa_cons (pv 4) (pa_cons (pv 3) pa_nil)))) pa_nil))))))), ?_⟩
    refine ⟨_, rfl, isT hv ⟨_, rfl, ?_⟩⟩
    cases hv with
    | non => exact iteT (iteT (q H same_id))
    | bl b => exact iteT (iteT (q H same_id))
    | int i => exact iteT (iteT (q H same_id))
    | str x => exact iteT (iteT (q H same_id))
    | lst _ => exact iteT (iteT (q H same_id))
    | dct _ => exact iteT (iteT (q H same_id))
    | @tup av xs l hseq hall =>
      refine iteF ⟨_, rfl, _, .inr (.inl ⟨_, hseq, rfl⟩), ?_⟩
      cases hall with
      | nil => exact iteT (iteT (q H same_id))
      | @cons u d vs fs hd hvs =>
        refine iteF ⟨_, rfl, av, _, 0, u, rfl, rfl, hseq, at_0 _ _, isS hd ⟨_, rfl, ?_⟩⟩
        cases hd with
        | non => exact iteT (q H same_id)
        | bl b => exact iteT (q H same_id)
        | int i => exact iteT (q H same_id)
        | tup _ _ => exact iteT (q H same_id)
        | lst _ => exact iteT (q H same_id)
        | dct _ => exact iteT (q H same_id)
        | str wd =>
          have hvl := dvl_len hvs
          simp only [okd, okdL, List.length_cons, Bool.and_eq_true, decide_eq_true_eq] at hok
          have eF : hasF k (.tup (.str wd :: fs)) = (begK wd k && (match formOf wd with
            | some ks => decide (fs.length = ks.length) && (List.range fs.length).all fun i => fldD (ks.getD i Str.empty) (fs.getD i .non)
            | none => false)) := rfl
          rw [eF] at q
          refine iteF ?_
          refine nx_run ?_
          dsimp only
          refine ⟨_, rfl, av, _, 0, _, rfl, rfl, hseq, at_0 _ _, _, rfl, wd, k, rfl, fun H1 s1 => ⟨_, rfl, ?_⟩⟩
          cases hbk : begK wd k with
          | false =>
            rw [hbk, Bool.false_and] at q
            exact iteT (q H1 s1)
          | true =>
            obtain ⟨ks, hk⟩ := begK_form hbk
            rw [hbk, Bool.true_and, hk] at q
            dsimp only at q
            have k4 : ks.length ≤ 4 := forms_len _ (lookup_mem hk)
            obtain ⟨aK, hK1, hK2⟩ := FK _ (lookup_mem hk)
            refine iteF ?_
            refine nx_run ?_
            dsimp only
            have seq1 := same_seqT s1 hseq
            refine asg_run ?_
            refine ⟨_, rfl, av, _, 0, _, rfl, rfl, seq1, at_0 _ _, aF, wd, _, rfl, rfl, hK1, ?_⟩
            refine ⟨_, rfl, av, _, rfl, .inr seq1, _, rfl, aK, _, rfl, .inr (hK2 H1), _, _, rfl, rfl, rfl, _, rfl, ?_⟩
            by_cases hl : fs.length = ks.length
            · rw [decide_eq_true hl, Bool.true_and] at q
              rw [decide_eq_true (show V.int ((V.str wd :: vs).length : Nat) = V.int (((ks.map V.str).length : Nat) + (1 : Int)) by
                congr 1
                rw [List.length_cons, List.length_map]
                omega)]
              refine iteF ?_
              refine nx_run ?_
              dsimp only
              refine ret_run ?_
              refine ⟨_, rfl, _, rfl, 1, rfl, av, _, rfl, seq1, cut_1w _ _, fun B nB => ?_⟩
              rw [cut_1]
              have sB := same_new (u := .tup vs) s1 nB
              have hB : (upd H1 B (.tup vs)) B = some (.tup vs) := upd_same
              generalize upd H1 B (.tup vs) = H2 at sB hB ⊢
              refine ⟨aK, B, ks.map V.str, vs, rfl, .inr ⟨hK2 H2, SqT.of hB, fun D nD => ?_⟩⟩
              refine ⟨fun i m H' => m + i = ks.length ∧ Same H2 H' ∧ H' D = some (.lst ((List.range i).map fun i => V.bl (fldD (ks.getD i Str.empty) (fs.getD i .non)))), ⟨ks.length, rfl, same_new same_id nD, upd_same⟩, fun i m H' hW => ?_⟩
              obtain ⟨em, s2, hD⟩ := hW
              have hBB := SqT.of (K := K) (s2 _ _ hB)
              have hlk : (ks.map V.str).length = ks.length := List.length_map ..
              by_cases hi : i < ks.length
              · have m1 : (ks.map V.str)[i]? = some (.str ks[i]) := by rw [List.getElem?_map, List.getElem?_eq_getElem hi]; rfl
                obtain ⟨y0, m2⟩ : ∃ y0, vs[i]? = some y0 := ⟨vs[i]'(by omega), List.getElem?_eq_getElem (by omega)⟩
                obtain ⟨f0, hf0, hyf⟩ := dvl_get hvs m2
                have e1 : ks.getD i Str.empty = ks[i] := by rw [List.getD_eq_getElem?_getD, List.getElem?_eq_getElem hi]; rfl
                have e2 : fs.getD i .non = f0 := by rw [List.getD_eq_getElem?_getD, hf0]; rfl
                refine .inr ⟨⟨_, _, _, _, hK2 H', hBB, m1, m2⟩, fun H3 => Same H2 H3 ∧ H3 D = some (.lst ((List.range (i + 1)).map fun i => V.bl (fldD (ks.getD i Str.empty) (fs.getD i .non)))), fun H3 hN => ⟨m - 1, by omega, by omega, hN.1, hN.2⟩, fun v H3 hy => ?_⟩
                obtain ⟨T1, x1, x2, rfl, nT, rfl, f1, f2⟩ := hy
                obtain rfl : x1 = .str ks[i] := Option.some.inj ((f1 _ (hK2 H')).symm.trans m1)
                obtain rfl : x2 = y0 := Option.some.inj ((f2 _ hBB).symm.trans m2)
                have nDT : D ≠ T1 := ne_of_none hD nT
                have sT : Same H2 (upd H' T1 (.tup [.str ks[i], x2])) := same_new s2 nT
                refine ⟨T1, _, rfl, SqT.of upd_same, rfl, _, _, rfl, _, _, rfl, rfl, rfl, _, rfl, _, rfl, x2, ks[i], f0, rfl, dvM (sB.trans sT) hyf, okd_get hok.2.2 hf0, fun H5 s5 => ?_⟩
                refine ⟨_, s5 _ _ ((upd_ne nDT).trans hD), small1000 (by rw [List.length_map, List.length_range]; omega), same_put (sT.trans s5) nD, ?_⟩
                rw [upd_same, List.range_succ, List.map_append, ← e1, ← e2]
                rfl
              · have hik : i = ks.length := by omega
                subst hik
                refine .inl ⟨⟨_, _, hK2 H', hBB, .inl (by show (ks.map V.str).length ≤ ks.length; omega)⟩, D, (List.range ks.length).map fun i => fldD (ks.getD i Str.empty) (fs.getD i .non), rfl, SqL.of (by rw [hD, List.map_map]; rfl), ?_⟩
                rw [all_map_id, ← hl]
                exact q H' (sB.trans s2)
            · rw [decide_eq_false hl, Bool.false_and] at q
              rw [decide_eq_false (show ¬ V.int ((V.str wd :: vs).length : Nat) = V.int (((ks.map V.str).length : Nat) + (1 : Int)) by
                intro z
                have z := V.int.inj z
                rw [List.length_cons, List.length_map] at z
                omega)]
              exact iteT (q H1 s1)
end
end Toy


namespace Toy
open PySem PySem.Spec L2 PyProof.Rows PySem.W
abbrev sKP : Stmt := top 21
abbrev NKP : List Str := ["term", "found", "kind", "field", "part", "_"]
/-! ### the parts of a form, with what they must be -/
def itemsD : Dt → List Dt
  | .tup l => l
  | _ => []
def kpK (k : Str) (f : Dt) : List (Str × Dt) := if PK k = true then [(k, f)] else if k = "filters" then (itemsD f).map fun g => (("filter" : Str), g) else if k = "entries" then (itemsD f).map fun e => (("filter" : Str), valD e) else []
def kpF : List Str → List Dt → List (Str × Dt)
  | k :: ks, f :: fs => kpK k f ++ kpF ks fs
  | _, _ => []
theorem kpF_take : ∀ (ks : List Str) (fs : List Dt) (i : Nat) {k : Str} {f : Dt}, ks[i]? = some k → fs[i]? = some f → kpF (ks.take (i + 1)) (fs.take (i + 1)) = kpF (ks.take i) (fs.take i) ++ kpK k f
  | k :: ks, f :: fs, 0, _, _, h1, h2 => by
    cases h1
    cases h2
    simp [kpF]
  | k :: ks, f :: fs, i + 1, _, _, h1, h2 => by
    have := kpF_take ks fs i (by simpa using h1) (by simpa using h2)
    simp only [List.take_succ_cons, kpF]
    rw [this, List.append_assoc]
  | [], _, _, _, _, h1, _ => by simp at h1
  | _ :: _, [], _, _, _, _, h2 => by simp at h2
def kpOf : Dt → List (Str × Dt)
  | .tup (.str x :: fs) => match formOf x with
    | some ks => kpF ks fs
    | none => []
  | _ => []
/-- at q a pair of what a part must be and the part, as H told it -/
def OKp (K : PySem.W.Frag) (H H' : Hp) (q : Addr) (p : Str × Dt) : Prop := ∃ v, H' q = some (.tup [.str p.1, v]) ∧ Dv K H v p.2
theorem okp_same {K : PySem.W.Frag} {H H1 H2 : Hp} {qs : List Addr} {ps : List (Str × Dt)} (s : Same H1 H2) (h : Paired (OKp K H H1) qs ps) : Paired (OKp K H H2) qs ps := L2.Paired.mapP h fun _ _ ⟨v, z, d⟩ => ⟨v, s _ _ z, d⟩
theorem okp_put {K : PySem.W.Frag} {H H1 : Hp} {L : Addr} {xs ys : List V} {qs : List Addr} {ps : List (Str × Dt)} (hL : H1 L = some (.lst xs)) (h : Paired (OKp K H H1) qs ps) : Paired (OKp K H (upd H1 L (.lst ys))) qs ps := L2.Paired.mapP h fun q p ⟨v, z, d⟩ => ⟨v, by
  rw [upd_ne (ne_of z hL (by intro e; cases e))]
  exact z, d⟩
theorem ent_casesE {t : Dt} (h : entD t = true) : ∃ k g, t = .tup [.str k, g] ∧ wordS k = true := by
  unfold entD at h
  split at h
  · exact ⟨_, _, rfl, h⟩
  · cases h
theorem paired_app {α β : Type} {F : α → β → Prop} : ∀ {xs : List α} {ys : List β} {us : List α} {vs : List β}, Paired F xs ys → Paired F us vs → Paired F (xs ++ us) (ys ++ vs)
  | _, _, _, _, .nil, r => r
  | _, _, _, _, .cons a b, r => .cons a (paired_app b r)
def spKP (K : PySem.W.Frag) : Sp := fun vs H Q _ => ∃ (v : V) (t : Dt) (k : Str) (H0 : Hp), vs = [v] ∧ Same H0 H ∧ Dv K H0 v t ∧ okd 300 t = true ∧ hasF k t = true ∧ ∀ H' L (qs : List Addr), Same H H' → H L = none → H' L = some (.lst (qs.map V.ref)) → Paired (OKp K H0 H') qs (kpOf t) → qs.length ≤ 1200 → Q (.ref L) H'
section
variable {P : Program} {w : World} {K : PySem.W.Frag} {mg : Str → Option Value} {base : Heap}
theorem scKP : FnScope NKP ["term"] (defScope sKP) := ⟨rfl, rfl, rfl, by decide +kernel, rfl, by decide +kernel, by decide +kernel⟩
theorem ok_kp {f aF aP : Addr} {fd : FuncData} (F : Fun K "kinds_and_parts" "kinds_and_parts" sKP f fd) (mFo : mg "FORMS" = some (.ref aF)) (FK : FormsK K w aF) (mPK : mg "PART_KINDS" = some (.ref aP)) (PKK : TupK K aP kinds4)
    (mZip : mg "zip" = none) : FnOk P w K mg base CX0 1 f fd ["term"] (spKP K) := by
  refine F.ok scKP (fun vs H Q E h => ?_) (fun cdv A outer s H vs Q E hr h => ?_)
  · obtain ⟨v, t, k, H0, rfl, _⟩ := h
    rfl
  · obtain ⟨v, t, k, H0, rfl, s0, hv, hok, hf, q⟩ := h
    obtain ⟨wd, fs, ks, rfl, hk, hkl, hfl⟩ := hasF_cases hf
    refine ⟨_, pss_cons (ps_set (i := 1) scKP.nd rfl (Or.inl rfl) (pe_lst pa_nil))
      (pss_cons (ps_for PassesOwn.never rfl (RZ.pi_zipA (by rfl) mZip (pa_cons (pe_ix ix_kdict (pe_glob (v := .ref aF) (by rfl) mFo rfl) (pe_ix ix_tup (pv 0) pe_int (fun _ _ => rfl)) (fun _ _ => rfl)) (pa_cons (pe_slice sl_tup (pv 0) (po_some pe_int) po_none) pa_nil)))
        (pg_tup (by rfl) (pgs_cons (pg_name (i := 2) scKP.nd rfl (.inl rfl)) (pgs_cons (pg_name (i := 3) scKP.nd rfl (.inl rfl)) pgs_nil)))
        (pss_one (ps_if (pt_cmpR op_in_seq (pv 2) (pe_glob (v := .ref aP) (by rfl) mPK rfl) (by rfl))
          (pss_one (ps_expr (pe_bm PySem.F.plainAttrs_list PySem.F.slot_list_append PySem.F.type_list_append mt_append (pv 1) (pa_cons (pe_tup (pa_cons (pv 2) (pa_cons (pv 3) pa_nil))) pa_nil))))
          (pss_one (ps_if (pt_cmpR op_eq (pv 2) pe_str (nomark _))
            (pss_one (ps_expr (pe_bm PySem.F.plainAttrs_list PySem.F.slot_list_extend PySem.F.type_list_extend mt_extend (pv 1) (pa_cons (pe_lc (own := [("part", 4)]) (g := gName 4) (te := tTup (tCons (tC (.str "filter")) (tCons (tVar 4) tNil))) (by rfl) scKP.nd (pi_tup (pv 3))
              (blkOk_by (own := [("part", 4)]) (N := NKP) (sc := defScope sKP) (by decide +kernel)) (fun _ _ _ _ _ => pg_name (i := 4) scKP.nd rfl (Or.inl rfl)) (fun _ _ _ _ _ => pts_nil)
              (fun _ _ _ _ _ => pe_tup (pa_cons pe_str (pa_cons (pv 4) pa_nil)))) pa_nil))))
            (pss_one (ps_if (pt_cmpR op_eq (pv 2) pe_str (nomark _))
              (pss_one (ps_expr (pe_bm PySem.F.plainAttrs_list PySem.F.slot_list_extend PySem.F.type_list_extend mt_extend (pv 1) (pa_cons (pe_lc (own := [("_", 5), ("part", 4)]) (g := gTup K 2 (gCons (gName 5) (gCons (gName 4) gNil))) (te := tTup (tCons (tC (.str "filter")) (tCons (tVar 4) tNil))) (by rfl) scKP.nd (pi_tup (pv 3))
                (blkOk_by (own := [("_", 5), ("part", 4)]) (N := NKP) (sc := defScope sKP) (by decide +kernel)) (fun _ _ _ _ _ => by exact (pg_tup rfl (pgs_cons (by exact (pg_name (i := 5) scKP.nd rfl (Or.inl rfl))) (pgs_cons (by exact (pg_name (i := 4) scKP.nd rfl (Or.inl rfl))) pgs_nil)))) (fun _ _ _ _ _ => pts_nil)
                (fun _ _ _ _ _ => pe_tup (pa_cons pe_str (pa_cons (pv 4) pa_nil)))) pa_nil))))
              pss_nil)))))))
      (pss_one (ps_ret (pv 1)))), ?_⟩
    cases hv with
    | @tup av xs _ hseq hall =>
    cases hall with
    | @cons v0 d0 vs ds h0 hvs =>
    cases h0
    have hseq := same_seqT s0 hseq
    have hvl := dvl_len hvs
    simp only [okd, okdL, List.length_cons, Bool.and_eq_true, decide_eq_true_eq] at hok
    have hmem := lookup_mem hk
    obtain ⟨aK, hK1, hK2⟩ := FK _ hmem
    have k4 : ks.length ≤ 4 := forms_len _ hmem
    have eK : kpOf (.tup (.str wd :: fs)) = kpF ks fs := by
      unfold kpOf
      simp only [hk]
    rw [eK] at q
    refine ⟨few (by show 0 ≤ 1000; decide), fun L nL => ?_⟩
    have sL : Same H (upd H L (.lst [])) := same_new same_id nL
    have q1 : SqT K (upd H L (.lst [])) av (.str wd :: vs) := same_seqT sL hseq
    have hL0 : (upd H L (.lst [])) L = some (.lst []) := upd_same
    generalize upd H L (.lst []) = H1 at sL q1 hL0 ⊢
    refine ⟨_, rfl, av, _, 0, _, rfl, rfl, q1, at_0 _ _, aF, wd, _, rfl, rfl, hK1, _, rfl, 1, rfl, av, _, rfl, q1, cut_1w _ _, fun B nB => ?_⟩
    rw [cut_1]
    have nLB : L ≠ B := ne_of_none hL0 nB
    have hB : (upd H1 B (.tup vs)) B = some (.tup vs) := upd_same
    have hLB : (upd H1 B (.tup vs)) L = some (.lst []) := (upd_ne nLB).trans hL0
    have sHB : Same H (upd H1 B (.tup vs)) := same_new sL nB
    generalize upd H1 B (.tup vs) = H4 at hB hLB sHB ⊢
    refine ⟨aK, B, ks.map V.str, vs, rfl, .inr ⟨hK2 H4, SqT.of hB, ?_⟩⟩
    refine RZ.for_zipT (K := K) (a := aK) (b := B) (xs := ks.map V.str) (ys := vs) (by rw [List.length_map]; omega) (fun i σ H' => ∃ (qs : List Addr) (a b : Option V), σ = [some (.ref av), some (.ref L), a, b, none, none] ∧ Same H H' ∧ H' L = some (.lst (qs.map V.ref)) ∧ H' B = some (.tup vs) ∧ Paired (OKp K H0 H') qs (kpF (ks.take i) (fs.take i)) ∧ qs.length ≤ 300 * i)
      ⟨[], none, none, rfl, sHB, hLB, hB, .nil, Nat.zero_le _⟩ ?_ ?_ ?_
    · rintro i σ H' ⟨qs, a, b, _, _, _, e, _⟩
      exact ⟨hK2 H', SqT.of e⟩
    · rintro i k y T σ H5 hk5 hy ⟨qs, a, b, rfl, s5, hM, hB5, hqs, hlen⟩ nT
      have hi : i < vs.length := by
        rcases Nat.lt_or_ge i vs.length with z | z
        · exact z
        · rw [List.getElem?_eq_none z] at hy
          cases hy
      have z4 := sizeLine_eq
      obtain ⟨f0, hf0, hyf⟩ := dvl_get hvs hy
      have hki : ks[i]? = some ks[i] := List.getElem?_eq_getElem (by omega)
      have hfo := hfl i (by omega)
      have e1 : ks.getD i Str.empty = ks[i] := by rw [List.getD_eq_getElem?_getD, hki]; rfl
      have e2 : fs.getD i .non = f0 := by rw [List.getD_eq_getElem?_getD, hf0]; rfl
      rw [e1, e2] at hfo
      generalize ks[i] = k0 at hki hfo
      have ek : k = .str k0 := by
        rw [List.getElem?_map, hki] at hk5
        exact (Option.some.inj hk5).symm
      subst ek
      have hpt := kpF_take ks fs i hki hf0
      have hokf := okd_get hok.2.2 hf0
      have nMT : L ≠ T := ne_of_none hM nT
      have nBT : B ≠ T := ne_of_none hB5 nT
      have sT1 : Same H5 (upd H5 T (.tup [.str k0, y])) := same_new same_id nT
      have sT : Same H (upd H5 T (.tup [.str k0, y])) := same_new s5 nT
      have hMT : (upd H5 T (.tup [.str k0, y])) L = some (.lst (qs.map V.ref)) := (upd_ne nMT).trans hM
      have hBT : (upd H5 T (.tup [.str k0, y])) B = some (.tup vs) := (upd_ne nBT).trans hB5
      have hqT := okp_same sT1 hqs
      refine ⟨T, _, rfl, SqT.of upd_same, rfl, _, _, rfl, _, _, rfl, rfl, ?_⟩
      generalize upd H5 T (.tup [.str k0, y]) = H6 at sT hMT hBT hqT ⊢
      refine ⟨_, rfl, aP, _, rfl, .inr (PKK H6), rfl, flat_strs kinds4, _, rfl, ?_⟩
      have ein : inV (V.str k0) (kinds4.map V.str) = PK k0 := inV_strs k0 kinds4
      show (if inV (V.str k0) (kinds4.map V.str) = true then _ else _)
      rw [ein]
      refine ite2 (fun c1 => ?_) (fun c1 => ?_)
      · have ep : kpK k0 f0 = [(k0, f0)] := by unfold kpK; rw [if_pos c1]
        refine ⟨_, rfl, .inl ⟨rfl, _, SqL.of hMT⟩, _, rfl, _, rfl, few (by show 2 ≤ 1000; decide), fun T2 nT2 => ?_⟩
        have nLT2 : L ≠ T2 := ne_of_none hMT nT2
        refine ⟨L, qs.map V.ref, .ref T2, rfl, rfl, (upd_ne nLT2).trans hMT, by rw [List.length_map]; omega, ?_⟩
        refine ⟨qs ++ [T2], _, _, rfl, same_put (same_new sT nT2) nL, by rw [upd_same, List.map_append]; rfl, ?_, ?_, ?_⟩
        · rw [upd_ne (ne_of hBT hMT (by intro e; cases e)), upd_ne (ne_of_none hBT nT2)]
          exact hBT
        · rw [hpt, ep]
          exact Paired.snoc (okp_put ((upd_ne nLT2).trans hMT) (okp_same (same_new same_id nT2) hqT)) ⟨y, by show upd _ _ _ _ = _; rw [upd_ne nLT2.symm, upd_same], hyf⟩
        · rw [List.length_append, List.length_singleton]
          omega
      have hPn := c1
      refine ⟨_, rfl, rfl, _, rfl, ite2 (fun c2 => ?_) (fun c2 => ?_)⟩
      · have hE : k0 = "filters" := V.str.inj (of_decide_eq_true c2)
        subst hE
        cases hyf with
        | @tup ay zs gs hzq hza =>
          simp only [okd, Bool.and_eq_true, decide_eq_true_eq] at hokf
          have hzq := same_seqT s0 hzq
          have zl := dvl_len hza
          have ep : kpK "filters" (.tup gs) = gs.map fun g => (("filter" : Str), g) := by
            unfold kpK
            rw [if_neg hPn, if_pos rfl]
            rfl
          refine ⟨_, rfl, .inl ⟨rfl, _, SqL.of hMT⟩, _, rfl, ay, rfl, ⟨zs, same_seqT sT hzq⟩, fun D nD => ?_⟩
          have nLD : L ≠ D := ne_of_none hMT nD
          refine lc_tup (K := K) (a := ay) (xs := zs) (fun j H' => ∃ (rs : List Addr), Same H6 H' ∧ H' D = some (.lst (rs.map V.ref)) ∧ Paired (OKp K H0 H') rs ((gs.take j).map fun g => (("filter" : Str), g))) ⟨[], same_new same_id nD, upd_same, .nil⟩ ?_ ?_ ?_
          · rintro j H' _ ⟨rs, s7, _⟩
            exact same_seqT (sT.trans s7) hzq
          · rintro j z H' hz ⟨rs, s7, hD, hrs⟩
            obtain ⟨g0, hg0, hzg⟩ := dvl_get hza hz
            have lrs := Paired.length hrs
            rw [List.length_map, List.length_take] at lrs
            refine ⟨rfl, _, rfl, few (by show 2 ≤ 1000; decide), fun T2 nT2 => ?_⟩
            have nDT2 : D ≠ T2 := ne_of_none hD nT2
            refine ⟨rs.map V.ref, (upd_ne nDT2).trans hD, by rw [List.length_map]; omega, rs ++ [T2], ?_, by rw [upd_same, List.map_append]; rfl, ?_⟩
            · intro b' o ho
              rw [upd_ne (ne_of_none ho nD), upd_ne (ne_of_none (s7 _ _ ho) nT2)]
              exact s7 _ _ ho
            · rw [List.take_add_one, hg0, List.map_append]
              exact Paired.snoc (okp_put ((upd_ne nDT2).trans hD) (okp_same (same_new same_id nT2) hrs)) ⟨z, by show upd _ _ _ _ = _; rw [upd_ne nDT2.symm, upd_same], hzg⟩
          · rintro H7 ⟨rs, s7, hD, hrs⟩
            rw [zl, List.take_length] at hrs
            have lrs := Paired.length hrs
            rw [List.length_map] at lrs
            have hM7 := s7 _ _ hMT
            refine ⟨L, D, qs.map V.ref, rs.map V.ref, rfl, rfl, hM7, hD, by rw [List.length_map, List.length_map]; omega, ?_⟩
            refine ⟨qs ++ rs, _, _, rfl, same_put (sT.trans s7) nL, by rw [upd_same, List.map_append], ?_, ?_, ?_⟩
            · rw [upd_ne (ne_of (s7 _ _ hBT) hM7 (by intro e; cases e))]
              exact s7 _ _ hBT
            · rw [hpt, ep]
              exact paired_app (okp_put hM7 (okp_same s7 hqT)) (okp_put hM7 hrs)
            · rw [List.length_append]
              omega
        | _ => exact absurd hfo (by simp [fldD, show PK "filters" = false from by decide +kernel, show ¬ (("filters" : Str) = "key") from by decide +kernel, show ¬ (("filters" : Str) = "free") from by decide +kernel, show ¬ (("filters" : Str) = "index") from by decide +kernel, show ¬ (("filters" : Str) = "leaf") from by decide +kernel, show ¬ (("filters" : Str) = "sort") from by decide +kernel])
      refine ⟨_, rfl, rfl, _, rfl, ite2 (fun c3 => ?_) (fun c3 => ?_)⟩
      · have hE : k0 = "entries" := V.str.inj (of_decide_eq_true c3)
        subst hE
        have hen : ∃ gs, f0 = .tup gs ∧ entsD gs = true := by
          cases f0 with
          | tup gs =>
            refine ⟨gs, rfl, ?_⟩
            simpa [fldD, show PK "entries" = false from by decide +kernel, show ¬ (("entries" : Str) = "key") from by decide +kernel, show ¬ (("entries" : Str) = "free") from by decide +kernel, show ¬ (("entries" : Str) = "index") from by decide +kernel, show ¬ (("entries" : Str) = "leaf") from by decide +kernel, show ¬ (("entries" : Str) = "sort") from by decide +kernel, show ¬ (("entries" : Str) = "filters") from by decide +kernel, show ¬ (("entries" : Str) = "parameters") from by decide +kernel] using hfo
          | _ => exact absurd hfo (by simp [fldD, show PK "entries" = false from by decide +kernel, show ¬ (("entries" : Str) = "key") from by decide +kernel, show ¬ (("entries" : Str) = "free") from by decide +kernel, show ¬ (("entries" : Str) = "index") from by decide +kernel, show ¬ (("entries" : Str) = "leaf") from by decide +kernel, show ¬ (("entries" : Str) = "sort") from by decide +kernel])
        obtain ⟨gs, rfl, hen⟩ := hen
        have hae : gs.all entD = true := by
          unfold entsD at hen
          rw [Bool.and_eq_true] at hen
          exact hen.1
        simp only [okd, Bool.and_eq_true, decide_eq_true_eq] at hokf
        cases hyf with
        | @tup ay zs _ hzq hza =>
          have hzq := same_seqT s0 hzq
          have zl := dvl_len hza
          have ep : kpK "entries" (.tup gs) = gs.map fun e => (("filter" : Str), valD e) := by
            unfold kpK
            rw [if_neg hPn, if_neg (by decide +kernel), if_pos rfl]
            rfl
          refine ⟨_, rfl, .inl ⟨rfl, _, SqL.of hMT⟩, _, rfl, ay, rfl, ⟨zs, same_seqT sT hzq⟩, fun D nD => ?_⟩
          have nLD : L ≠ D := ne_of_none hMT nD
          refine lc_tup (K := K) (a := ay) (xs := zs) (fun j H' => ∃ (rs : List Addr), Same H6 H' ∧ H' D = some (.lst (rs.map V.ref)) ∧ Paired (OKp K H0 H') rs ((gs.take j).map fun e => (("filter" : Str), valD e))) ⟨[], same_new same_id nD, upd_same, .nil⟩ ?_ ?_ ?_
          · rintro j H' _ ⟨rs, s7, _⟩
            exact same_seqT (sT.trans s7) hzq
          · rintro j z H' hz ⟨rs, s7, hD, hrs⟩
            obtain ⟨g0, hg0, hzg⟩ := dvl_get hza hz
            obtain ⟨kx, g', rfl, _⟩ := ent_casesE (List.all_eq_true.mp hae g0 (List.mem_of_getElem? hg0))
            cases hzg with
            | @tup az es _ heq hea =>
            cases hea with
            | @cons e0 _ es1 _ k0' hea1 =>
            cases hea1 with
            | @cons e1v _ es2 _ k1' hea2 =>
            cases hea2
            have heq := same_seqT s0 heq
            have lrs := Paired.length hrs
            rw [List.length_map, List.length_take] at lrs
            refine ⟨az, _, rfl, same_seqT (sT.trans s7) heq, rfl, _, _, rfl, _, _, rfl, rfl, rfl, _, rfl, few (by show 2 ≤ 1000; decide), fun T2 nT2 => ?_⟩
            have nDT2 : D ≠ T2 := ne_of_none hD nT2
            refine ⟨rs.map V.ref, (upd_ne nDT2).trans hD, by rw [List.length_map]; omega, rs ++ [T2], ?_, by rw [upd_same, List.map_append]; rfl, ?_⟩
            · intro b' o ho
              rw [upd_ne (ne_of_none ho nD), upd_ne (ne_of_none (s7 _ _ ho) nT2)]
              exact s7 _ _ ho
            · rw [List.take_add_one, hg0, List.map_append]
              exact Paired.snoc (okp_put ((upd_ne nDT2).trans hD) (okp_same (same_new same_id nT2) hrs)) ⟨e1v, by show upd _ _ _ _ = _; rw [upd_ne nDT2.symm, upd_same], k1'⟩
          · rintro H7 ⟨rs, s7, hD, hrs⟩
            rw [zl, List.take_length] at hrs
            have lrs := Paired.length hrs
            rw [List.length_map] at lrs
            have hM7 := s7 _ _ hMT
            refine ⟨L, D, qs.map V.ref, rs.map V.ref, rfl, rfl, hM7, hD, by rw [List.length_map, List.length_map]; omega, ?_⟩
            refine ⟨qs ++ rs, _, _, rfl, same_put (sT.trans s7) nL, by rw [upd_same, List.map_append], ?_, ?_, ?_⟩
            · rw [upd_ne (ne_of (s7 _ _ hBT) hM7 (by intro e; cases e))]
              exact s7 _ _ hBT
            · rw [hpt, ep]
              exact paired_app (okp_put hM7 (okp_same s7 hqT)) (okp_put hM7 hrs)
            · rw [List.length_append]
              omega
      · have n1 : ¬ k0 = "filters" := fun e => c2 (by rw [e]; exact decide_eq_true rfl)
        have n2 : ¬ k0 = "entries" := fun e => c3 (by rw [e]; exact decide_eq_true rfl)
        have ep : kpK k0 f0 = [] := by
          unfold kpK
          rw [if_neg hPn, if_neg n1, if_neg n2]
        refine ⟨qs, _, _, rfl, sT, hMT, hBT, ?_, by omega⟩
        rw [hpt, ep, List.append_nil]
        exact hqT
    · rintro σ H5 ⟨qs, a, b, rfl, s5, hM, hB5, hqs, hlen⟩
      rw [List.length_map] at hlen
      rw [List.length_map, List.take_length, show fs.take ks.length = fs by rw [← hkl, List.take_length]] at hqs
      exact ⟨_, rfl, q H5 L qs s5 nL hM hqs (by omega)⟩
end
end Toy


namespace Toy
open PySem PySem.Spec L2 PyProof.Rows PySem.W
abbrev sOK : Stmt := top 31
abbrev sIF : Stmt := top 27
abbrev sIT : Stmt := top 28
abbrev sIW : Stmt := top 29
abbrev sIC : Stmt := top 30
abbrev NOK : List Str := ["value", "kind", "waiting", "many", "term", "wanted", "level", "inner", "told", "part"]
/-! ### what the program answers: right in form, not too deep, not too many -/
def okk : Nat → Str → Dt → Bool
  | 0, _, _ => false
  | n + 1, k, t => hasF k t && (kpOf t).all fun p => okk n (nar k p.1) p.2
def maxL : List Nat → Nat
  | [] => 0
  | a :: l => max a (maxL l)
def lev : Nat → Dt → Nat
  | 0, _ => 1
  | n + 1, t => 1 + maxL ((kpOf t).map fun p => lev n p.2)
def spo : Nat → Dt → Nat
  | 0, _ => 1
  | n + 1, t => 1 + ((kpOf t).map fun p => spo n p.2).sum
theorem lev_pos : ∀ n t, 1 ≤ lev n t
  | 0, _ => Nat.le_refl _
  | n + 1, t => by rw [lev]; omega
theorem spo_pos : ∀ n t, 1 ≤ spo n t
  | 0, _ => Nat.le_refl _
  | n + 1, t => by rw [spo]; omega
theorem maxL_le {l : List Nat} {m : Nat} : maxL l ≤ m ↔ ∀ x ∈ l, x ≤ m := by
  induction l with
  | nil => simp [maxL]
  | cons a l ih =>
    rw [maxL, Nat.max_le, ih]
    simp
abbrev Itm := Nat × Str × Dt × Nat
def fine1 (e : Itm) : Bool := okk e.1 e.2.1 e.2.2.1 && decide (e.2.2.2 + lev e.1 e.2.2.1 ≤ 41)
def spoI (e : Itm) : Nat := spo e.1 e.2.2.1
def fine (ws : List Itm) (many : Nat) : Bool := ws.all fine1 && decide (many + (ws.map fun e => spoI e - 1).sum ≤ 200)
def totI (ws : List Itm) : Nat := (ws.map spoI).sum
def kidsI (n : Nat) (k : Str) (t : Dt) (lv : Nat) : List Itm := (kpOf t).map fun p => (n, nar k p.1, p.2, lv + 1)
theorem sum_minus : ∀ ws : List Itm, (ws.map fun e => spoI e - 1).sum + ws.length = totI ws
  | [] => rfl
  | e :: ws => by
    have := sum_minus ws
    have := spo_pos e.1 e.2.2.1
    unfold totI at *
    simp only [List.map_cons, List.sum_cons, List.length_cons]
    unfold spoI at *
    omega
theorem totI_app (a b : List Itm) : totI (a ++ b) = totI a + totI b := by
  unfold totI
  rw [List.map_append, List.sum_append]
theorem len_le_totI : ∀ ws : List Itm, ws.length ≤ totI ws := fun ws => by
  have := sum_minus ws
  omega
theorem tot_kids (n : Nat) (k : Str) (t : Dt) (lv : Nat) : totI (kidsI n k t lv) + 1 = spo (n + 1) t := by
  unfold totI kidsI
  rw [spo, List.map_map]
  show ((kpOf t).map fun p => spo n p.2).sum + 1 = _
  omega
theorem fine_pop {wi : List Itm} {n lv many : Nat} {k : Str} {t : Dt} (hf : hasF k t = true) (hl : lv ≤ 40) : fine (wi ++ [(n + 1, k, t, lv)]) many = fine (wi ++ kidsI n k t lv) (many + (kpOf t).length) := by
  have e1 : fine1 (n + 1, k, t, lv) = (kidsI n k t lv).all fine1 := by
    unfold fine1 kidsI
    rw [okk, hf, Bool.true_and, List.all_map]
    rw [Bool.eq_iff_iff, Bool.and_eq_true, List.all_eq_true, List.all_eq_true, decide_eq_true_eq]
    simp only [Function.comp_apply, Bool.and_eq_true, decide_eq_true_eq]
    rw [show (lv + lev (n + 1) t ≤ 41) ↔ ∀ p ∈ kpOf t, lv + 1 + lev n p.2 ≤ 41 by
      rw [lev]
      constructor
      · intro z p hp
        have : maxL ((kpOf t).map fun p => lev n p.2) ≤ 40 - lv := by omega
        have := (maxL_le.mp this) (lev n p.2) (List.mem_map.mpr ⟨p, hp, rfl⟩)
        omega
      · intro z
        have : maxL ((kpOf t).map fun p => lev n p.2) ≤ 40 - lv := maxL_le.mpr fun x hx => by
          obtain ⟨p, hp, rfl⟩ := List.mem_map.mp hx
          have := z p hp
          omega
        omega]
    exact ⟨fun h p hp => ⟨h.1 p hp, h.2 p hp⟩, fun h => ⟨fun p hp => (h p hp).1, fun p hp => (h p hp).2⟩⟩
  have e2 := sum_minus (kidsI n k t lv)
  have e3 := tot_kids n k t lv
  have e4 : (kidsI n k t lv).length = (kpOf t).length := by unfold kidsI; rw [List.length_map]
  unfold fine
  rw [List.all_append, List.all_append, List.map_append, List.map_append, List.sum_append, List.sum_append]
  simp only [List.all_cons, List.all_nil, Bool.and_true, List.map_cons, List.map_nil, List.sum_cons, List.sum_nil]
  rw [e1]
  congr 1
  refine decide_eq_decide.mpr ?_
  have e5 : spoI (n + 1, k, t, lv) = spo (n + 1) t := rfl
  omega
theorem fine_deep {wi : List Itm} {e : Itm} {many : Nat} (h : 40 < e.2.2.2) : fine (wi ++ [e]) many = false := by
  have := lev_pos e.1 e.2.2.1
  unfold fine
  rw [List.all_append]
  simp only [List.all_cons, List.all_nil]
  unfold fine1
  rw [decide_eq_false (by omega)]
  simp
theorem fine_form {wi : List Itm} {n lv many : Nat} {k : Str} {t : Dt} (h : hasF k t = false) : fine (wi ++ [(n + 1, k, t, lv)]) many = false := by
  unfold fine
  rw [List.all_append]
  simp only [List.all_cons, List.all_nil]
  unfold fine1
  rw [okk, h]
  simp
theorem fine_many {wi : List Itm} {n lv many : Nat} {k : Str} {t : Dt} (h : 200 < many + (kpOf t).length) : fine (wi ++ [(n + 1, k, t, lv)]) many = false := by
  have e3 := tot_kids n k t lv
  have e4 := len_le_totI (kidsI n k t lv)
  have e5 : (kidsI n k t lv).length = (kpOf t).length := by unfold kidsI; rw [List.length_map]
  unfold fine
  rw [List.map_append, List.sum_append]
  simp only [List.map_cons, List.map_nil, List.sum_cons, List.sum_nil]
  have e6 : spoI (n + 1, k, t, lv) = spo (n + 1) t := rfl
  rw [decide_eq_false (show ¬ many + ((wi.map fun e => spoI e - 1).sum + (spoI (n + 1, k, t, lv) - 1 + 0)) ≤ 200 by omega), Bool.and_false]
/-! a part is less deep than what it is part of -/
theorem kpF_dep {ks : List Str} {fs : List Dt} : ∀ p ∈ kpF ks fs, dep p.2 ≤ depL fs ∧ (okdL 300 fs = true → okd 300 p.2 = true) := by
  induction ks generalizing fs with
  | nil => intro p hp; simp [kpF] at hp
  | cons k ks ih =>
    cases fs with
    | nil => intro p hp; simp [kpF] at hp
    | cons f fs =>
      intro p hp
      rw [kpF, List.mem_append] at hp
      rw [depL, okdL, Bool.and_eq_true]
      rcases hp with hp | hp
      · have key : dep p.2 ≤ dep f ∧ (okd 300 f = true → okd 300 p.2 = true) := by
          unfold kpK at hp
          split at hp
          · rw [List.mem_singleton] at hp
            subst hp
            exact ⟨Nat.le_refl _, id⟩
          · split at hp
            · obtain ⟨g, hg, rfl⟩ := List.mem_map.mp hp
              cases f with
              | tup l =>
                have h1 := dep_mem hg
                refine ⟨by rw [dep]; show dep g ≤ _; exact Nat.le_succ_of_le h1, fun h => ?_⟩
                rw [okd, Bool.and_eq_true, okdL_all] at h
                exact List.all_eq_true.mp h.2 g hg
              | _ => simp [itemsD] at hg
            · split at hp
              · obtain ⟨g, hg, rfl⟩ := List.mem_map.mp hp
                cases f with
                | tup l =>
                  have h1 : dep g ≤ depL l := dep_mem hg
                  have h2 : dep (valD g) ≤ dep g ∧ (okd 300 g = true → okd 300 (valD g) = true) := by
                    unfold valD
                    split
                    · rename_i a b
                      refine ⟨by simp only [dep, depL]; omega, fun h => ?_⟩
                      simp only [okd, okdL, Bool.and_eq_true] at h
                      exact h.2.2.1
                    · exact ⟨Nat.le_refl _, id⟩
                  refine ⟨by rw [dep]; show dep (valD g) ≤ _; exact Nat.le_succ_of_le (Nat.le_trans h2.1 h1), fun h => ?_⟩
                  rw [okd, Bool.and_eq_true, okdL_all] at h
                  exact h2.2 (List.all_eq_true.mp h.2 g hg)
                | _ => simp [itemsD] at hg
              · simp at hp
        exact ⟨by omega, fun h => key.2 h.1⟩
      · have := ih p hp
        exact ⟨by omega, fun h => this.2 h.2⟩
theorem kp_dep {t : Dt} : ∀ p ∈ kpOf t, dep p.2 < dep t ∧ (okd 300 t = true → okd 300 p.2 = true) := by
  intro p hp
  unfold kpOf at hp
  split at hp
  · rename_i x fs
    split at hp
    · rename_i ks _
      have z := kpF_dep p hp
      refine ⟨by simp only [dep, depL]; omega, fun h => ?_⟩
      simp only [okd, okdL, Bool.and_eq_true] at h
      exact z.2 h.2.2
    · simp at hp
  · simp at hp
def OI (K : PySem.W.Frag) (H H' : Hp) (q : Addr) (e : Itm) : Prop := ∃ u : V, H' q = some (.tup [u, .str e.2.1, .int (e.2.2.2 : Nat)]) ∧ Dv K H u e.2.2.1 ∧ dep e.2.2.1 < e.1 ∧ okd 300 e.2.2.1 = true
theorem OI.put {K : PySem.W.Frag} {H H' : Hp} {q : Addr} {e : Itm} {L : Addr} {xs ys : List V} (h : OI K H H' q e) (hL : H' L = some (.lst xs)) : OI K H (upd H' L (.lst ys)) q e := by
  obtain ⟨u, h1, h2⟩ := h
  exact ⟨u, (upd_ne (ne_of h1 hL (by intro e; cases e))).trans h1, h2⟩
theorem OI.same {K : PySem.W.Frag} {H H1 H2 : Hp} {q : Addr} {e : Itm} (h : OI K H H1 q e) (s : Same H1 H2) : OI K H H2 q e := by
  obtain ⟨u, h1, h2⟩ := h
  exact ⟨u, s _ _ h1, h2⟩
theorem paired_snoc {α β : Type} {F : α → β → Prop} {xs : List α} {ys : List β} {y : β} (h : Paired F xs (ys ++ [y])) : ∃ xi x, xs = xi ++ [x] ∧ Paired F xi ys ∧ F x y := by
  induction ys generalizing xs with
  | nil =>
    cases h with
    | cons a b =>
      cases b
      exact ⟨[], _, rfl, .nil, a⟩
  | cons z ys ih =>
    cases h with
    | cons a b =>
      obtain ⟨xi, x, rfl, h1, h2⟩ := ih b
      exact ⟨_ :: xi, x, rfl, .cons a h1, h2⟩
theorem fresh_of {H H1 : Hp} {p : Addr} (s : Same H H1) (n : H1 p = none) : H p = none := by
  cases e : H p with
  | none => rfl
  | some o =>
    rw [s _ _ e] at n
    cases n
def spOK (K : PySem.W.Frag) : Sp := fun vs H Q _ => ∃ (v : V) (n : Nat) (t : Dt) (k : Str), vs = [v, .str k] ∧ Dv K H v t ∧ okd 300 t = true ∧ dep t < n ∧ spo n t ≤ 10000000 ∧ ∀ H', Same H H' → Q (.bl (fine [(n, k, t, 1)] 1)) H'
def spIK (K : PySem.W.Frag) (k : Str) : Sp := fun vs H Q _ => ∃ (v : V) (n : Nat) (t : Dt), vs = [v] ∧ Dv K H v t ∧ okd 300 t = true ∧ dep t < n ∧ spo n t ≤ 10000000 ∧ ∀ H', Same H H' → Q (.bl (fine [(n, k, t, 1)] 1)) H'
def OW (K : PySem.W.Frag) (H : Hp) (v kv : V) (L : Addr) (b : Bool) (mm : Nat) (σ : L2.St) (H' : Hp) : Prop := ∃ (o4 o5 o6 o7 : Option V) (many : Nat) (ys : List Addr) (ws : List Itm), σ = [some v, some kv, some (.ref L), some (.int (many : Nat)), o4, o5, o6, o7, none, none] ∧ Same H H' ∧ H' L = some (.lst (ys.map V.ref)) ∧ Paired (OI K H H') ys ws ∧ totI ws ≤ 10000000 ∧ mm = totI ws ∧ many ≤ 200 ∧ fine ws many = b
section
variable {P : Program} {w : World} {K : PySem.W.Frag} {mg : Str → Option Value} {base : Heap}
theorem scOK : FnScope NOK ["value", "kind"] (defScope sOK) := ⟨rfl, rfl, rfl, by decide +kernel, rfl, by decide +kernel, by decide +kernel⟩
theorem scIF : FnScope ["value"] ["value"] (defScope sIF) := ⟨rfl, rfl, rfl, by decide +kernel, rfl, by decide +kernel, by decide +kernel⟩
theorem scIT : FnScope ["value"] ["value"] (defScope sIT) := ⟨rfl, rfl, rfl, by decide +kernel, rfl, by decide +kernel, by decide +kernel⟩
theorem scIW : FnScope ["term"] ["term"] (defScope sIW) := ⟨rfl, rfl, rfl, by decide +kernel, rfl, by decide +kernel, by decide +kernel⟩
theorem scIC : FnScope ["term"] ["term"] (defScope sIC) := ⟨rfl, rfl, rfl, by decide +kernel, rfl, by decide +kernel, by decide +kernel⟩
theorem ok_of {f fH fK fN : Addr} {fd fdH fdK fdN : FuncData} {u40 u200 : Value} (F : Fun K "_is_of_kind" "_is_of_kind" sOK f fd) (m1 : mg "MOST_LEVELS" = some u40) (r1 : RelV (.int 40) u40) (m2 : mg "MOST_SPOTS" = some u200) (r2 : RelV (.int 200) u200)
    (GH : FnOk P w K mg base CX0 4 fH fdH ["value", "kind"] (spHF K)) (mH : mg "_has_form" = some (.ref fH)) (kH : PySem.W.keepIn K (.ref fH) = true) (bH : Binds K fdH ["value", "kind"] [])
    (GK : FnOk P w K mg base CX0 1 fK fdK ["term"] (spKP K)) (mK : mg "kinds_and_parts" = some (.ref fK)) (kK : PySem.W.keepIn K (.ref fK) = true) (bK : Binds K fdK ["term"] [])
    (GN : FnOk P w K mg base CX0 1 fN fdN ["outer", "kind"] spNar) (mN : mg "narrowed" = some (.ref fN)) (kN : PySem.W.keepIn K (.ref fN) = true) (bN : Binds K fdN ["outer", "kind"] [])
    (mLen : mg "len" = none) : FnOk P w K mg base CX0 5 f fd ["value", "kind"] (spOK K) := by
  refine F.ok scOK (fun vs H Q E h => ?_) (fun cdv A outer s H vs Q E hr h => ?_)
  · obtain ⟨v, n, t, k, rfl, _⟩ := h
    rfl
  · obtain ⟨v, n, t, k, rfl, hv, hok, hdep, hz, q⟩ := h
    have hr1 : Room 1 _ := hr.mono (show 1 ≤ 4 by omega)
    refine ⟨_, pss_cons (ps_set (i := 2) scOK.nd rfl (Or.inl rfl) (pe_lst (pa_cons (pe_tup (pa_cons (pv 0) (pa_cons (pv 1) (pa_cons pe_int pa_nil)))) pa_nil)))
      (pss_cons (ps_set (i := 3) scOK.nd rfl (Or.inl rfl) pe_int)
      (pss_cons (ps_while PassesOwn.never (pt_truth (pv 2) (by intro _; rfl))
        (pss_cons (ps_asg (pe_bm0 PySem.F.plainAttrs_list PySem.F.slot_list_pop PySem.F.type_list_pop mt_pop (pv 2)) (pg_tup (by rfl) (pgs_cons (pg_name (i := 4) scOK.nd rfl (.inl rfl)) (pgs_cons (pg_name (i := 5) scOK.nd rfl (.inr rfl)) (pgs_cons (pg_name (i := 6) scOK.nd rfl (.inr rfl)) pgs_nil)))))
        (pss_cons (ps_if (PW.pt (pw_or (pt_cmpR op_gt (pv 6) (pe_glob (v := .int 40) (by rfl) m1 r1) (nomark _)) (pw_or1 (pt_not (pt_val (pe_call GH hr (by rfl) mH kH bH .nil pass0 (pa_cons (pv 4) (pa_cons (pv 5) pa_nil)))))))) (pss_one (ps_ret pe_bl)) pss_nil)
        (pss_cons (ps_set (i := 7) scOK.nd rfl (Or.inl rfl) (pe_call GK hr1 (by rfl) mK kK bK .nil pass0 (pa_cons (pv 4) pa_nil)))
        (pss_cons (ps_aug (i := 3) scOK.nd rfl (Or.inl rfl) (pe_callB call_len_seq (by rfl) mLen PySem.boot_len (pa_cons (pv 7) pa_nil)) ip_add)
        (pss_cons (ps_if (pt_cmpR op_gt (pv 3) (pe_glob (v := .int 200) (by rfl) m2 r2) (nomark _)) (pss_one (ps_ret pe_bl)) pss_nil)
        (pss_one (ps_expr (pe_bm PySem.F.plainAttrs_list PySem.F.slot_list_extend PySem.F.type_list_extend mt_extend (pv 2) (pa_cons (pe_lc (own := [("told", 8), ("part", 9)]) (g := gTup K 2 (gCons (gName 8) (gCons (gName 9) gNil))) (te := tTup (tCons (tVar 9) (tCons (tCall spNar [] E0 (tCons (tVar 5) (tCons (tVar 8) tNil))) (tCons (tOp rAdd (tVar 6) (tC (.int 1))) tNil)))) (by rfl) scOK.nd (pi_list (pv 7))
            (blkOk_by (own := [("told", 8), ("part", 9)]) (N := NOK) (sc := defScope sOK) (by decide +kernel)) (fun _ _ _ _ _ => by exact (pg_tup rfl (pgs_cons (by exact (pg_name (i := 8) scOK.nd rfl (Or.inl rfl))) (pgs_cons (by exact (pg_name (i := 9) scOK.nd rfl (Or.inl rfl))) pgs_nil)))) (fun _ _ _ _ _ => pts_nil)
            (fun _ _ _ _ _ => pe_tup (pa_cons (pv 9) (pa_cons (pe_call GN hr1 (by rfl) mN kN bN .nil pass0 (pa_cons (pv 5) (pa_cons (pv 8) pa_nil))) (pa_cons (pe_op op_add (pv 6) pe_int) pa_nil))))) pa_nil))))))))))
      (pss_one (ps_ret pe_bl)))), ?_⟩
    refine ⟨_, rfl, _, rfl, few (by show 3 ≤ 1000; decide), fun T nT => ⟨few (by show 1 ≤ 1000; decide), fun L nL => ?_⟩⟩
    have s1 : Same H (upd (upd H T (.tup [v, .str k, .int 1])) L (.lst [.ref T])) := same_new (same_new same_id nT) nL
    have nTL : T ≠ L := ne_of_none upd_same nL
    have hT1 : (upd (upd H T (.tup [v, .str k, .int 1])) L (.lst [.ref T])) T = some (.tup [v, .str k, .int 1]) := (upd_ne nTL).trans upd_same
    have hL1 : (upd (upd H T (.tup [v, .str k, .int 1])) L (.lst [.ref T])) L = some (.lst ([T].map V.ref)) := upd_same
    have nLH : H L = none := fresh_of (same_new (u := .tup [v, .str k, .int 1]) same_id nT) nL
    generalize upd (upd H T (.tup [v, .str k, .int 1])) L (.lst [.ref T]) = H1 at s1 hT1 hL1 ⊢
    refine ⟨OW K H v (.str k) L (fine [(n, k, t, 1)] 1), ⟨_, none, none, none, none, 1, [T], [(n, k, t, 1)], rfl, s1, hL1, .cons ⟨v, hT1, hv, hdep, hok⟩ .nil, ?_, rfl, by decide, rfl⟩, ?_⟩
    · unfold totI spoI
      simp only [List.map_cons, List.map_nil, List.sum_cons, List.sum_nil]
      omega
    rintro mm σ H2 ⟨o4, o5, o6, o7, many, ys, ws, rfl, s2, hL, hys, htot, rfl, hm2, hb⟩
    rw [← hb] at q
    refine ⟨_, rfl, _, .inl ⟨ys.map V.ref, SqL.of hL, rfl⟩, ?_⟩
    rcases List.eq_nil_or_concat ws with rfl | ⟨wi, e, rfl⟩
    · cases hys
      have e0 : fine [] many = true := decide_eq_true (show many + 0 ≤ 200 from hm2)
      rw [e0] at q
      exact iteF (q H2 s2)
    rw [List.concat_eq_append] at hys htot q hb ⊢
    obtain ⟨yi, y, rfl, hyi, hy⟩ := paired_snoc hys
    have et : (!((yi ++ [y]).map V.ref).isEmpty) = true := by
      cases yi <;> rfl
    rw [et]
    refine iteT ⟨fun σ' H' => ∃ m', m' < totI (wi ++ [e]) ∧ OW K H v (.str k) L (fine [(n, k, t, 1)] 1) m' σ' H', fun _ _ h => h, ?_⟩
    obtain ⟨n1, k1, t1, lv⟩ := e
    obtain ⟨u, hyT, hu1, hdp, hok1⟩ := hy
    simp only at hyT hu1 hdp hok1
    cases n1 with
    | zero => cases hdp
    | succ n1 =>
    have hyL : y ≠ L := ne_of hyT hL (by intro z; cases z)
    refine ⟨_, rfl, .inl ⟨rfl, _, SqL.of hL⟩, L, _, .ref y, rfl, rfl, hL, by simp, y, [u, .str k1, .int (lv : Nat)], rfl, SqT.of ((upd_ne hyL).trans hyT), rfl, _, _, rfl, _, _, rfl, _, _, rfl, rfl, ?_⟩
    rw [List.map_append, List.map_singleton, List.dropLast_concat]
    have s3 : Same H (upd H2 L (.lst (yi.map V.ref))) := same_put s2 nLH
    have hL3 : (upd H2 L (.lst (yi.map V.ref))) L = some (.lst (yi.map V.ref)) := upd_same
    have hyi3 : Paired (OI K H (upd H2 L (.lst (yi.map V.ref)))) yi wi := L2.Paired.mapP hyi fun _ _ z => z.put hL
    generalize upd H2 L (.lst (yi.map V.ref)) = H3 at s3 hL3 hyi3 ⊢
    refine ⟨_, rfl, _, _, rfl, rfl, _, rfl, ite2 (fun c1 => ?_) (fun c1 => ?_)⟩
    · have h40 : 40 < lv := by
        have := of_decide_eq_true c1
        omega
      rw [fine_deep (e := (n1 + 1, k1, t1, lv)) h40] at q
      exact iteT (q H3 s3)
    have h40 : lv ≤ 40 := by
      have : ¬ ((40 : Int) < (lv : Nat)) := fun z => c1 (decide_eq_true z)
      omega
    refine ⟨_, rfl, _, rfl, u, t1, k1, rfl, dvM s3 hu1, hok1, fun H4 s34 => ⟨_, rfl, ?_⟩⟩
    cases hfo : hasF k1 t1 with
    | false =>
      rw [fine_form hfo] at q
      exact iteT (q H4 (s3.trans s34))
    | true =>
    refine iteF ?_
    refine nx_run ?_
    dsimp only
    refine asg_run ?_
    have s04 := s3.trans s34
    refine ⟨_, rfl, u, t1, k1, H, rfl, s04, hu1, hok1, hfo, fun H5 R qs s45 nR hR hqs hlen => ?_⟩
    have s35 : Same H3 H5 := s34.trans s45
    have s05 := s3.trans s35
    have lqs := Paired.length hqs
    refine ⟨_, rfl, _, rfl, R, _, rfl, .inl (SqL.of hR), _, _, rfl, rfl, ?_⟩
    have em : ((many : Nat) : Int) + (((qs.map V.ref).length : Nat) : Int) = ((many + (kpOf t1).length : Nat) : Int) := by
      rw [List.length_map, lqs]
      omega
    dsimp only
    rw [em]
    refine ⟨_, rfl, _, _, rfl, rfl, _, rfl, ite2 (fun c2 => ?_) (fun c2 => ?_)⟩
    · have h200 : 200 < many + (kpOf t1).length := by
        have := of_decide_eq_true c2
        omega
      rw [fine_many h200] at q
      exact q H5 s05
    have h200 : many + (kpOf t1).length ≤ 200 := by
      have : ¬ ((200 : Int) < ((many + (kpOf t1).length : Nat) : Int)) := fun z => c2 (decide_eq_true z)
      omega
    have hL5 := s35 _ _ hL3
    refine nx_run ?_
    dsimp only
    refine ⟨_, rfl, .inl ⟨rfl, _, SqL.of hL5⟩, _, rfl, R, rfl, ⟨_, SqL.of hR⟩, fun D nD => ?_⟩
    have nDL : L ≠ D := ne_of_none hL5 nD
    refine lc_list (K := K) (a := R) (xs := qs.map V.ref) (fun i H' => ∃ rs : List Addr, Same H5 H' ∧ H' D = some (.lst (rs.map V.ref)) ∧ Paired (OI K H H') rs (((kpOf t1).take i).map fun p => (n1, nar k1 p.1, p.2, lv + 1))) ⟨[], same_new same_id nD, upd_same, .nil⟩ ?_ ?_ ?_
    · rintro i H' _ ⟨rs, s6, _⟩
      exact SqL.of (s6 _ _ hR)
    · rintro i x H' hi ⟨rs, s6, hD, hrs⟩
      rw [List.getElem?_map] at hi
      obtain ⟨q0, hq0, rfl⟩ : ∃ q0, qs[i]? = some q0 ∧ x = .ref q0 := by
        cases e : qs[i]? with
        | none => rw [e] at hi; cases hi
        | some q0 => rw [e] at hi; exact ⟨q0, rfl, (Option.some.inj hi).symm⟩
      have hil : i < (kpOf t1).length := by
        rw [← lqs]
        exact (List.getElem?_eq_some_iff.mp hq0).1
      have hg : (kpOf t1)[i]? = some (kpOf t1)[i] := List.getElem?_eq_getElem hil
      obtain ⟨q1, hq1, y0, hkp, hug⟩ := paired_get hqs hg
      obtain rfl : q1 = q0 := Option.some.inj (hq1.symm.trans hq0)
      have hpd := kp_dep _ (List.mem_of_getElem? hg)
      generalize (kpOf t1)[i] = pr at hg hkp hug hpd
      have lrs := Paired.length hrs
      rw [List.length_map, List.length_take] at lrs
      refine ⟨q1, _, rfl, SqT.of (s6 _ _ hkp), rfl, _, _, rfl, _, _, rfl, rfl, rfl, _, rfl, _, rfl, _, rfl, k1, pr.1, rfl, fun H7 s7 => ⟨_, rfl, _, _, rfl, rfl, few (by show 3 ≤ 1000; decide), fun T2 nT2 => ?_⟩⟩
      have hD7 := s7 _ _ hD
      have nDT : D ≠ T2 := ne_of_none hD7 nT2
      refine ⟨rs.map V.ref, (upd_ne nDT).trans hD7, small1000 (by rw [List.length_map]; omega), rs ++ [T2], ?_, by rw [upd_same, List.map_append]; rfl, ?_⟩
      · intro b' o ho
        rw [upd_ne (ne_of_none ho nD), upd_ne (ne_of_none (s7 _ _ (s6 _ _ ho)) nT2)]
        exact s7 _ _ (s6 _ _ ho)
      · rw [List.take_add_one, hg, List.map_append]
        have sn : Same H7 (upd H7 T2 (.tup [y0, .str (nar k1 pr.1), .int ((lv : Nat) + 1)])) := same_new same_id nT2
        refine Paired.snoc (L2.Paired.mapP hrs fun _ _ z => ((z.same s7).same sn).put ((upd_ne nDT).trans hD7)) ?_
        refine OI.put (xs := rs.map V.ref) ⟨y0, upd_same, ?_, ?_, ?_⟩ ((upd_ne nDT).trans hD7)
        · exact hug
        · exact Nat.lt_of_lt_of_le hpd.1 (Nat.le_of_lt_succ hdp)
        · exact hpd.2 hok1
    · rintro H6 ⟨rs, s6, hD, hrs⟩
      rw [List.length_map, lqs, List.take_length] at hrs
      have esz : totI (wi ++ [(n1 + 1, k1, t1, lv)]) = totI (wi ++ kidsI n1 k1 t1 lv) + 1 := by
        have := tot_kids n1 k1 t1 lv
        rw [totI_app, totI_app]
        have e5 : totI [(n1 + 1, k1, t1, lv)] = spo (n1 + 1) t1 := by
          unfold totI spoI
          simp
        omega
      have ll := len_le_totI (wi ++ kidsI n1 k1 t1 lv)
      have ek : (kidsI n1 k1 t1 lv).length = (kpOf t1).length := by unfold kidsI; rw [List.length_map]
      rw [List.length_append, ek] at ll
      have lrs := Paired.length hrs
      rw [List.length_map] at lrs
      have lyi := Paired.length hyi
      have hL6 := s6 _ _ hL5
      refine ⟨L, D, yi.map V.ref, rs.map V.ref, rfl, rfl, hL6, hD, by rw [List.length_map, List.length_map, sizeLine_eq]; omega, ?_⟩
      refine ⟨totI (wi ++ kidsI n1 k1 t1 lv), by omega, _, _, _, _, many + (kpOf t1).length, yi ++ rs, wi ++ kidsI n1 k1 t1 lv, rfl, same_put (s05.trans s6) nLH, by rw [upd_same, List.map_append], ?_, by omega, rfl, h200, ?_⟩
      · exact paired_app (L2.Paired.mapP hyi3 fun _ _ z => (z.same (s35.trans s6)).put hL6) (L2.Paired.mapP hrs fun _ _ z => z.put hL6)
      · rw [← hb]
        exact (fine_pop hfo h40).symm
theorem ok_if {f fO : Addr} {fd fdO : FuncData} (F : Fun K "is_filter" "is_filter" sIF f fd) (GO : FnOk P w K mg base CX0 5 fO fdO ["value", "kind"] (spOK K)) (mO : mg "_is_of_kind" = some (.ref fO)) (kO : PySem.W.keepIn K (.ref fO) = true) (bO : Binds K fdO ["value", "kind"] []) : FnOk P w K mg base CX0 6 f fd ["value"] (spIK K "filter") := by
  refine F.ok scIF (fun vs H Q E h => ?_) (fun cdv A outer s H vs Q E hr h => ?_)
  · obtain ⟨v, n, t, rfl, _⟩ := h
    rfl
  · obtain ⟨v, n, t, rfl, hv, hok, hd, hz, q⟩ := h
    refine ⟨_, pss_one (ps_ret (pe_call GO hr (by rfl) mO kO bO .nil pass0 (pa_cons (pv 0) (pa_cons pe_str pa_nil)))), ?_⟩
    exact ⟨_, rfl, v, n, t, "filter", rfl, hv, hok, hd, hz, q⟩
theorem ok_it {f fO : Addr} {fd fdO : FuncData} (F : Fun K "is_test" "is_test" sIT f fd) (GO : FnOk P w K mg base CX0 5 fO fdO ["value", "kind"] (spOK K)) (mO : mg "_is_of_kind" = some (.ref fO)) (kO : PySem.W.keepIn K (.ref fO) = true) (bO : Binds K fdO ["value", "kind"] []) : FnOk P w K mg base CX0 6 f fd ["value"] (spIK K "test") := by
  refine F.ok scIT (fun vs H Q E h => ?_) (fun cdv A outer s H vs Q E hr h => ?_)
  · obtain ⟨v, n, t, rfl, _⟩ := h
    rfl
  · obtain ⟨v, n, t, rfl, hv, hok, hd, hz, q⟩ := h
    refine ⟨_, pss_one (ps_ret (pe_call GO hr (by rfl) mO kO bO .nil pass0 (pa_cons (pv 0) (pa_cons pe_str pa_nil)))), ?_⟩
    exact ⟨_, rfl, v, n, t, "test", rfl, hv, hok, hd, hz, q⟩
theorem ok_iw {f fO : Addr} {fd fdO : FuncData} (F : Fun K "is_walk" "is_walk" sIW f fd) (GO : FnOk P w K mg base CX0 5 fO fdO ["value", "kind"] (spOK K)) (mO : mg "_is_of_kind" = some (.ref fO)) (kO : PySem.W.keepIn K (.ref fO) = true) (bO : Binds K fdO ["value", "kind"] []) : FnOk P w K mg base CX0 6 f fd ["term"] (spIK K "walk") := by
  refine F.ok scIW (fun vs H Q E h => ?_) (fun cdv A outer s H vs Q E hr h => ?_)
  · obtain ⟨v, n, t, rfl, _⟩ := h
    rfl
  · obtain ⟨v, n, t, rfl, hv, hok, hd, hz, q⟩ := h
    refine ⟨_, pss_one (ps_ret (pe_call GO hr (by rfl) mO kO bO .nil pass0 (pa_cons (pv 0) (pa_cons pe_str pa_nil)))), ?_⟩
    exact ⟨_, rfl, v, n, t, "walk", rfl, hv, hok, hd, hz, q⟩
theorem ok_ic {f fO : Addr} {fd fdO : FuncData} (F : Fun K "is_chooser" "is_chooser" sIC f fd) (GO : FnOk P w K mg base CX0 5 fO fdO ["value", "kind"] (spOK K)) (mO : mg "_is_of_kind" = some (.ref fO)) (kO : PySem.W.keepIn K (.ref fO) = true) (bO : Binds K fdO ["value", "kind"] []) : FnOk P w K mg base CX0 6 f fd ["term"] (spIK K "chooser") := by
  refine F.ok scIC (fun vs H Q E h => ?_) (fun cdv A outer s H vs Q E hr h => ?_)
  · obtain ⟨v, n, t, rfl, _⟩ := h
    rfl
  · obtain ⟨v, n, t, rfl, hv, hok, hd, hz, q⟩ := h
    refine ⟨_, pss_one (ps_ret (pe_call GO hr (by rfl) mO kO bO .nil pass0 (pa_cons (pv 0) (pa_cons pe_str pa_nil)))), ?_⟩
    exact ⟨_, rfl, v, n, t, "chooser", rfl, hv, hok, hd, hz, q⟩
end
end Toy


namespace Toy
open PySem PySem.Spec L2 PyProof.Rows PySem.W
/-! ### the law's look and the program's answer tell the same -/
def letC (k : Str) : Nat := if k = "filter" then 102 else if k = "test" then 116 else if k = "walk" then 119 else if k = "chooser" then 99 else if k = "entries" then 101 else if k = "filters" then 97 else if k = "key" then 107 else if k = "index" then 105
  else if k = "free" then 110 else if k = "leaf" then 120 else if k = "sort" then 115 else 112
def kinds12 : List Str := ["filter", "test", "walk", "chooser", "entries", "filters", "key", "index", "free", "leaf", "sort", "parameters"]
def letters (ks : List Str) : Str := ⟨(ks.map letC).toArray⟩
theorem table1 : ∀ p ∈ formsL, (if p.1 ∈ testsL then slF.lookup p.1 = none ∧ slT.lookup p.1 = some (letters p.2) else slF.lookup p.1 = some (letters p.2) ∧ slT.lookup p.1 = none) ∧ (∀ k ∈ p.2, k ∈ kinds12) ∧ (p.1 ∈ testsL → ∀ k ∈ p.2, k ≠ "filter" ∧ k ≠ "filters" ∧ k ≠ "entries") ∧ (p.1 ∈ choosersL → p.1 ∉ testsL ∧ ∀ k ∈ p.2, k ≠ "filters" ∧ k ≠ "entries") := by decide +kernel
theorem table2 : ∀ p ∈ slF, (formOf p.1).isSome = true := by decide +kernel
theorem table3 : ∀ p ∈ slT, (formOf p.1).isSome = true := by decide +kernel
theorem kind_w (x : Str) : decide (x ∈ kindL false) = decide (x ∈ walksL) := by
  unfold kindL
  rw [if_neg Bool.false_ne_true, List.append_nil]
theorem kc1 : ∀ x ∈ walksL ++ moreL, x ∈ choosersL := by decide +kernel
theorem kc2 : ∀ x ∈ choosersL, x ∈ walksL ++ moreL := by decide +kernel
theorem wc1 : ∀ x ∈ walksL, x ∈ choosersL := by decide +kernel
theorem kind_c (x : Str) : decide (x ∈ kindL true) = decide (x ∈ choosersL) := by
  unfold kindL
  rw [if_pos rfl]
  exact decide_eq_decide.mpr ⟨kc1 x, kc2 x⟩
theorem lookup_none {x : Str} {L : List (Str × Str)} (h : ∀ p ∈ L, (formOf p.1).isSome = true) (n : formOf x = none) : L.lookup x = none := by
  cases e : L.lookup x with
  | none => rfl
  | some s =>
    have := h _ (lookup_memS e)
    rw [n] at this
    cases this
def gall (g : Str → Dt → Bool) : List Str → List Dt → Bool
  | k :: ks, f :: fs => g k f && gall g ks fs
  | [], [] => true
  | _, _ => false
theorem gall_len {g : Str → Dt → Bool} : ∀ {ks : List Str} {fs : List Dt}, gall g ks fs = true → fs.length = ks.length
  | [], [], _ => rfl
  | k :: ks, f :: fs, h => by
    rw [gall, Bool.and_eq_true] at h
    rw [List.length_cons, List.length_cons, gall_len h.2]
  | [], _ :: _, h => by cases h
  | _ :: _, [], h => by cases h
theorem gall_range (G : Str → Dt → Bool) : ∀ {ks : List Str} {fs : List Dt} (g : Nat → Bool), (∀ i k f, ks[i]? = some k → fs[i]? = some f → g i = G k f) → (decide (fs.length = ks.length) && (List.range fs.length).all g) = gall G ks fs
  | [], [], g, _ => rfl
  | [], f :: fs, g, _ => by simp [gall]
  | k :: ks, [], g, _ => by simp [gall]
  | k :: ks, f :: fs, g, h => by
    have ih := gall_range G (ks := ks) (fs := fs) (fun i => g (i + 1)) fun i k f h1 h2 => h (i + 1) k f (by simpa using h1) (by simpa using h2)
    rw [gall, ← ih, ← h 0 k f rfl rfl]
    rw [List.length_cons, List.length_cons, List.range_succ_eq_map, List.all_cons, List.all_map]
    rw [show decide (fs.length + 1 = ks.length + 1) = decide (fs.length = ks.length) from decide_eq_decide.mpr (by omega)]
    show (decide (fs.length = ks.length) && (g 0 && (List.range fs.length).all fun i => g (i + 1))) = _
    cases decide (fs.length = ks.length) <;> cases g 0 <;> simp
theorem gall_congr {g G : Str → Dt → Bool} : ∀ {ks : List Str} {fs : List Dt}, (∀ k ∈ ks, ∀ f ∈ fs, g k f = G k f) → gall g ks fs = gall G ks fs
  | [], [], _ => rfl
  | [], _ :: _, _ => rfl
  | _ :: _, [], _ => rfl
  | k :: ks, f :: fs, h => by
    rw [gall, gall, h k List.mem_cons_self f List.mem_cons_self, gall_congr fun k hk f hf => h k (List.mem_cons_of_mem _ hk) f (List.mem_cons_of_mem _ hf)]
theorem gall_and (g G : Str → Dt → Bool) : ∀ (ks : List Str) (fs : List Dt), gall (fun k f => g k f && G k f) ks fs = (gall g ks fs && gall G ks fs)
  | [], [] => rfl
  | [], _ :: _ => rfl
  | _ :: _, [] => rfl
  | k :: ks, f :: fs => by
    rw [gall, gall, gall, gall_and g G ks fs]
    cases g k f <;> cases G k f <;> simp
theorem gall_kp (g : Str → Dt → Bool) (P : Str × Dt → Bool) : ∀ (ks : List Str) (fs : List Dt), gall (fun k f => g k f && (kpK k f).all P) ks fs = (gall g ks fs && (kpF ks fs).all P)
  | [], [] => rfl
  | [], _ :: _ => rfl
  | _ :: _, [] => rfl
  | k :: ks, f :: fs => by
    rw [gall, gall, kpF, List.all_append, gall_kp g P ks fs]
    cases g k f <;> cases (kpK k f).all P <;> simp
section
variable {p : Bool → Dt → Bool} {o : Bool → Dt → Bool} {t : Dt}
theorem slt_102 : slt p o 102 t = p true t := by
  unfold slt
  rw [if_pos (by decide +kernel)]
  simp
theorem slt_119 : slt p o 119 t = (p true t && o false t) := by
  unfold slt
  rw [if_pos (by decide +kernel)]
  simp
theorem slt_99 : slt p o 99 t = (p true t && o true t) := by
  unfold slt
  rw [if_pos (by decide +kernel)]
  simp
theorem slt_116 : slt p o 116 t = p false t := by
  unfold slt
  rw [if_neg (by decide +kernel), if_pos (by decide +kernel)]
theorem slt_105 : slt p o 105 t = wholeD t := by
  unfold slt
  rw [if_neg (by decide +kernel), if_neg (by decide +kernel), if_pos (by decide +kernel), if_pos (by decide +kernel)]
theorem slt_107 : slt p o 107 t = wordD t := by
  unfold slt
  rw [if_neg (by decide +kernel), if_neg (by decide +kernel), if_pos (by decide +kernel), if_neg (by decide +kernel), if_pos (by decide +kernel)]
theorem slt_110 : slt p o 110 t = freeD t := by
  unfold slt
  rw [if_neg (by decide +kernel), if_neg (by decide +kernel), if_pos (by decide +kernel), if_neg (by decide +kernel), if_neg (by decide +kernel)]
theorem slt_120 : slt p o 120 t = leafD t := by
  unfold slt
  rw [if_neg (by decide +kernel), if_neg (by decide +kernel), if_neg (by decide +kernel), if_pos (by decide +kernel)]
theorem slt_115 : slt p o 115 t = sortD t := by
  unfold slt
  rw [if_neg (by decide +kernel), if_neg (by decide +kernel), if_neg (by decide +kernel), if_neg (by decide +kernel), if_pos (by decide +kernel)]
theorem slt_112 : slt p o 112 t = (match t with | .tup l => decide (l.length < 4) && (l.all freeD && uniq (l.map strOfD)) | _ => false) := by
  unfold slt
  rw [if_neg (by decide +kernel), if_neg (by decide +kernel), if_neg (by decide +kernel), if_neg (by decide +kernel), if_neg (by decide +kernel)]
  cases t with
  | tup l => simp
  | _ => rfl
theorem slt_97 : slt p o 97 t = (match t with | .tup l => decide (l.length < 4) && l.all (p true) | _ => false) := by
  unfold slt
  rw [if_neg (by decide +kernel), if_neg (by decide +kernel), if_neg (by decide +kernel), if_neg (by decide +kernel), if_neg (by decide +kernel)]
  cases t with
  | tup l => simp
  | _ => rfl
theorem slt_101 : slt p o 101 t = (match t with | .tup l => entsD l && l.all fun e => p true (valD e) | _ => false) := by
  unfold slt
  rw [if_neg (by decide +kernel), if_neg (by decide +kernel), if_neg (by decide +kernel), if_neg (by decide +kernel), if_neg (by decide +kernel)]
  cases t with
  | tup l => simp
  | _ => rfl
end
/-- a field, where parts are asked too -/
def GF (n : Nat) (o : Str) (k : Str) (f : Dt) : Bool := fldD k f && (kpK k f).all fun p => okk n (nar o p.1) p.2
theorem okk_gall {n : Nat} {o x : Str} {fs : List Dt} {ks : List Str} (hk : formOf x = some ks) : okk (n + 1) o (.tup (.str x :: fs)) = (begK x o && gall (GF n o) ks fs) := by
  have e1 : kpOf (.tup (.str x :: fs)) = kpF ks fs := by
    unfold kpOf
    simp only [hk]
  have e2 : hasF o (.tup (.str x :: fs)) = (begK x o && gall fldD ks fs) := by
    have : hasF o (.tup (.str x :: fs)) = (begK x o && (match formOf x with
      | some ks => decide (fs.length = ks.length) && (List.range fs.length).all fun i => fldD (ks.getD i Str.empty) (fs.getD i .non)
      | none => false)) := rfl
    rw [this, hk]
    dsimp only
    rw [gall_range fldD (fun i => fldD (ks.getD i Str.empty) (fs.getD i .non)) fun i k f h1 h2 => by
      rw [List.getD_eq_getElem?_getD, h1, List.getD_eq_getElem?_getD, h2]
      rfl]
  rw [okk, e1, e2, Bool.and_assoc, ← gall_kp fldD (fun p => okk n (nar o p.1) p.2) ks fs]
  rfl
theorem sg_letters {ks : List Str} {i : Nat} {k : Str} (h : ks[i]? = some k) : sg (letters ks) i = letC k := by
  unfold sg letters
  rw [List.getD_eq_getElem?_getD]
  simp [h]
theorem frm_gall {n : Nat} {tr : Bool} {x : Str} {fs : List Dt} {ks : List Str} (hs : slotOf tr x = some (letters ks)) : frm (n + 1) tr (.tup (.str x :: fs)) = gall (fun k f => slt (frm n) (iso n) (letC k) f) ks fs := by
  rw [frm_node, hs]
  dsimp only
  have el : (letters ks).length = ks.length := by
    show (letters ks).cps.size = ks.length
    unfold letters
    simp
  rw [el, gall_range (fun k f => slt (frm n) (iso n) (letC k) f) (fun i => slt (frm n) (iso n) (sg (letters ks) i) (fs.getD i .non)) fun i k f h1 h2 => by
    rw [sg_letters h1, List.getD_eq_getElem?_getD, h2]
    rfl]
def GI (n : Nat) (ch : Bool) (k : Str) (f : Dt) : Bool := !(decide (letC k = 102) && !iso n ch f)
theorem iso_gall {n : Nat} {ch : Bool} {x : Str} {fs : List Dt} {ks : List Str} (hs : slF.lookup x = some (letters ks)) (hl : fs.length = ks.length) : iso (n + 1) ch (.tup (.str x :: fs)) = (decide (x ∈ kindL ch) && gall (GI n ch) ks fs) := by
  rw [iso_node _ _ _ _ hs]
  congr 1
  have := gall_range (GI n ch) (ks := ks) (fs := fs) (fun i => !(decide (sg (letters ks) i = 102) && !iso n ch (fs.getD i .non))) fun i k f h1 h2 => by
    rw [sg_letters h1, List.getD_eq_getElem?_getD, h2]
    rfl
  rw [← this, decide_eq_true hl, Bool.true_and]
end Toy


namespace Toy
open PySem PySem.Spec L2 PyProof.Rows PySem.W
def Eqv (n : Nat) : Prop := ∀ t, dep t ≤ n → frm n true t = okk (n + 1) "filter" t ∧ frm n false t = okk (n + 1) "test" t ∧ (frm n true t && iso n false t) = okk (n + 1) "walk" t ∧ (frm n true t && iso n true t) = okk (n + 1) "chooser" t
theorem okk_not {n : Nat} {k : Str} {t : Dt} (h : hasF k t = false) : okk (n + 1) k t = false := by rw [okk, h, Bool.false_and]
theorem valD_dep (e : Dt) : dep (valD e) ≤ dep e := by
  unfold valD
  split
  · simp only [dep, depL]
    omega
  · exact Nat.le_refl _
theorem all_congr' {l : List Dt} {f g : Dt → Bool} (h : ∀ x ∈ l, f x = g x) : l.all f = l.all g := by
  induction l with
  | nil => rfl
  | cons a l ih => rw [List.all_cons, List.all_cons, h a List.mem_cons_self, ih fun x hx => h x (List.mem_cons_of_mem _ hx)]
theorem nar_f (k : Str) : nar "filter" k = k := by
  unfold nar
  split
  · rename_i h
    exact h.symm
  · rfl
theorem nar_ff (o : Str) : nar o "filter" = o := by
  unfold nar
  rw [if_pos rfl]
theorem kpK_no {k : Str} (f : Dt) (h1 : PK k = false) (h2 : k ≠ "filters") (h3 : k ≠ "entries") : kpK k f = [] := by
  unfold kpK
  rw [if_neg (by rw [h1]; exact Bool.false_ne_true), if_neg h2, if_neg h3]
theorem kpK_pk {k : Str} (f : Dt) (h : PK k = true) : kpK k f = [(k, f)] := by
  unfold kpK
  rw [if_pos h]
theorem fldD_pk {k : Str} (f : Dt) (h : PK k = true) : fldD k f = true := by
  unfold fldD
  rw [if_pos h]
theorem GF_pk {n : Nat} {o k : Str} {f : Dt} (h : PK k = true) : GF n o k f = okk n (nar o k) f := by
  unfold GF
  rw [fldD_pk f h, kpK_pk f h]
  simp
theorem GF_no {n : Nat} {o k : Str} {f : Dt} (h1 : PK k = false) (h2 : k ≠ "filters") (h3 : k ≠ "entries") : GF n o k f = fldD k f := by
  unfold GF
  rw [kpK_no f h1 h2 h3]
  simp
theorem GF_same {n : Nat} {o k : Str} {f : Dt} (h1 : k ≠ "filter") (h2 : k ≠ "filters") (h3 : k ≠ "entries") : GF n o k f = GF n "filter" k f := by
  cases h : PK k with
  | true =>
    rw [GF_pk h, GF_pk h, nar_f]
    unfold nar
    rw [if_neg h1]
  | false => rw [GF_no h h2 h3, GF_no h h2 h3]
theorem fld_filters (f : Dt) : fldD "filters" f = (match f with | .tup l => decide (l.length ≤ 3) | _ => false) := by
  unfold fldD
  rw [if_neg (by decide +kernel), if_neg (by decide +kernel), if_neg (by decide +kernel), if_neg (by decide +kernel), if_neg (by decide +kernel), if_neg (by decide +kernel)]
  cases f with
  | tup l => rfl
  | _ => rfl
theorem fld_entries (f : Dt) : fldD "entries" f = (match f with | .tup l => entsD l | _ => false) := by
  unfold fldD
  rw [if_neg (by decide +kernel), if_neg (by decide +kernel), if_neg (by decide +kernel), if_neg (by decide +kernel), if_neg (by decide +kernel), if_neg (by decide +kernel)]
  cases f with
  | tup l =>
    dsimp only
    rw [if_neg (by decide +kernel), if_neg (by decide +kernel)]
  | _ => rfl
theorem fld_params (f : Dt) : fldD "parameters" f = (match f with | .tup l => decide (l.length ≤ 3) && (l.all freeD && uniq (l.map strOfD)) | _ => false) := by
  unfold fldD
  rw [if_neg (by decide +kernel), if_neg (by decide +kernel), if_neg (by decide +kernel), if_neg (by decide +kernel), if_neg (by decide +kernel), if_neg (by decide +kernel)]
  cases f with
  | tup l =>
    dsimp only
    rw [if_neg (by decide +kernel), if_pos rfl]
  | _ => rfl
theorem fld_key (f : Dt) : fldD "key" f = wordD f := by
  unfold fldD
  rw [if_neg (by decide +kernel), if_pos rfl]
theorem fld_free (f : Dt) : fldD "free" f = freeD f := by
  unfold fldD
  rw [if_neg (by decide +kernel), if_neg (by decide +kernel), if_pos rfl]
theorem fld_index (f : Dt) : fldD "index" f = wholeD f := by
  unfold fldD
  rw [if_neg (by decide +kernel), if_neg (by decide +kernel), if_neg (by decide +kernel), if_pos rfl]
theorem fld_leaf (f : Dt) : fldD "leaf" f = leafD f := by
  unfold fldD
  rw [if_neg (by decide +kernel), if_neg (by decide +kernel), if_neg (by decide +kernel), if_neg (by decide +kernel), if_pos rfl]
theorem fld_sort (f : Dt) : fldD "sort" f = sortD f := by
  unfold fldD
  rw [if_neg (by decide +kernel), if_neg (by decide +kernel), if_neg (by decide +kernel), if_neg (by decide +kernel), if_neg (by decide +kernel), if_pos rfl]
theorem le3 (n : Nat) : decide (n ≤ 3) = decide (n < 4) := decide_eq_decide.mpr (by omega)
theorem field_eq {n : Nat} (ih : Eqv n) {k : Str} (hk : k ∈ kinds12) {f : Dt} (hf : dep f ≤ n) : GF (n + 1) "filter" k f = slt (frm n) (iso n) (letC k) f := by
  unfold kinds12 at hk
  simp only [List.mem_cons, List.not_mem_nil, or_false] at hk
  obtain ⟨i1, i2, i3, i4⟩ := ih f hf
  rcases hk with rfl | rfl | rfl | rfl | rfl | rfl | rfl | rfl | rfl | rfl | rfl | rfl
  · rw [GF_pk (by decide +kernel), nar_f, show letC "filter" = 102 by decide +kernel, slt_102, i1]
  · rw [GF_pk (by decide +kernel), nar_f, show letC "test" = 116 by decide +kernel, slt_116, i2]
  · rw [GF_pk (by decide +kernel), nar_f, show letC "walk" = 119 by decide +kernel, slt_119, i3]
  · rw [GF_pk (by decide +kernel), nar_f, show letC "chooser" = 99 by decide +kernel, slt_99, i4]
  · rw [show letC "entries" = 101 by decide +kernel, slt_101]
    unfold GF
    rw [fld_entries]
    cases f with
    | tup l =>
      dsimp only
      rw [show kpK "entries" (.tup l) = l.map fun e => (("filter" : Str), valD e) by
        unfold kpK
        rw [if_neg (by decide +kernel), if_neg (by decide +kernel), if_pos rfl]
        rfl, List.all_map]
      congr 1
      refine all_congr' fun e he => ?_
      show okk (n + 1) (nar "filter" "filter") (valD e) = _
      rw [nar_f]
      have h1 := dep_mem he
      have h2 := valD_dep e
      rw [dep] at hf
      exact (ih (valD e) (by omega)).1.symm
    | _ => rfl
  · rw [show letC "filters" = 97 by decide +kernel, slt_97]
    unfold GF
    rw [fld_filters]
    cases f with
    | tup l =>
      dsimp only
      rw [show kpK "filters" (.tup l) = l.map fun e => (("filter" : Str), e) by
        unfold kpK
        rw [if_neg (by decide +kernel), if_pos rfl]
        rfl, List.all_map, le3]
      congr 1
      refine all_congr' fun e he => ?_
      show okk (n + 1) (nar "filter" "filter") e = _
      rw [nar_f]
      have h1 := dep_mem he
      rw [dep] at hf
      exact (ih e (by omega)).1.symm
    | _ => rfl
  · rw [GF_no (by decide +kernel) (by decide +kernel) (by decide +kernel), fld_key, show letC "key" = 107 by decide +kernel, slt_107]
  · rw [GF_no (by decide +kernel) (by decide +kernel) (by decide +kernel), fld_index, show letC "index" = 105 by decide +kernel, slt_105]
  · rw [GF_no (by decide +kernel) (by decide +kernel) (by decide +kernel), fld_free, show letC "free" = 110 by decide +kernel, slt_110]
  · rw [GF_no (by decide +kernel) (by decide +kernel) (by decide +kernel), fld_leaf, show letC "leaf" = 120 by decide +kernel, slt_120]
  · rw [GF_no (by decide +kernel) (by decide +kernel) (by decide +kernel), fld_sort, show letC "sort" = 115 by decide +kernel, slt_115]
  · rw [GF_no (by decide +kernel) (by decide +kernel) (by decide +kernel), fld_params, show letC "parameters" = 112 by decide +kernel, slt_112]
    cases f with
    | tup l =>
      dsimp only
      rw [le3]
    | _ => rfl
theorem letC_102 {k : Str} (hk : k ∈ kinds12) : decide (letC k = 102) = decide (k = "filter") := by
  revert k
  decide +kernel
theorem frm_no {n : Nat} {tr : Bool} {x : Str} {fs : List Dt} (h : slotOf tr x = none) : frm (n + 1) tr (.tup (.str x :: fs)) = false := by
  rw [frm_node, h]
theorem part_eq {n : Nat} (ih : Eqv n) {o : Str} {ch : Bool} (ho : ∀ f, dep f ≤ n → (frm n true f && iso n ch f) = okk (n + 1) o f) {k : Str} (hk : k ∈ kinds12) (h2 : k ≠ "filters") (h3 : k ≠ "entries") {f : Dt} (hf : dep f ≤ n) : (slt (frm n) (iso n) (letC k) f && GI n ch k f) = GF (n + 1) o k f := by
  unfold GI
  rw [letC_102 hk]
  by_cases h1 : k = "filter"
  · subst h1
    rw [decide_eq_true rfl, Bool.true_and, Bool.not_not, show letC "filter" = 102 by decide +kernel, slt_102, GF_pk (by decide +kernel), nar_ff]
    exact ho f hf
  · rw [decide_eq_false h1, Bool.false_and, Bool.not_false, Bool.and_true, ← field_eq ih hk hf]
    exact (GF_same h1 h2 h3).symm
theorem eqv_succ {n : Nat} (ih : Eqv n) : Eqv (n + 1) := by
  intro t ht
  have no : (∀ k, hasF k t = false) → (∀ tr, frm (n + 1) tr t = false) → frm (n + 1) true t = okk (n + 2) "filter" t ∧ frm (n + 1) false t = okk (n + 2) "test" t ∧ (frm (n + 1) true t && iso (n + 1) false t) = okk (n + 2) "walk" t ∧ (frm (n + 1) true t && iso (n + 1) true t) = okk (n + 2) "chooser" t := fun h1 h2 => by
    rw [h2, h2, okk_not (h1 _), okk_not (h1 _), okk_not (h1 _), okk_not (h1 _)]
    simp
  cases t with
  | tup l =>
    cases l with
    | nil => exact no (fun _ => rfl) (fun _ => rfl)
    | cons d fs =>
      cases d with
      | str x =>
        simp only [dep, depL] at ht
        have hd : ∀ f ∈ fs, dep f ≤ n := fun f hf => by
          have := dep_mem hf
          omega
        cases hk : formOf x with
        | none =>
          have a1 := lookup_none table2 hk
          have a2 := lookup_none table3 hk
          refine no (fun k => ?_) fun tr => frm_no ?_
          · have : hasF k (.tup (.str x :: fs)) = (begK x k && (match formOf x with
              | some ks => decide (fs.length = ks.length) && (List.range fs.length).all fun i => fldD (ks.getD i Str.empty) (fs.getD i .non)
              | none => false)) := rfl
            rw [this, hk]
            simp
          · unfold slotOf
            rw [a1, a2]
            simp
        | some ks =>
          obtain ⟨t1, t2, t3, t4⟩ := table1 _ (lookup_mem hk)
          simp only at t1 t2 t3 t4
          rw [okk_gall hk, okk_gall hk, okk_gall hk, okk_gall hk]
          have bF : begK x "filter" = !decide (x ∈ testsL) := by
            unfold begK
            rw [if_neg (by decide +kernel), if_neg (by decide +kernel), hk, show decide (("filter" : Str) = "test") = false by decide +kernel]
            cases decide (x ∈ testsL) <;> rfl
          have bT : begK x "test" = decide (x ∈ testsL) := by
            unfold begK
            rw [if_neg (by decide +kernel), if_neg (by decide +kernel), hk, show decide (("test" : Str) = "test") = true by decide +kernel]
            cases decide (x ∈ testsL) <;> rfl
          have bW : begK x "walk" = decide (x ∈ walksL) := by
            unfold begK
            rw [if_pos rfl]
          have bC : begK x "chooser" = decide (x ∈ choosersL) := by
            unfold begK
            rw [if_neg (by decide +kernel), if_pos rfl]
          rw [bF, bT, bW, bC]
          by_cases hx : x ∈ testsL
          · rw [if_pos hx] at t1
            have nC : x ∉ choosersL := fun z => (t4 z).1 hx
            have nW : x ∉ walksL := fun z => nC (wc1 x z)
            rw [frm_no (tr := true) t1.1, frm_gall (tr := false) t1.2, decide_eq_true hx, decide_eq_false nC, decide_eq_false nW]
            refine ⟨by simp, ?_, by simp, by simp⟩
            rw [Bool.true_and]
            refine gall_congr fun k hk f hf => ?_
            obtain ⟨q1, q2, q3⟩ := t3 hx k hk
            rw [GF_same q1 q2 q3, field_eq ih (t2 k hk) (hd f hf)]
          · rw [if_neg hx] at t1
            have eF : frm (n + 1) true (.tup (.str x :: fs)) = gall (fun k f => slt (frm n) (iso n) (letC k) f) ks fs := frm_gall (tr := true) t1.1
            have eG : gall (fun k f => slt (frm n) (iso n) (letC k) f) ks fs = gall (GF (n + 1) "filter") ks fs := gall_congr fun k hk f hf => (field_eq ih (t2 k hk) (hd f hf)).symm
            rw [frm_no (tr := false) t1.2, decide_eq_false hx]
            refine ⟨by rw [eF, eG]; simp, by simp, ?_, ?_⟩
            all_goals
              by_cases hl : fs.length = ks.length
              · rw [eF, iso_gall t1.1 hl]
                first | rw [kind_w] | rw [kind_c]
                rw [← Bool.and_assoc, Bool.and_comm (gall _ _ _), Bool.and_assoc, ← gall_and]
                by_cases hc : x ∈ choosersL
                · congr 1
                  refine gall_congr fun k hk f hf => ?_
                  obtain ⟨_, q⟩ := t4 hc
                  first
                    | exact part_eq ih (ch := false) (fun f hf => (ih f hf).2.2.1) (t2 k hk) (q k hk).1 (q k hk).2 (hd f hf)
                    | exact part_eq ih (ch := true) (fun f hf => (ih f hf).2.2.2) (t2 k hk) (q k hk).1 (q k hk).2 (hd f hf)
                · first
                    | rw [decide_eq_false (fun z => hc (wc1 x z)), Bool.false_and, Bool.false_and]
                    | rw [decide_eq_false hc, Bool.false_and, Bool.false_and]
              · have g0 : ∀ g, gall g ks fs = false := fun g => by
                  cases e : gall g ks fs with
                  | false => rfl
                  | true => exact absurd (gall_len e) hl
                rw [eF, g0, g0, Bool.false_and, Bool.and_false]
      | _ => exact no (fun _ => rfl) (fun _ => rfl)
  | _ => exact no (fun _ => rfl) (fun _ => rfl)
theorem eqv : ∀ n, Eqv n
  | 0 => fun t ht => by
    have h : ∀ k, hasF k t = false := fun k => by
      cases t with
      | tup l => rw [dep] at ht; omega
      | _ => rfl
    rw [okk_not (h _), okk_not (h _), okk_not (h _), okk_not (h _)]
    exact ⟨rfl, rfl, rfl, rfl⟩
  | n + 1 => eqv_succ (eqv n)
end Toy


namespace Toy
open PySem PySem.Spec L2 PyProof.Rows PySem.W
/-! ### levels and parts are bounded by the sizes -/
theorem lev_le : ∀ n t, lev n t ≤ dep t + 1
  | 0, t => by rw [lev]; omega
  | n + 1, t => by
    rw [lev]
    have : maxL ((kpOf t).map fun p => lev n p.2) ≤ dep t := maxL_le.mpr fun x hx => by
      obtain ⟨p, hp, rfl⟩ := List.mem_map.mp hx
      have h1 := lev_le n p.2
      have h2 := (kp_dep p hp).1
      omega
    omega
mutual
def szd : Dt → Nat
  | .tup l => szdL l + 1
  | .non => 1
  | .bl _ => 1
  | .int _ => 1
  | .str _ => 1
  | .opq => 1
def szdL : List Dt → Nat
  | [] => 0
  | t :: l => szd t + szdL l
end
theorem szd_pos : ∀ t, 1 ≤ szd t := fun t => by
  cases t <;> simp [szd]
mutual
theorem szd_nd {c : Nat} : ∀ t, okd c t = true → szd t ≤ c * nd t + 1
  | .tup l, h => by
    rw [okd, Bool.and_eq_true, decide_eq_true_eq] at h
    have h1 := szdL_nd (c := c) l h.2
    rw [szd, nd, Nat.mul_succ]
    omega
  | .non, _ => by simp [szd]
  | .bl _, _ => by simp [szd]
  | .int _, _ => by simp [szd]
  | .str _, _ => by simp [szd]
  | .opq, _ => by simp [szd]
theorem szdL_nd {c : Nat} : ∀ l, okdL c l = true → szdL l ≤ c * ndL l + l.length
  | [], _ => by simp [szdL]
  | t :: l, h => by
    rw [okdL, Bool.and_eq_true] at h
    have h1 := szd_nd (c := c) t h.1
    have h2 := szdL_nd (c := c) l h.2
    rw [szdL, ndL, Nat.mul_add, List.length_cons]
    omega
end
/-- a measure of values that a part's is no more than its whole's -/
structure Meas (m : Dt → Nat) (mL : List Dt → Nat) : Prop where
  nil : mL [] = 0
  cons : ∀ t l, mL (t :: l) = m t + mL l
  tup : ∀ l, m (.tup l) = mL l + 1
theorem meas_nd : Meas nd ndL := ⟨by rw [ndL], fun t l => by rw [ndL], fun l => by rw [nd]⟩
theorem meas_sz : Meas szd szdL := ⟨by rw [szdL], fun t l => by rw [szdL], fun l => by rw [szd]⟩
section
variable {m : Dt → Nat} {mL : List Dt → Nat} (M : Meas m mL)
include M
theorem m_val (e : Dt) : m (valD e) ≤ m e := by
  unfold valD
  split
  · rw [M.tup, M.cons, M.cons, M.nil]
    omega
  · exact Nat.le_refl _
theorem m_items (k : Str) (g : Dt → Dt) (hg : ∀ e, m (g e) ≤ m e) : ∀ l : List Dt, ((l.map fun e => (k, g e)).map fun p => m p.2).sum ≤ mL l
  | [] => by simp
  | e :: l => by
    have h1 := m_items k g hg l
    have h2 := hg e
    rw [M.cons]
    simp only [List.map_cons, List.sum_cons] at h1 ⊢
    omega
theorem m_itemsD (k : Str) (g : Dt → Dt) (hg : ∀ e, m (g e) ≤ m e) (f : Dt) : (((itemsD f).map fun e => (k, g e)).map fun p => m p.2).sum ≤ m f := by
  cases f with
  | tup l =>
    have := m_items M k g hg l
    rw [M.tup]
    show (((l).map fun e => (k, g e)).map fun p => m p.2).sum ≤ _
    omega
  | _ => simp [itemsD]
theorem m_kpK (k : Str) (f : Dt) : ((kpK k f).map fun p => m p.2).sum ≤ m f := by
  unfold kpK
  split
  · simp
  · split
    · exact m_itemsD M "filter" (fun g => g) (fun _ => Nat.le_refl _) f
    · split
      · exact m_itemsD M "filter" valD (m_val M) f
      · simp
theorem m_kpF : ∀ (ks : List Str) (fs : List Dt), ((kpF ks fs).map fun p => m p.2).sum ≤ mL fs
  | [], fs => by simp [kpF]
  | _ :: _, [] => by simp [kpF]
  | k :: ks, f :: fs => by
    have h1 := m_kpF ks fs
    have h2 := m_kpK M k f
    rw [kpF, List.map_append, List.sum_append, M.cons]
    omega
theorem m_kpOf (t : Dt) (h : 1 ≤ m t) : ((kpOf t).map fun p => m p.2).sum + 1 ≤ m t := by
  unfold kpOf
  split
  · rename_i x fs
    split
    · rename_i ks _
      have := m_kpF M ks fs
      rw [M.tup, M.cons]
      omega
    · simpa using h
  · simpa using h
end
theorem sum_le {α : Type} {f g : α → Nat} : ∀ {l : List α}, (∀ x ∈ l, f x ≤ g x) → (l.map f).sum ≤ (l.map g).sum
  | [], _ => by simp
  | a :: l, h => by
    have h1 := h a List.mem_cons_self
    have h2 := sum_le (l := l) fun x hx => h x (List.mem_cons_of_mem _ hx)
    simp only [List.map_cons, List.sum_cons]
    omega
theorem spo_sz : ∀ n t, spo n t ≤ szd t
  | 0, t => szd_pos t
  | n + 1, t => by
    rw [spo]
    have h1 := m_kpOf meas_sz t (szd_pos t)
    have h2 := sum_le (f := fun p => spo n p.2) (g := fun p => szd p.2) (l := kpOf t) fun p _ => spo_sz n p.2
    omega
theorem hasF_nd {k : Str} {t : Dt} (h : hasF k t = true) : 1 ≤ nd t := by
  cases t with
  | tup l => rw [nd]; omega
  | _ => cases h
theorem spo_nd : ∀ n k t, okk n k t = true → spo n t ≤ nd t
  | 0, _, _, h => by cases h
  | n + 1, k, t, h => by
    rw [okk, Bool.and_eq_true] at h
    have h1 := m_kpOf meas_nd t (hasF_nd h.1)
    have h2 := sum_le (f := fun p => spo n p.2) (g := fun p => nd p.2) (l := kpOf t) fun p hp => spo_nd n _ _ (List.all_eq_true.mp h.2 p hp)
    rw [spo]
    omega
theorem spo_big {n c : Nat} {t : Dt} (h : okd c t = true) (k : c * nd t + 1 ≤ 10000000) : spo n t ≤ 10000000 := by
  have h1 := spo_sz n t
  have h2 := szd_nd t h
  omega
theorem fine_one {n : Nat} {k : Str} {t : Dt} (hn : nd t ≤ 200) (hd : dep t ≤ 39) : fine [(n, k, t, 1)] 1 = okk n k t := by
  have e : fine [(n, k, t, 1)] 1 = (okk n k t && decide (1 + lev n t ≤ 41) && decide (1 + (spo n t - 1) ≤ 200)) := by
    unfold fine fine1 spoI
    simp only [List.all_cons, List.all_nil, Bool.and_true, List.map_cons, List.map_nil, List.sum_cons, List.sum_nil, Nat.add_zero]
  rw [e]
  cases h : okk n k t with
  | false => rfl
  | true =>
    have h1 := lev_le n t
    have h2 := spo_nd n k t h
    rw [decide_eq_true (by omega), decide_eq_true (by omega)]
    rfl
theorem fine_fl {t : Dt} (hn : nd t ≤ 200) (hd : dep t ≤ 21) : fine [(22, "filter", t, 1)] 1 = frm 21 true t ∧ fine [(22, "test", t, 1)] 1 = frm 21 false t ∧ fine [(22, "walk", t, 1)] 1 = (frm 21 true t && iso 21 false t) ∧ fine [(22, "chooser", t, 1)] 1 = (frm 21 true t && iso 21 true t) := by
  obtain ⟨e1, e2, e3, e4⟩ := eqv 21 t hd
  rw [fine_one hn (by omega), fine_one hn (by omega), fine_one hn (by omega), fine_one hn (by omega)]
  exact ⟨e1.symm, e2.symm, e3.symm, e4.symm⟩
/-! wide dicts -/
def sameD : Dt := .tup [.str "same"]
def alphaL : List Nat := (List.range 26).map (· + 97)
def wkey (k : Nat) : Str := ⟨#[97 + k / 26, 97 + k % 26]⟩
def wideL (a n : Nat) : List Dt := (List.range' a n).map fun k => .tup [.str (wkey k), sameD]
def wideD (a n : Nat) : Dt := .tup [.str "dict", .tup (wideL a n)]
theorem wide_no : fine [(5, "filter", wideD 0 200, 1)] 1 = false := by decide +kernel
theorem wide_yes : fine [(5, "filter", wideD 1 199, 1)] 1 = true := by decide +kernel
theorem wide_okd : okd 300 (wideD 0 200) = true ∧ okd 300 (wideD 1 199) = true ∧ dep (wideD 0 200) < 5 ∧ dep (wideD 1 199) < 5 ∧ nd (wideD 0 200) ≤ 402 ∧ nd (wideD 1 199) ≤ 402 := by decide +kernel
/-! deep nests -/
inductive Nest : Nat → Dt → Prop
  | same : Nest 0 sameD
  | more {i : Nat} {t : Dt} {x : Str} : Nest i t → x ∈ (["list", "first", "fails"] : List Str) → Nest (i + 1) (.tup [.str x, t])
theorem nest_form : ∀ x ∈ (["list", "first", "fails"] : List Str), formOf x = some (["filter"] : List Str) := by decide +kernel
theorem nest_ok : ∀ x ∈ (["list", "first", "fails"] : List Str), okK x = true := by decide +kernel
theorem nest_beg : ∀ x ∈ (["list", "first", "fails"] : List Str), begK x "filter" = true := by decide +kernel
theorem nest_kp {x : Str} (h : x ∈ (["list", "first", "fails"] : List Str)) (t : Dt) : kpOf (.tup [.str x, t]) = [(("filter" : Str), t)] := by
  show (match formOf x with | some ks => kpF ks [t] | none => []) = _
  rw [nest_form x h]
  show kpK "filter" t ++ kpF [] [] = _
  rw [kpK_pk t (by decide +kernel)]
  rfl
theorem nest_has {x : Str} (h : x ∈ (["list", "first", "fails"] : List Str)) (t : Dt) : hasF "filter" (.tup [.str x, t]) = true := by
  have hb : begK x "filter" = true := nest_beg x h
  show (begK x "filter" && (match formOf x with
    | some ks => decide ([t].length = ks.length) && (List.range [t].length).all fun i => fldD (ks.getD i Str.empty) ([t].getD i .non)
    | none => false)) = true
  rw [hb, nest_form x h]
  show (true && (true && (fldD "filter" t && true))) = true
  rw [fldD_pk t (by decide +kernel)]
  rfl
theorem nest_all {i : Nat} {t : Dt} (h : Nest i t) : okk (i + 1) "filter" t = true ∧ lev (i + 1) t = i + 1 ∧ spo (i + 1) t = i + 1 ∧ dep t = i + 1 ∧ nd t = i + 1 ∧ okd 5 t = true := by
  induction h with
  | same => decide +kernel
  | more h hx ih =>
    obtain ⟨h1, h2, h3, h4, h5, h6⟩ := ih
    refine ⟨?_, ?_, ?_, ?_, ?_, ?_⟩
    · rw [okk, nest_has hx, nest_kp hx]
      simp only [List.all_cons, List.all_nil, Bool.and_true, Bool.true_and]
      rw [nar_f]
      exact h1
    · rw [lev, nest_kp hx]
      simp only [List.map_cons, List.map_nil, maxL]
      omega
    · rw [spo, nest_kp hx]
      simp only [List.map_cons, List.map_nil, List.sum_cons, List.sum_nil]
      omega
    · simp only [dep, depL]
      omega
    · simp only [nd, ndL]
      omega
    · simp only [okd, okdL, h6, nest_ok _ hx, Bool.and_true, List.length_cons, List.length_nil]
      rfl
theorem nest_fine {i : Nat} {t : Dt} (h : Nest i t) (hi : i ≤ 100) : fine [(i + 1, "filter", t, 1)] 1 = decide (i < 40) := by
  obtain ⟨h1, h2, h3, _⟩ := nest_all h
  unfold fine fine1 spoI
  simp only [List.all_cons, List.all_nil, Bool.and_true, List.map_cons, List.map_nil, List.sum_cons, List.sum_nil, Nat.add_zero]
  rw [h1, h2, h3, Bool.true_and]
  by_cases c : i < 40
  · rw [decide_eq_true c, decide_eq_true (by omega), decide_eq_true (by omega)]
    rfl
  · rw [decide_eq_false c, decide_eq_false (show ¬ 1 + (i + 1) ≤ 41 by omega)]
    rfl
end Toy


namespace L2
open PySem PySem.Spec PyProof.Rows
section
variable {X : Cx}
/-- repr of a truth -/
def rReB : List V → Hp → VK → Prop := fun xs H Q => ∃ b, xs = [.bl b] ∧ Q (.str (if b then "True" else "False")) H
theorem call_reB : CallR X (.builtin "repr") rReB := by
  intro pins s σ H xs us Q I r h
  obtain ⟨b, rfl, q⟩ := h
  obtain ⟨u, rfl, ru⟩ := vals1 r
  cases ru
  exact PySem.P.repr_of_bool ⟨.str _, H, I.tok _, ⟨_, rfl⟩, q⟩
/-- two pairs of truths, beside each other: the same ones -/
def rNeP (K : PySem.W.Frag) : R2 := fun x y H Q => ∃ (p q : Addr) (a b : Bool), x = .ref p ∧ y = .ref q ∧ SqT K H p [.bl a, .bl b] ∧ SqT K H q [.bl a, .bl b] ∧ Q (.bl false) H
theorem op_neP (hu : X.A.units + 64 < cLine) : OpR X (compareOp .NotEq) (rNeP X.K) := by
  intro pins s σ H x y v u Q I rx ry h
  obtain ⟨p, q, a, b, rfl, rfl, hp, hq, z⟩ := h
  refine op_neD hu pins s σ H _ _ v u Q I rx ry ⟨.tuple [.bool a, .bool b], .tuple [.bool a, .bool b], .tup hp (.cons (.bl a) (.cons (.bl b) .nil)), .tup hq (.cons (.bl a) (.cons (.bl b) .nil)), rfl, rfl, ?_⟩
  rw [show (!PyData.eqv (.tuple [.bool a, .bool b]) (.tuple [.bool a, .bool b])) = false by cases a <;> cases b <;> rfl]
  exact z
end
end L2
namespace Toy
open PySem PySem.Spec L2 PyProof.Rows PySem.W
theorem del_same {H : Hp} {d : Addr} : Same (delH H d) H := fun b o e => by
  by_cases h : b = d
  · subst h
    rw [show delH H b b = none by unfold delH; simp] at e
    cases e
  · rw [delH_ne h] at e
    exact e
theorem delH_upd {H : Hp} {d : Addr} {u : HO} : delH (upd H d u) d = delH H d := by
  funext b
  by_cases h : b = d
  · subst h
    unfold delH
    simp
  · rw [delH_ne h, delH_ne h, upd_ne h]
theorem dvT {K : PySem.W.Frag} {H : Hp} {D T : Addr} {us : List V} {ts : List Dt} {o : HO} (h : DvL K (delH H D) us ts) (n : H T = none) (hD : H D = some o) : Dv K (delH (upd H T (.tup us)) D) (.ref T) (.tup ts) :=
  .tup (SqT.of ((delH_ne (ne_of_none hD n).symm).trans upd_same)) (dvLM (Same.delH (same_new same_id n) D) h)
/-- a pick of a display, the tape at the second place -/
theorem dr_pick1 {d l : Addr} {J : Hp → Prop} {σ : L2.St} {ta : TA} {m c : Nat} {R : Hp → V → Prop} (sj : Stb d J) (h0 : σ[1]? = some (some (.ref d))) (sr : ∀ H H' v, But d H H' → R H v → R H' v) (r : DrA d l J ta σ m (AllR c R)) (hc : 0 < c ∧ c ≤ 100) : Dr d l J (tCall spPick [] E0 (tCons (tVar 1) (tCons (tLst ta) tNil))) σ (m + 1) R :=
  fun H n Q j t b q => ⟨_, h0, r H n _ j t (by omega) fun H1 vs b1 t1 ⟨hl, r1⟩ => ⟨few (by omega), fun T nT => by
    have s : Same H1 (upd H1 T (.lst vs)) := same_new same_id nT
    refine ⟨d, l, T, n + m, vs, rfl, t1.same s, by omega, upd_same, fun e => by rw [e] at hl; simp at hl; omega, by omega, fun H2 v b2 t2 hv => ?_⟩
    exact q H2 v ((b1.trans (Same.but s d)).trans b2) t2 (sr _ _ _ b2 (sr _ _ _ (Same.but s d) (r1 v hv)))⟩⟩
theorem cT_le {a b : Nat} (h : a ≤ b) : cT a ≤ cT b := by
  unfold cT
  exact Nat.mul_le_mul_left 10 (Nat.pow_le_pow_right (by decide) h)
theorem gT2 : ∀ k : Fin 3, gT k.1 ≤ 44 := by decide +kernel
theorem gT3 {k : Nat} (h : k < 3) : gT k ≤ 44 := gT2 ⟨k, h⟩
section
variable {K : PySem.W.Frag} {d l R : Addr} {σ : L2.St} {ys : List Str} (h1 : σ[1]? = some (some (.ref d))) (h3 : σ[3]? = some (some (.ref R))) (hk : KeysOk ys) (sj : Stb d (JK R ys))
include h1 h3 hk sj
theorem dr_one : Dr d l (JK R ys) (tCall (spFl K 4) [] E0 (tCons (tVar 1) (tCons (tVar 3) (tCons (tCall spDraw [] E0 (tCons (tVar 1) (tCons (tC (.int 4)) tNil))) tNil)))) σ 1571 (fun H v => Fv K d H 5 44 11 v) :=
  fun H n Q j t b q => ⟨_, h1, _, h3, _, h1, d, l, n, 4, rfl, t, by omega, by decide, by decide, fun H1 r b1 t1 r0 r1 => by
    have h := cF_le (show r.toNat ≤ 3 by omega)
    have g := gF_le (show r.toNat ≤ 3 by omega)
    rw [show cF 3 = 1570 by decide] at h
    rw [show gF 3 = 44 by decide] at g
    exact ⟨d, l, R, n + 1, r, ys, ⟨by omega, by decide⟩, rfl, t1, by omega, sj _ _ b1 j, hk, fun H2 v b2 t2 f2 => q H2 v (b1.trans b2) (t2.more (by omega)) (f2.mono g (by omega))⟩⟩
theorem dr_two : Dr d l (JK R ys) (tCall (spTm K gT 3) [] E0 (tCons (tVar 1) (tCons (tVar 3) (tCons (tCall spDraw [] E0 (tCons (tVar 1) (tCons (tC (.int 3)) tNil))) tNil)))) σ 161 (fun H v => Fv K d H 5 44 11 v) :=
  fun H n Q j t b q => ⟨_, h1, _, h3, _, h1, d, l, n, 3, rfl, t, by omega, by decide, by decide, fun H1 r b1 t1 r0 r1 => by
    obtain ⟨k, rfl⟩ : ∃ k : Nat, r = (k : Int) := ⟨r.toNat, by omega⟩
    have hk3 : k < 3 := by omega
    have h := cT_le (show k ≤ 2 by omega)
    have g := gT3 hk3
    rw [show cT 2 = 160 by decide] at h
    exact ⟨d, l, R, n + 1, k, ys, hk3, rfl, t1, by omega, sj _ _ b1 j, hk, fun H2 v b2 t2 f2 => q H2 v (b1.trans b2) (t2.more (by omega)) (f2.mono g (by omega))⟩⟩
theorem dr_three : Dr d l (JK R ys) (tCall (spTm K gW 3) [] E0 (tCons (tVar 1) (tCons (tVar 3) (tCons (tC (.int 2)) tNil)))) σ 160 (fun H v => Fv K d H 5 44 11 v) :=
  fun H n Q j t b q => ⟨_, h1, _, h3, d, l, R, n, 2, ys, by decide, rfl, t, b, j, hk, fun H2 v b2 t2 f2 => q H2 v b2 t2 (f2.mono (by decide) (by decide))⟩
theorem dr_x : Dr d l (JK R ys) (tCall spPick [] E0 (tCons (tVar 1) (tCons (tLst (tCons (tCall (spFl K 4) [] E0 (tCons (tVar 1) (tCons (tVar 3) (tCons (tCall spDraw [] E0 (tCons (tVar 1) (tCons (tC (.int 4)) tNil))) tNil)))) (tCons (tCall (spTm K gT 3) [] E0 (tCons (tVar 1) (tCons (tVar 3) (tCons (tCall spDraw [] E0 (tCons (tVar 1) (tCons (tC (.int 3)) tNil))) tNil)))) (tCons (tCall (spTm K gW 3) [] E0 (tCons (tVar 1) (tCons (tVar 3) (tCons (tC (.int 2)) tNil)))) tNil)))) tNil))) σ 1893 (fun H v => Fv K d H 5 44 11 v) :=
  (dr_pick1 sj h1 fv_st (dal sj (dr_one h1 h3 hk sj) ⟨Nat.le_refl _, Nat.le_refl _⟩ (dal sj (dr_two h1 h3 hk sj) ⟨Nat.le_refl _, Nat.le_refl _⟩ (dal sj (dr_three h1 h3 hk sj) ⟨Nat.le_refl _, Nat.le_refl _⟩ dal_nil))) (by decide)).mono (fun _ _ z => z) (by decide)
end
def nb : Nat → Nat
  | 0 => 44
  | n + 1 => 2 * nb n + 8
/-- a value with c changes -/
def FX (K : PySem.W.Frag) (d : Addr) (H : Hp) (c : Nat) (v : V) : Prop := ∃ t, Dv K (delH H d) v t ∧ nd t ≤ nb c ∧ dep t ≤ 11 + 5 * c ∧ okd (5 + c) t = true
theorem FX.but {K : PySem.W.Frag} {d : Addr} {H H' : Hp} {c : Nat} {v : V} (h : FX K d H c v) (b : But d H H') : FX K d H' c v := by
  obtain ⟨t, h1, h2⟩ := h
  exact ⟨t, dvM (But.off b) h1, h2⟩
theorem wide_get (k : Nat) (h : k < 26) : atI (("abcdefghijklmnopqrstuvwxyz" : Str)).cps.toList ((k : Nat) : Int) = some (97 + k) := by
  have : ∀ k < 26, atI (("abcdefghijklmnopqrstuvwxyz" : Str)).cps.toList ((k : Nat) : Int) = some (97 + k) := by decide +kernel
  exact this k h
theorem wide_snoc (a i : Nat) : wideL a (i + 1) = wideL a i ++ [.tup [.str (wkey (a + i)), sameD]] := by
  unfold wideL
  rw [List.range'_concat, List.map_append]
  simp
theorem wide_drop : (wideL 0 200).drop 1 = wideL 1 199 := rfl
def keys4 : List Str := ["a", "b", "null", "zz"]
theorem keys4_ok : KeysOk keys4 := ⟨by decide, by decide, by decide +kernel⟩
theorem keys_perm {ys ks : List Str} (h : ys.Perm ks) (k : KeysOk ks) : KeysOk ys := ⟨fun e => by
  rw [e] at h
  exact k.1 (List.nil_perm.mp h), by rw [h.length_eq]; exact k.2.1, fun x hx => k.2.2 x (h.mem_iff.mp hx)⟩
end Toy


namespace Toy
open PySem PySem.Spec L2 PyProof.Rows PySem.W
theorem same_kp : kpOf sameD = [] := by
  show (match formOf "same" with | some ks => kpF ks [] | none => []) = _
  rw [show formOf "same" = some [] by decide +kernel]
  rfl
theorem nest_n {i : Nat} {t : Dt} (h : Nest i t) : ∀ n, i < n → okk n "filter" t = true ∧ lev n t = i + 1 ∧ spo n t = i + 1 := by
  induction h with
  | same =>
    intro n hn
    obtain ⟨m, rfl⟩ : ∃ m, n = m + 1 := ⟨n - 1, by omega⟩
    rw [okk, lev, spo, same_kp]
    exact ⟨by rw [show hasF "filter" sameD = true by decide +kernel]; rfl, rfl, rfl⟩
  | more h hx ih =>
    intro n hn
    obtain ⟨m, rfl⟩ : ∃ m, n = m + 1 := ⟨n - 1, by omega⟩
    obtain ⟨h1, h2, h3⟩ := ih m (by omega)
    rw [okk, lev, spo, nest_has hx, nest_kp hx]
    simp only [List.all_cons, List.all_nil, Bool.and_true, Bool.true_and, List.map_cons, List.map_nil, List.sum_cons, List.sum_nil, maxL]
    refine ⟨?_, by omega, by omega⟩
    rw [nar_f]
    exact h1
theorem nest_fine2 {i : Nat} {t : Dt} (h : Nest i t) : fine [(i + 2, "filter", t, 1)] 1 = decide (i < 40 ∧ i < 199 + 1) := by
  obtain ⟨h1, h2, h3⟩ := nest_n h (i + 2) (by omega)
  unfold fine fine1 spoI
  simp only [List.all_cons, List.all_nil, Bool.and_true, List.map_cons, List.map_nil, List.sum_cons, List.sum_nil, Nat.add_zero]
  rw [h1, h2, h3, Bool.true_and]
  by_cases c : i < 40
  · rw [decide_eq_true (show i < 40 ∧ i < 199 + 1 by omega), decide_eq_true (by omega), decide_eq_true (by omega)]
    rfl
  · rw [decide_eq_false (show ¬ (i < 40 ∧ i < 199 + 1) by omega), decide_eq_false (show ¬ 1 + (i + 1) ≤ 41 by omega)]
    rfl
theorem delH2_upd {H : Hp} {d D : Addr} {u : HO} : delH (delH (upd H D u) d) D = delH (delH H d) D := by
  funext b
  by_cases h : b = D
  · subst h
    unfold delH
    simp
  · rw [delH_ne h, delH_ne h]
    by_cases h2 : b = d
    · subst h2
      unfold delH
      simp
    · rw [delH_ne h2, delH_ne h2, upd_ne h]
theorem dvT2 {K : PySem.W.Frag} {H : Hp} {d D T : Addr} {us : List V} {ts : List Dt} {o o2 : HO} (h : DvL K (delH (delH H d) D) us ts) (n : H T = none) (hD : H D = some o) (hd : H d = some o2) : Dv K (delH (delH (upd H T (.tup us)) d) D) (.ref T) (.tup ts) :=
  .tup (SqT.of ((delH_ne (ne_of_none hD n).symm).trans ((delH_ne (ne_of_none hd n).symm).trans upd_same))) (dvLM (Same.delH (Same.delH (same_new same_id n) d) D) h)
theorem nest_step {d l : Addr} {K : PySem.W.Frag} {σ : L2.St} {u : V} {t : Dt} {i : Nat} {x : Str} (h0 : σ[10]? = some (some u)) (hx : x ∈ (["list", "first", "fails"] : List Str)) (hn : Nest i t) : Dr d l (fun H => Dv K (delH H d) u t) (tTup (tCons (tC (.str x)) (tCons (tVar 10) tNil))) σ 0 (fun H v => ∃ t', Dv K (delH H d) v t' ∧ Nest (i + 1) t') :=
  fun H N Q j t1 b q => ⟨_, h0, few (by show 2 ≤ 1000; decide), fun T nT => by
    obtain ⟨o, ho⟩ := t1.at.1
    exact q _ (.ref T) (But.new (fun _ _ _ z => z) nT) (t1.same (same_new same_id nT)) ⟨_, dvT (.cons (.str x) (.cons j .nil)) nT ho, .more hn hx⟩⟩
theorem nest_st {d : Addr} {K : PySem.W.Frag} {i : Nat} : ∀ H H' v, But d H H' → (∃ t', Dv K (delH H d) v t' ∧ Nest i t') → ∃ t', Dv K (delH H' d) v t' ∧ Nest i t' := fun _ _ _ b ⟨t', h, n⟩ => ⟨t', dvM (But.off b) h, n⟩
theorem nest_pick {d l : Addr} {K : PySem.W.Frag} {σ : L2.St} {u : V} {t : Dt} {i : Nat} (h1 : σ[1]? = some (some (.ref d))) (h0 : σ[10]? = some (some u)) (hn : Nest i t) : Dr d l (fun H => Dv K (delH H d) u t) (tCall spPick [] E0 (tCons (tVar 1) (tCons (tLst (tCons (tTup (tCons (tC (.str "list")) (tCons (tVar 10) tNil))) (tCons (tTup (tCons (tC (.str "first")) (tCons (tVar 10) tNil))) (tCons (tTup (tCons (tC (.str "fails")) (tCons (tVar 10) tNil))) tNil)))) tNil))) σ 1 (fun H v => ∃ t', Dv K (delH H d) v t' ∧ Nest (i + 1) t') := by
  have sj : Stb d (fun H => Dv K (delH H d) u t) := fun _ _ b h => dvM (But.off b) h
  exact dr_pick1 (m := 0) sj h1 nest_st (dal_cons sj nest_st (nest_step h0 (by decide) hn) (dal_cons sj nest_st (nest_step h0 (by decide) hn) (dal_cons sj nest_st (nest_step h0 (by decide) hn) dal_nil))) (by decide)
end Toy


namespace Toy
open PySem PySem.Spec L2 PyProof.Rows PySem.W
abbrev sLaw : Stmt := top 60
abbrev NLw : List Str := ["_law_script", "_law_tape", "_law_turn", "_law_keys", "_law_again", "_law_x", "_law_change", "_law_is_right", "_law_is_question", "_law_many", "_law_deep", "_law_letters", "_law_wide", "_law_k"]
theorem scLw : FnScope NLw ["_law_script"] (defScope sLaw) := ⟨rfl, rfl, rfl, by decide +kernel, rfl, by decide +kernel, by decide +kernel⟩
def spLaw (K : PySem.W.Frag) : Sp := fun vs H Q _ => ∃ (a : Addr) (ns : List Int), vs = [.ref a] ∧ SqL K H a (ns.map V.int) ∧ ns.length ≤ 63 ∧ ∀ H', Q (.bl true) H'
structure LawT (mg : Str → Option Value) : Prop where
  len : mg "len" = none
  range : mg "range" = none
  min : mg "min" = none
  repr : mg "repr" = none
  tuple : mg "tuple" = none
theorem wkey_eq (k : Nat) : ((⟨#[97 + k / 26]⟩ : Str) ++ (⟨#[97 + k % 26]⟩ : Str)) = wkey k := rfl
theorem nb3 : ∀ k : Fin 3, nb k.1 ≤ 200 := by decide
section
variable {P : Program} {w : World} {K : PySem.W.Frag} {mg : Str → Option Value} {base : Heap}
theorem body_law {f fB fD fP fF fT fC fSh fSo fBe fFo fOf fIF fIT fIW fIC : Addr} {dB dD dP dF dT dC dSh dSo dBe dFo dOf dIF dIT dIW dIC : FuncData} (L : LawT mg)
    (GB : FnOk P w K mg base CX0 1 fB dB ["_law_script"] (spBegin K)) (mB : mg "_law_begin" = some (.ref fB)) (kB : PySem.W.keepIn K (.ref fB) = true) (bB : Binds K dB ["_law_script"] [])
    (GD : FnOk P w K mg base CX0 1 fD dD ["_law_tape", "_law_many"] spDraw) (mD : mg "_law_draw" = some (.ref fD)) (kD : PySem.W.keepIn K (.ref fD) = true) (bD : Binds K dD ["_law_tape", "_law_many"] [])
    (GP : FnOk P w K mg base CX0 2 fP dP ["_law_tape", "_law_items"] spPick) (mP : mg "_law_pick" = some (.ref fP)) (kP : PySem.W.keepIn K (.ref fP) = true) (bP : Binds K dP ["_law_tape", "_law_items"] [])
    (GF : FnOk P w K mg base CX0 11 fF dF ["_law_tape", "_law_keys", "_law_deep"] (spFl K 4)) (mF : mg "_law_filter" = some (.ref fF)) (kF : PySem.W.keepIn K (.ref fF) = true) (bF : Binds K dF ["_law_tape", "_law_keys", "_law_deep"] [])
    (GT : FnOk P w K mg base CX0 7 fT dT ["_law_tape", "_law_keys", "_law_deep"] (spTm K gT 3)) (mT : mg "_law_test" = some (.ref fT)) (kT : PySem.W.keepIn K (.ref fT) = true) (bT : Binds K dT ["_law_tape", "_law_keys", "_law_deep"] [])
    (GC : FnOk P w K mg base CX0 7 fC dC ["_law_tape", "_law_keys", "_law_deep"] (spTm K gW 3)) (mC : mg "_law_chooser" = some (.ref fC)) (kC : PySem.W.keepIn K (.ref fC) = true) (bC : Binds K dC ["_law_tape", "_law_keys", "_law_deep"] [])
    (GSh : FnOk P w K mg base CX0 2 fSh dSh ["_law_tape", "_law_items"] spShuf) (mSh : mg "_law_shuffled" = some (.ref fSh)) (kSh : PySem.W.keepIn K (.ref fSh) = true) (bSh : Binds K dSh ["_law_tape", "_law_items"] [])
    (GSo : FnOk P w K mg base CX0 12 fSo dSo ["_law_tape", "_law_keys"] (spSome K)) (mSo : mg "_law_some" = some (.ref fSo)) (kSo : PySem.W.keepIn K (.ref fSo) = true) (bSo : Binds K dSo ["_law_tape", "_law_keys"] [])
    (GBe : FnOk P w K mg base CX0 20 fBe dBe ["_law_tape", "_law_x", "_law_some_here"] (spBent K 17)) (mBe : mg "_law_bent" = some (.ref fBe)) (kBe : PySem.W.keepIn K (.ref fBe) = true) (bBe : Binds K dBe ["_law_tape", "_law_x", "_law_some_here"] [])
    (GFo : FnOk P w K mg base CX0 46 fFo dFo ["_law_x", "_law_of_filters"] (spForm K 21)) (mFo : mg "_law_is_form" = some (.ref fFo)) (kFo : PySem.W.keepIn K (.ref fFo) = true) (bFo : Binds K dFo ["_law_x", "_law_of_filters"] [])
    (GOf : FnOk P w K mg base CX0 24 fOf dOf ["_law_term", "_law_slot"] (spOf K 21)) (mOf : mg "_law_is_of" = some (.ref fOf)) (kOf : PySem.W.keepIn K (.ref fOf) = true) (bOf : Binds K dOf ["_law_term", "_law_slot"] [])
    (GIF : FnOk P w K mg base CX0 6 fIF dIF ["value"] (spIK K "filter")) (mIF : mg "is_filter" = some (.ref fIF)) (kIF : PySem.W.keepIn K (.ref fIF) = true) (bIF : Binds K dIF ["value"] [])
    (GIT : FnOk P w K mg base CX0 6 fIT dIT ["value"] (spIK K "test")) (mIT : mg "is_test" = some (.ref fIT)) (kIT : PySem.W.keepIn K (.ref fIT) = true) (bIT : Binds K dIT ["value"] [])
    (GIW : FnOk P w K mg base CX0 6 fIW dIW ["term"] (spIK K "walk")) (mIW : mg "is_walk" = some (.ref fIW)) (kIW : PySem.W.keepIn K (.ref fIW) = true) (bIW : Binds K dIW ["term"] [])
    (GIC : FnOk P w K mg base CX0 6 fIC dIC ["term"] (spIK K "chooser")) (mIC : mg "is_chooser" = some (.ref fIC)) (kIC : PySem.W.keepIn K (.ref fIC) = true) (bIC : Binds K dIC ["term"] []) :
    BodyOk P w K mg base 46 NLw "law" (defScope sLaw) (defBody sLaw) f (spLaw K) := by
  intro cdv s H vs Q E hr h
  obtain ⟨a, ns, rfl, hS, hlen, q⟩ := h
  have hr1 : Room 1 (callerA.deeper (PyProof.Rows.envOfC "law" (defScope sLaw) s.heap.objs.size f cdv)) := hr.mono (by decide)
  have hr2 : Room 2 (callerA.deeper (PyProof.Rows.envOfC "law" (defScope sLaw) s.heap.objs.size f cdv)) := hr.mono (by decide)
  have hr6 : Room 6 (callerA.deeper (PyProof.Rows.envOfC "law" (defScope sLaw) s.heap.objs.size f cdv)) := hr.mono (by decide)
  have hr7 : Room 7 (callerA.deeper (PyProof.Rows.envOfC "law" (defScope sLaw) s.heap.objs.size f cdv)) := hr.mono (by decide)
  have hr11 : Room 11 (callerA.deeper (PyProof.Rows.envOfC "law" (defScope sLaw) s.heap.objs.size f cdv)) := hr.mono (by decide)
  have hr12 : Room 12 (callerA.deeper (PyProof.Rows.envOfC "law" (defScope sLaw) s.heap.objs.size f cdv)) := hr.mono (by decide)
  have hr20 : Room 20 (callerA.deeper (PyProof.Rows.envOfC "law" (defScope sLaw) s.heap.objs.size f cdv)) := hr.mono (by decide)
  have hr24 : Room 24 (callerA.deeper (PyProof.Rows.envOfC "law" (defScope sLaw) s.heap.objs.size f cdv)) := hr.mono (by decide)
  refine ⟨_, PSs.nox (pss_cons (ps_set (i := 1) scLw.nd rfl (Or.inl rfl) (pe_call GB hr1 (by rfl) mB kB bB .nil pass0 (pa_cons (pv 0) pa_nil)))
    (pss_cons (ps_for PassesOwn.never rfl (pi_range1 (by rfl) L.range (pa_cons (pe_op op_add pe_int (pe_callB (call_min2 rfl) (by rfl) L.min (by decide +kernel) (pa_cons pe_int (pa_cons (pe_callB call_len_seq (by rfl) L.len PySem.boot_len (pa_cons (pv 0) pa_nil)) pa_nil)))) pa_nil)) (pg_name (i := 2) scLw.nd rfl (Or.inl rfl))
      (pss_cons (ps_set (i := 3) scLw.nd rfl (Or.inl rfl) (pe_call GSh hr2 (by rfl) mSh kSh bSh .nil pass0 (pa_cons (pv 1) (pa_cons (pe_lst (pa_cons pe_str (pa_cons pe_str (pa_cons pe_str (pa_cons pe_str pa_nil))))) pa_nil))))
      (pss_one (ps_for PassesOwn.never rfl (pi_range1 (by rfl) L.range (pa_cons pe_int pa_nil)) (pg_name (i := 4) scLw.nd rfl (Or.inl rfl))
        (pss_cons (ps_set (i := 5) scLw.nd rfl (Or.inl rfl) (pe_call GP hr2 (by rfl) mP kP bP .nil pass0 (pa_cons (pv 1) (pa_cons (pe_lst (pa_cons (pe_call GF hr11 (by rfl) mF kF bF .nil pass0 (pa_cons (pv 1) (pa_cons (pv 3) (pa_cons (pe_call GD hr1 (by rfl) mD kD bD .nil pass0 (pa_cons (pv 1) (pa_cons pe_int pa_nil))) pa_nil))))
            (pa_cons (pe_call GT hr7 (by rfl) mT kT bT .nil pass0 (pa_cons (pv 1) (pa_cons (pv 3) (pa_cons (pe_call GD hr1 (by rfl) mD kD bD .nil pass0 (pa_cons (pv 1) (pa_cons pe_int pa_nil))) pa_nil))))
            (pa_cons (pe_call GC hr7 (by rfl) mC kC bC .nil pass0 (pa_cons (pv 1) (pa_cons (pv 3) (pa_cons pe_int pa_nil)))) pa_nil)))) pa_nil))))
        (pss_cons (ps_for PassesOwn.never rfl (pi_range1 (by rfl) L.range (pa_cons (pe_call GD hr1 (by rfl) mD kD bD .nil pass0 (pa_cons (pv 1) (pa_cons pe_int pa_nil))) pa_nil)) (pg_name (i := 6) scLw.nd rfl (Or.inl rfl))
          (pss_one (ps_set (i := 5) scLw.nd rfl (Or.inl rfl) (pe_call GBe hr20 (by rfl) mBe kBe bBe .nil pass0 (pa_cons (pv 1) (pa_cons (pv 5) (pa_cons (pe_call GSo hr12 (by rfl) mSo kSo bSo .nil pass0 (pa_cons (pv 1) (pa_cons (pv 3) pa_nil))) pa_nil)))))))
        (pss_cons (ps_par (i := 7) (j := 8) rfl scLw.nd rfl rfl (by decide) rfl rfl (pa_cons (pe_call GFo hr (by rfl) mFo kFo bFo .nil pass0 (pa_cons (pv 5) (pa_cons pe_bl pa_nil))) (pa_cons (pe_call GFo hr (by rfl) mFo kFo bFo .nil pass0 (pa_cons (pv 5) (pa_cons pe_bl pa_nil))) pa_nil)) (by rfl))
        (pss_cons (ps_if (PW.pt (pw_or (pt_cmpR op_ne (pe_callB call_reB (by rfl) L.repr (by decide +kernel) (pa_cons (pe_call GIF hr6 (by rfl) mIF kIF bIF .nil pass0 (pa_cons (pv 5) pa_nil)) pa_nil)) (pe_callB call_reB (by rfl) L.repr (by decide +kernel) (pa_cons (pv 7) pa_nil)) (nomark _))
            (pw_or1 (pt_cmpR op_ne (pe_callB call_reB (by rfl) L.repr (by decide +kernel) (pa_cons (pe_call GIT hr6 (by rfl) mIT kIT bIT .nil pass0 (pa_cons (pv 5) pa_nil)) pa_nil)) (pe_callB call_reB (by rfl) L.repr (by decide +kernel) (pa_cons (pv 8) pa_nil)) (nomark _))))) (pss_one (ps_ret pe_bl)) pss_nil)
        (pss_one (ps_if (PW.pt (pw_and (pt_val (pv 7)) (pw_and1 (pt_cmpR (op_neP hr.units) (pe_tup (pa_cons (pe_call GIW hr6 (by rfl) mIW kIW bIW .nil pass0 (pa_cons (pv 5) pa_nil)) (pa_cons (pe_call GIC hr6 (by rfl) mIC kIC bIC .nil pass0 (pa_cons (pv 5) pa_nil)) pa_nil)))
            (pe_tup (pa_cons (pe_call GOf hr24 (by rfl) mOf kOf bOf .nil pass0 (pa_cons (pv 5) (pa_cons pe_str pa_nil))) (pa_cons (pe_call GOf hr24 (by rfl) mOf kOf bOf .nil pass0 (pa_cons (pv 5) (pa_cons pe_str pa_nil))) pa_nil))) (nomark _))))) (pss_one (ps_ret pe_bl)) pss_nil))))))))))
    (pss_cons (ps_asg (pe_tup (pa_cons (pe_call GD hr1 (by rfl) mD kD bD .nil pass0 (pa_cons (pv 1) (pa_cons pe_int pa_nil))) (pa_cons (pe_tup (pa_cons pe_str pa_nil)) (pa_cons pe_str pa_nil)))) (pg_tup (by rfl) (pgs_cons (pg_name (i := 9) scLw.nd rfl (.inl rfl)) (pgs_cons (pg_name (i := 10) scLw.nd rfl (.inl rfl)) (pgs_cons (pg_name (i := 11) scLw.nd rfl (.inr rfl)) pgs_nil)))))
    (pss_cons (ps_setLc (i := 12) (own := [("_law_k", 13)]) (g := gName 13) (te := tTup (tCons (tOp (fun x y H Q => ∃ i j, x = .str i ∧ y = .str j ∧ i.length + j.length ≤ sizeLine ∧ Q (.str (i ++ j)) H) (tOp rIxS (tVar 11) (tOp (rI CDiv fun i j => .int (i / j)) (tVar 13) (tC (.int 26)))) (tOp rIxS (tVar 11) (tOp (rI (fun _ j => 0 < j) fun i j => .int (i % j)) (tVar 13) (tC (.int 26))))) (tCons (tTup (tCons (tC (.str "same")) tNil)) tNil))) (by rfl) scLw.nd rfl rfl (sw_true rfl rfl rfl (by decide +kernel)) (pi_range1 (by rfl) L.range (pa_cons pe_int pa_nil))
        (blkOk_by (own := [("_law_k", 13)]) (N := NLw) (sc := defScope sLaw) (by decide +kernel)) (fun _ _ _ _ _ => by exact (pg_name (i := 13) scLw.nd rfl (Or.inl rfl))) (fun _ _ _ _ _ => pts_nil)
        (fun _ _ _ _ _ => pe_tup (pa_cons (pe_op op_add_str (pe_ix ix_str (pv 11) (pe_op op_fdiv (pv 13) pe_int) (fun _ _ => rfl)) (pe_ix ix_str (pv 11) (pe_op op_mod (pv 13) pe_int) (fun _ _ => rfl))) (pa_cons (pe_tup (pa_cons pe_str pa_nil)) pa_nil))))
    (pss_cons (ps_for PassesOwn.never rfl (pi_range1 (by rfl) L.range (pa_cons (pe_op op_add pe_int (pv 9)) pa_nil)) (pg_name (i := 13) scLw.nd rfl (Or.inl rfl))
      (pss_one (ps_set (i := 10) scLw.nd rfl (Or.inl rfl) (pe_call GP hr2 (by rfl) mP kP bP .nil pass0 (pa_cons (pv 1) (pa_cons (pe_lst (pa_cons (pe_tup (pa_cons pe_str (pa_cons (pv 10) pa_nil))) (pa_cons (pe_tup (pa_cons pe_str (pa_cons (pv 10) pa_nil))) (pa_cons (pe_tup (pa_cons pe_str (pa_cons (pv 10) pa_nil))) pa_nil)))) pa_nil))))))
    (pss_cons (ps_if (PW.pt (pw_or (pt_val (pe_call GIF hr6 (by rfl) mIF kIF bIF .nil pass0 (pa_cons (pe_tup (pa_cons pe_str (pa_cons (pe_callTy call_tuple_of (by rfl) L.tuple (by decide +kernel) (pa_cons (pv 12) pa_nil)) pa_nil))) pa_nil)))
        (pw_or1 (pt_not (pt_val (pe_call GIF hr6 (by rfl) mIF kIF bIF .nil pass0 (pa_cons (pe_tup (pa_cons pe_str (pa_cons (pe_callTy call_tuple_of (by rfl) L.tuple (by decide +kernel) (pa_cons (pe_slice sl_list (pv 12) (po_some pe_int) po_none) pa_nil)) pa_nil))) pa_nil))))))) (pss_one (ps_ret pe_bl)) pss_nil)
    (pss_one (ps_ret (pe_cmpR op_eq (pe_call GIF hr6 (by rfl) mIF kIF bIF .nil pass0 (pa_cons (pv 10) pa_nil)) (pe_cmpR op_lt (pv 9) pe_int (nomark _)) (nomark _)))))))))), ?_⟩
  refine ⟨_, rfl, a, ns, rfl, hS, hlen, fun H1 d l s1 n_d n_l nld hT => ?_⟩
  refine ⟨_, rfl, a, _, rfl, .inl (s1.seq hS), _, _, rfl, _, _, rfl, rfl, _, rfl, ?_⟩
  generalize hnn : (4 + if (((ns.map V.int).length : Nat) : Int) < 4 then (((ns.map V.int).length : Nat) : Int) else 4) = nn
  have hn10 : 4 ≤ nn ∧ nn ≤ 8 := by
    rw [← hnn]
    split <;> omega
  refine ⟨by omega, by omega, ?_⟩
  have nd_ : ∀ {Hx : Hp} {n : Nat}, Tape Hx d l n → ∀ {T : Addr}, Hx T = none → T ≠ d := fun t T e => by
    obtain ⟨o, ho⟩ := t.at.1
    exact (ne_of_none ho e).symm
  refine for_range (lo := 0) (n := nn.toNat) (fun i σ H' => ∃ v2 v3 v4 v5 v6 v7 v8 : Option V, σ = [some (.ref a), some (.ref d), v2, v3, v4, v5, v6, v7, v8, none, none, none, none, none] ∧ Tape H' d l (41000 * i)) ⟨none, none, none, none, none, none, none, rfl, hT⟩ ?_ ?_
  · rintro i σ Ha hi ⟨v2, v3, v4, v5, v6, v7, v8, rfl, ta⟩
    have hi8 : i ≤ 7 := by omega
    refine ⟨_, rfl, few (by show 4 ≤ 1000; decide), fun kp nkp => ⟨d, l, kp, 41000 * i, keys4, rfl, ta.same (same_new same_id nkp), by omega, upd_same, by decide, by decide +kernel, fun Hs R ys b1 t1 nR hR hp => ?_⟩⟩
    have hne : R ≠ d := nd_ (ta.same (same_new same_id nkp)) nR
    have hk : KeysOk ys := keys_perm hp keys4_ok
    have sj : Stb d (JK R ys) := stb_list hne
    have t1 : Tape Hs d l (41000 * i + 4) := t1
    refine ⟨_, rfl, by omega, by omega, ?_⟩
    refine for_range (lo := 0) (n := 8) (fun j σ H' => ∃ v4 v5 v6 v7 v8 : Option V, σ = [some (.ref a), some (.ref d), some (.int (0 + (i : Int))), some (.ref R), v4, v5, v6, v7, v8, none, none, none, none, none] ∧ Tape H' d l (41000 * i + 4 + 5000 * j) ∧ H' R = some (.lst (ys.map V.str))) ⟨v4, v5, v6, v7, v8, rfl, t1, hR⟩ ?_ ?_
    · rintro j σ Hb hj ⟨w4, w5, w6, w7, w8, rfl, tb, hRb⟩
      have hj7 : j ≤ 7 := by omega
      generalize hN : 41000 * i + 4 + 5000 * j = N0 at tb
      dsimp only
      refine asg_run (dr_x (R := R) (ys := ys) rfl rfl hk sj Hb N0 _ hRb tb (by omega) fun Hc x b2 tc fx => ?_)
      have hRc := b2 _ _ hne hRb
      have fx0 : FX K d Hc 0 x := by
        obtain ⟨t, h1, h2, h3, h4⟩ := fx
        exact ⟨t, h1, h2, by omega, h4⟩
      refine ⟨_, rfl, d, l, N0 + 1893, 3, rfl, tc, by omega, by decide, by decide, fun Hd r b3 td r0 r3 => ⟨_, rfl, by omega, by omega, ?_⟩⟩
      refine for_range (lo := 0) (n := r.toNat) (fun c σ H' => ∃ (v6 : Option V) (x' : V), σ = [some (.ref a), some (.ref d), some (.int (0 + (i : Int))), some (.ref R), some (.int (0 + (j : Int))), some x', v6, w7, w8, none, none, none, none, none] ∧ FX K d H' c x' ∧ Tape H' d l (N0 + 1894 + 351 * c) ∧ H' R = some (.lst (ys.map V.str))) ⟨w6, x, rfl, fx0.but b3, td, b3 _ _ hne hRc⟩ ?_ ?_
      · rintro c σ He hc ⟨v6, x', rfl, ⟨t, p1, p2, p3, p4⟩, te, hRe⟩
        have hc2 : c < 2 := by omega
        refine ⟨_, rfl, _, rfl, _, rfl, _, rfl, d, l, R, N0 + 1894 + 351 * c, ys, rfl, te, by omega, hRe, hk, fun Hf L us b4 tf hL hun hlen' hus => ?_⟩
        refine ⟨d, l, L, N0 + 1894 + 351 * c + 300, 5 + c, x', t, us, by omega, rfl, tf, by omega, dvM (But.off b4) p1, p4, by omega, by omega, hL, hun, hlen', hus, fun Hg v b5 tg hbe => ?_⟩
        obtain ⟨t', e1, e2, e3, e4⟩ := hbe
        exact ⟨_, v, rfl, ⟨t', e1, by show nd t' ≤ 2 * nb c + 8; omega, by omega, e4⟩, tg.more (by omega), b5 _ _ hne (b4 _ _ hne hRe)⟩
      · rintro σ Hh ⟨v6, x', rfl, ⟨t, p1, p2, p3, p4⟩, th, hRh⟩
        have hnd : nd t ≤ 200 := Nat.le_trans p2 (nb3 ⟨r.toNat, by omega⟩)
        have hdep : dep t ≤ 21 := by omega
        have hok : okd 300 t = true := okd_mono (by omega) t p4
        have hx : Dv K Hh x' t := dvM del_same p1
        obtain ⟨e1, e2, e3, e4⟩ := fine_fl hnd hdep
        have hbig : spo 22 t ≤ 10000000 := spo_big (c := 300) hok (by omega)
        refine ⟨_, rfl, x', true, t, rfl, hx, hdep, hok, fun Hi si => ⟨_, rfl, x', false, t, rfl, dvM si hx, hdep, hok, fun Hj sj2 => ⟨_, _, rfl, ?_⟩⟩⟩
        have sij : Same Hh Hj := si.trans sj2
        have fin : ∀ H', Same Hh H' → ∃ v4 v5 v6' v7 v8 : Option V, [some (.ref a), some (.ref d), some (.int (0 + (i : Int))), some (.ref R), some (.int (0 + (j : Int))), some x', v6, some (.bl (frm 21 true t)), some (.bl (frm 21 false t)), none, none, none, none, none] = [some (.ref a), some (.ref d), some (.int (0 + (i : Int))), some (.ref R), v4, v5, v6', v7, v8, none, none, none, none, none] ∧ Tape H' d l (41000 * i + 4 + 5000 * (j + 1)) ∧ H' R = some (.lst (ys.map V.str)) := fun H' s => ⟨_, _, _, _, _, rfl, (th.same s).more (by omega), s _ _ hRh⟩
        refine ⟨_, rfl, x', 22, t, rfl, dvM sij hx, hok, by omega, hbig, fun Hk sk => ⟨_, rfl, _, rfl, _, rfl, rfl, _, rfl, ite2 (fun z => absurd z (by rw [e1, decide_eq_true rfl]; decide)) (fun _ => ?_)⟩⟩
        have sik := sij.trans sk
        refine ⟨_, rfl, x', 22, t, rfl, dvM sik hx, hok, by omega, hbig, fun Hl sl => ⟨_, rfl, _, rfl, _, rfl, rfl, _, rfl, ite2 (fun z => absurd z (by rw [e2, decide_eq_true rfl]; decide)) (fun _ => ?_)⟩⟩
        have sil := sik.trans sl
        refine ⟨_, rfl, _, rfl, ite2 (fun right => ?_) (fun _ => ?_)⟩
        · have hr' : frm 21 true t = true := right
          have w3 : fine [(22, "walk", t, 1)] 1 = iso 21 false t := by rw [e3, hr', Bool.true_and]
          have w4 : fine [(22, "chooser", t, 1)] 1 = iso 21 true t := by rw [e4, hr', Bool.true_and]
          refine ⟨_, rfl, x', 22, t, rfl, dvM sil hx, hok, by omega, hbig, fun Hm sm => ⟨_, rfl, x', 22, t, rfl, dvM (sil.trans sm) hx, hok, by omega, hbig, fun Hn sn => ⟨few (by show 2 ≤ 1000; decide), fun T1 nT1 => ?_⟩⟩⟩
          rw [w3, w4]
          have sT : Same Hh (upd Hn T1 (.tup [.bl (iso 21 false t), .bl (iso 21 true t)])) := same_new ((sil.trans sm).trans sn) nT1
          have gT1 : (upd Hn T1 (.tup [.bl (iso 21 false t), .bl (iso 21 true t)])) T1 = some (.tup [.bl (iso 21 false t), .bl (iso 21 true t)]) := upd_same
          generalize upd Hn T1 (.tup [.bl (iso 21 false t), .bl (iso 21 true t)]) = Hq at sT gT1 ⊢
          refine ⟨_, rfl, x', 119, t, rfl, .inl rfl, dvM sT hx, hdep, hok, hr', fun Ho so => ⟨_, rfl, x', 99, t, rfl, .inr rfl, dvM (sT.trans so) hx, hdep, hok, hr', fun Hp' sp => ⟨few (by show 2 ≤ 1000; decide), fun T2 nT2 => ?_⟩⟩⟩
          have s2 := same_new (u := HO.tup [V.bl (iso 21 false t), V.bl (iso 21 true t)]) (so.trans sp) nT2
          exact ⟨T1, T2, iso 21 false t, iso 21 true t, rfl, rfl, SqT.of (s2 _ _ gT1), SqT.of upd_same, _, rfl, ite2 (fun z => absurd z (by decide)) (fun _ => fin _ (sT.trans s2))⟩
        · exact fin Hl sil
    · rintro σ Hb ⟨w4, w5, w6, w7, w8, rfl, tb, hRb⟩
      exact ⟨_, _, _, _, _, _, _, rfl, tb.more (by omega)⟩
  · rintro σ Ha ⟨v2, v3, v4, v5, v6, v7, v8, rfl, ta⟩
    refine ⟨_, rfl, d, l, 41000 * nn.toNat, 3, rfl, ta, by omega, by decide, by decide, fun Hb r b1 tb r0 r3 => ⟨few (by show 1 ≤ 1000; decide), fun T0 nT0 => ⟨few (by show 3 ≤ 1000; decide), fun TT nTT => ⟨TT, _, rfl, SqT.of upd_same, rfl, _, _, rfl, _, _, rfl, _, _, rfl, rfl, ?_⟩⟩⟩⟩
    generalize hN : 41000 * nn.toNat + 1 = N0 at tb
    have hN' : N0 ≤ 328001 := by omega
    have dT0 : T0 ≠ d := nd_ tb nT0
    have s0 : Same Hb (upd Hb T0 (.tup [.str "same"])) := same_new same_id nT0
    have gT0 : (upd Hb T0 (.tup [.str "same"])) T0 = some (.tup [.str "same"]) := upd_same
    generalize upd Hb T0 (.tup [.str "same"]) = Hb2 at s0 gT0 nTT ⊢
    have sTT : Same Hb2 (upd Hb2 TT (.tup [.int r, .ref T0, .str "abcdefghijklmnopqrstuvwxyz"])) := same_new same_id nTT
    generalize upd Hb2 TT (.tup [.int r, .ref T0, .str "abcdefghijklmnopqrstuvwxyz"]) = Hx at sTT ⊢
    have tx := (tb.same s0).same sTT
    have hu : Dv K (delH Hx d) (.ref T0) sameD := .tup (SqT.of ((delH_ne dT0).trans (sTT _ _ gT0))) (.cons (.str _) .nil)
    refine ⟨_, rfl, by decide, by decide, fun D nD => ?_⟩
    have hDd : D ≠ d := nd_ tx nD
    have putD : ∀ {H : Hp} {u : HO}, Same Hx H → Same Hx (upd H D u) := fun {H u} s b o e => by
      rw [upd_ne (ne_of_none e nD)]
      exact s b o e
    refine lc_range (lo := 0) (n := 200) (fun i H' => ∃ acc : List V, H' D = some (.lst acc) ∧ acc.length = i ∧ Same Hx H' ∧ DvL K (delH (delH H' d) D) acc (wideL 0 i)) ⟨[], upd_same, rfl, putD same_id, .nil⟩ ?_ ?_
    · rintro i H3 hi ⟨acc, hD3, lacc, s3, hw⟩
      have hi200 : i < 200 := hi
      have q1 : (0 + (i : Int)) / 26 = ((i / 26 : Nat) : Int) := by omega
      have q2 : (0 + (i : Int)) % 26 = ((i % 26 : Nat) : Int) := by omega
      obtain ⟨o2, hd3⟩ := (tx.same s3).at.1
      refine ⟨rfl, _, rfl, _, rfl, _, _, rfl, rfl, ⟨by decide, by decide⟩, _, _, _, rfl, rfl, few (by decide), (by rw [q1]; exact wide_get _ (by omega)), ?_⟩
      refine ⟨_, rfl, _, rfl, _, _, rfl, rfl, (by show (0 : Int) < 26; decide), _, _, _, rfl, rfl, few (by decide), (by rw [q2]; exact wide_get _ (by omega)), ?_⟩
      refine ⟨_, _, rfl, rfl, few (by show 2 ≤ 1000; decide), few (by show 1 ≤ 1000; decide), fun S nS => ⟨few (by show 2 ≤ 1000; decide), fun T nT => ?_⟩⟩
      have sS : Same H3 (upd H3 S (.tup [.str "same"])) := same_new same_id nS
      have gS : Dv K (delH (delH (upd H3 S (.tup [.str "same"])) d) D) (.ref S) sameD := dvT2 (.cons (.str _) .nil) nS hD3 hd3
      rw [wkey_eq] at *
      generalize upd H3 S (.tup [.str "same"]) = H4 at sS gS nT ⊢
      have sT : Same H4 (upd H4 T (.tup [.str (wkey i), .ref S])) := same_new same_id nT
      have gT := dvT2 (K := K) (.cons (.str (wkey i)) (.cons gS .nil)) nT (sS _ _ hD3) (sS _ _ hd3)
      generalize upd H4 T (.tup [.str (wkey i), .ref S]) = H5 at sT gT ⊢
      have sST := sS.trans sT
      refine ⟨acc, sST _ _ hD3, small1000 (by omega), acc ++ [.ref T], upd_same, by rw [List.length_append, lacc]; rfl, putD (s3.trans sST), ?_⟩
      rw [delH2_upd, wide_snoc, Nat.zero_add]
      exact dvl_app (dvLM (Same.delH (Same.delH sST d) D) hw) (.cons gT .nil)
    · rintro Hy ⟨acc, hDy, lacc, sy, hw⟩
      have ty := tx.same sy
      refine ⟨_, rfl, _, _, rfl, rfl, _, rfl, by omega, by omega, ?_⟩
      refine for_range (lo := 0) (n := (38 + r).toNat) (fun c σ H' => ∃ (v13 : Option V) (u : V) (t : Dt), σ = [some (.ref a), some (.ref d), v2, v3, v4, v5, v6, v7, v8, some (.int r), some u, some (.str "abcdefghijklmnopqrstuvwxyz"), some (.ref D), v13] ∧ Tape H' d l (N0 + c) ∧ H' D = some (.lst acc) ∧ DvL K (delH (delH H' d) D) acc (wideL 0 200) ∧ Dv K (delH H' d) u t ∧ Nest c t) ⟨none, .ref T0, sameD, rfl, ty, hDy, hw, dvM (Same.delH sy d) hu, .same⟩ ?_ ?_
      · rintro c σ Hz hc ⟨v13, u, t, rfl, tz, hDz, hwz, huz, hn⟩
        exact nest_pick rfl rfl hn Hz (N0 + c) _ huz tz (by omega) fun Hq v bq tq ⟨t', f1, f2⟩ => ⟨_, v, t', rfl, tq, bq _ _ hDd hDz, dvLM (Same.delH (But.off bq) D) hwz, f1, f2⟩
      · rintro σ Hz ⟨v13, u, t, rfl, tz, hDz, hwz, huz, hn⟩
        have hwH : DvL K Hz acc (wideL 0 200) := dvLM (fun b o e => del_same _ _ (del_same _ _ e)) hwz
        have huH : Dv K Hz u t := dvM del_same huz
        refine ⟨_, rfl, D, acc, rfl, .inl ⟨SqL.of hDz, fun l1 nl1 => ⟨few (by show 2 ≤ 1000; decide), fun T1 nT1 => ?_⟩⟩⟩
        have sa : Same Hz (upd (upd Hz l1 (.tup acc)) T1 (.tup [.str "dict", .ref l1])) := same_new (same_new same_id nl1) nT1
        have g1 : (upd (upd Hz l1 (.tup acc)) T1 (.tup [.str "dict", .ref l1])) l1 = some (.tup acc) := (upd_ne (ne_of_none upd_same nT1)).trans upd_same
        have g2 : (upd (upd Hz l1 (.tup acc)) T1 (.tup [.str "dict", .ref l1])) T1 = some (.tup [.str "dict", .ref l1]) := upd_same
        generalize upd (upd Hz l1 (.tup acc)) T1 (.tup [.str "dict", .ref l1]) = H5 at sa g1 g2 ⊢
        obtain ⟨k1, k2, k3, k4, k5, k6⟩ := wide_okd
        refine ⟨.ref T1, 5, wideD 0 200, rfl, .tup (SqT.of g2) (.cons (.str _) (.cons (.tup (SqT.of g1) (dvLM sa hwH)) .nil)), k1, k3, spo_big k1 (by omega), fun H6 s6 => ⟨_, rfl, ite2 (fun z => absurd z (by rw [wide_no]; decide)) (fun _ => ?_)⟩⟩
        have s06 := sa.trans s6
        have hD6 := s06 _ _ hDz
        have ecut : cutV acc (some (1 : Int)) none = acc.drop 1 := cut_tail (i := 1) (by omega)
        refine ⟨_, rfl, _, rfl, D, acc, rfl, SqL.of hD6, ?_⟩
        rw [ecut]
        refine fun p np => ⟨p, _, rfl, .inl ⟨SqL.of upd_same, fun l2 nl2 => ⟨few (by show 2 ≤ 1000; decide), fun T2 nT2 => ?_⟩⟩⟩
        have s7 : Same H6 (upd H6 p (.lst (acc.drop 1))) := same_new same_id np
        generalize upd H6 p (.lst (acc.drop 1)) = H7 at s7 nl2 nT2 ⊢
        have sb : Same H7 (upd (upd H7 l2 (.tup (acc.drop 1))) T2 (.tup [.str "dict", .ref l2])) := same_new (same_new same_id nl2) nT2
        have g3 : (upd (upd H7 l2 (.tup (acc.drop 1))) T2 (.tup [.str "dict", .ref l2])) l2 = some (.tup (acc.drop 1)) := (upd_ne (ne_of_none upd_same nT2)).trans upd_same
        have g4 : (upd (upd H7 l2 (.tup (acc.drop 1))) T2 (.tup [.str "dict", .ref l2])) T2 = some (.tup [.str "dict", .ref l2]) := upd_same
        generalize upd (upd H7 l2 (.tup (acc.drop 1))) T2 (.tup [.str "dict", .ref l2]) = H8 at sb g3 g4 ⊢
        have s08 := (s06.trans s7).trans sb
        have hdr : DvL K H8 (acc.drop 1) (wideL 1 199) := by
          rw [← wide_drop]
          exact dvl_drop 1 (dvLM s08 hwH)
        refine ⟨.ref T2, 5, wideD 1 199, rfl, .tup (SqT.of g4) (.cons (.str _) (.cons (.tup (SqT.of g3) hdr) .nil)), k2, k4, spo_big k2 (by omega), fun H9 s9 => ⟨_, rfl, ite2 (fun z => absurd z (by rw [wide_yes]; decide)) (fun _ => ?_)⟩⟩
        obtain ⟨m1, m2, m3, m4, m5, m6⟩ := nest_all hn
        have hoku : okd 300 t = true := okd_mono (by decide) t m6
        generalize hm : (38 + r).toNat = m at *
        refine ⟨_, rfl, u, m + 2, t, rfl, dvM (s08.trans s9) huH, hoku, by omega, spo_big hoku (by omega), fun H10 s10 => ⟨_, rfl, _, _, rfl, rfl, rfl, ?_⟩⟩
        have ee : decide (V.bl (fine [(m + 2, "filter", t, 1)] 1) = V.bl (decide (r < 2))) = true := by
          rw [nest_fine2 hn]
          exact decide_eq_true (congrArg V.bl (decide_eq_decide.mpr ⟨by omega, by omega⟩))
        rw [ee]
        exact q H10
end
end Toy


namespace Toy
open PySem PySem.Spec PyProof.Rows L2
/-! ### the head: what the top has written, as one answer -/
def wordOf : Value → Option Str
  | .str x _ => some x
  | _ => none
theorem words_vals : ∀ {us : List Value} {xs : List Str}, us.map wordOf = xs.map some → Vals (xs.map V.str) us
  | [], [], _ => .nil
  | [], _ :: _, h => by simp at h
  | _ :: _, [], h => by simp at h
  | u :: us, x :: xs, h => by
    simp only [List.map_cons, List.cons.injEq] at h
    refine .cons ?_ (words_vals h.2)
    cases u with
    | str y t =>
      obtain rfl := Option.some.inj h.1
      exact ⟨t, rfl⟩
    | _ => simp [wordOf] at h
def tupB (K : PySem.W.Frag) (a : Addr) (xs : List Str) : Bool := match K.lookup a with
  | some ⟨cls, none, .seq vs _, _⟩ => cls == .type "tuple" && decide (vs.toList.map wordOf = xs.map some)
  | _ => false
def tupB2 (K : PySem.W.Frag) (v : Value) (xs : List Str) : Bool := match v with
  | .ref a => tupB K a xs
  | _ => false
theorem tupB_ok {K : PySem.W.Frag} {a : Addr} {xs : List Str} (h : tupB K a xs = true) (hz : xs.length ≤ 1000) : TupK K a xs := by
  unfold tupB at h
  split at h
  · rename_i cls vs n sl e
    rw [Bool.and_eq_true] at h
    have h2 := of_decide_eq_true h.2
    have hl : vs.toList.length = xs.length := by
      have := congrArg List.length h2
      simpa using this
    have hc : cls = .type "tuple" := eq_of_beq h.1
    exact fun H => .inr ⟨_, vs, n, e, hc, rfl, few (by rw [← Array.length_toList]; omega), words_vals h2⟩
  · cases h
def keysB (K : PySem.W.Frag) (d : Addr) (ks : List Str) : Bool := match K.lookup d with
  | some ⟨_, _, .dict es _, _⟩ => es.toList.all fun e => !e.refKey && (match e.key with
    | .str y _ => decide (y ∈ ks)
    | _ => true)
  | _ => false
theorem keysB_ok {K : PySem.W.Frag} {d : Addr} {ks : List Str} (h : keysB K d ks = true) {x : Str} (hx : x ∉ ks) : PySem.W.nsIn K d x = some none := by
  unfold keysB at h
  unfold PySem.W.nsIn
  split at h
  · rename_i es n sl e
    rw [List.all_eq_true] at h
    have h1 : es.toList.find? (·.key.isStr x) = none := by
      rw [List.find?_eq_none]
      intro e he hs
      have z := h e he
      rw [Bool.and_eq_true] at z
      cases hk : e.key with
      | str y t =>
        rw [hk] at hs
        have e2 : y = x := eq_of_beq hs
        have z2 := z.2
        rw [hk] at z2
        exact hx (e2 ▸ of_decide_eq_true z2)
      | _ => rw [hk] at hs; cases hs
    have h2 : es.toList.any (·.refKey) = false := by
      rw [List.any_eq_false]
      intro e he
      have z := h e he
      rw [Bool.and_eq_true] at z
      have z1 := z.1
      intro q
      rw [q] at z1
      cases z1
    rw [e]
    simp only [h1, h2]
    rfl
  · cases h
theorem form_not {x : Str} (h : formOf x = none) : x ∉ formsL.map (·.1) := by
  intro hm
  obtain ⟨p, hp, rfl⟩ := List.mem_map.mp hm
  have : (formsL.lookup p.1).isSome = true := by
    have : ∀ p ∈ formsL, (formsL.lookup p.1).isSome = true := by decide +kernel
    exact this p hp
  rw [show formsL.lookup p.1 = none from h] at this
  cases this
def exB (K : PySem.W.Frag) : Bool := tupB K (He.ga K "PART_KINDS") kinds4 && (tupB K (He.ga K "WORDS") wordsL && (tupB K (He.ga K "SORTS") sortsL && (tupB K (He.ga K "TESTS") testsL && (tupB K (He.ga K "WALKS") walksL && (tupB K (He.ga K "CHOOSERS") choosersL && (keysB K (He.ga K "FORMS") (formsL.map (·.1)) && formsL.all fun p => match PySem.W.nsIn K (He.ga K "FORMS") p.1 with
  | some (some v) => tupB2 K v p.2
  | _ => false))))))
theorem forms_ok {K : PySem.W.Frag} {w : World} {d : Addr} (D : ∃ es n, KDict K w d es n) (h : (formsL.all fun p => match PySem.W.nsIn K d p.1 with
  | some (some v) => tupB2 K v p.2
  | _ => false) = true) : FormsK K w d := by
  obtain ⟨es, n, D⟩ := D
  intro p hp
  have z := List.all_eq_true.mp h p hp
  cases e : PySem.W.nsIn K d p.1 with
  | none => rw [e] at z; cases z
  | some r =>
    cases r with
    | none => rw [e] at z; cases z
    | some v =>
      rw [e] at z
      cases v with
      | ref a => exact ⟨a, ⟨es, n, .ref a, D.at_, D.lit, e, rfl⟩, tupB_ok z (Nat.le_trans (forms_len p hp) (by decide))⟩
      | _ => simp [tupB2] at z
def ts : List He.Tab := [(fun K => He.ga K "FORMS", formsL.map (·.1))]
def hdOf (x : Str) (st : Stmt) : He.DefD := ⟨(x, none), x, x, defArgs st, defBody st, defScope st, [], []⟩
def fn : List He.DefD := [hdOf "is_integer" sIsInt, hdOf "is_name" sName, hdOf "is_free_name" sFree, hdOf "is_leaf" sLeafV, hdOf "_is_text" sTxt, hdOf "begins_kind" sBeg, hdOf "kinds_and_parts" sKP, hdOf "is_filter" sIF, hdOf "is_test" sIT, hdOf "is_walk" sIW, hdOf "is_chooser" sIC, hdOf "_is_of_kind" sOK, hdOf "narrowed" sNar, hdOf "_has_form" sHF, hdOf "is_index" sIdx, hdOf "_is_field" sFld, hdOf "_are_entries" sEnts, hdOf "_are_unlike" sUnl, hdOf "_law_begin" sBegin, hdOf "_law_draw" sDraw, hdOf "_law_pick" sPick, hdOf "_law_shuffled" sShuf, hdOf "_law_odd" sOdd, hdOf "_law_leaf" sLeaf, hdOf "_law_test" sTest, hdOf "_law_step" sStep, hdOf "_law_walk" sWalk, hdOf "_law_chooser" sChs, hdOf "_law_bent" sBent, hdOf "_law_filter" sFl, hdOf "_law_slots" sSlots, hdOf "_law_test_slots" sTSlots, hdOf "_law_is_word" sWordL, hdOf "_law_is_free" sFreeL, hdOf "_law_is_leaf" sLeafL, hdOf "_law_is_whole" sWholeL, hdOf "_law_is_slot" sSlot, hdOf "_law_is_form" sForm, hdOf "_law_is_of" sOf, hdOf "_law_some" sSome, hdOf "law" sLaw]
def fa : List He.Fa := [.glo "is_integer", .glo "is_name", .glo "is_free_name", .glo "is_leaf", .glo "_is_text", .glo "begins_kind", .glo "kinds_and_parts", .glo "is_filter", .glo "is_test", .glo "is_walk", .glo "is_chooser", .glo "_is_of_kind", .glo "narrowed", .glo "_has_form", .glo "is_index", .glo "_is_field", .glo "_are_entries", .glo "_are_unlike", .glo "_law_begin", .glo "_law_draw", .glo "_law_pick", .glo "_law_shuffled", .glo "_law_odd", .glo "_law_leaf", .glo "_law_test", .glo "_law_step", .glo "_law_walk", .glo "_law_chooser", .glo "_law_bent", .glo "_law_filter", .glo "_law_slots", .glo "_law_test_slots", .glo "_law_is_word", .glo "_law_is_free", .glo "_law_is_leaf", .glo "_law_is_whole", .glo "_law_is_slot", .glo "_law_is_form", .glo "_law_is_of", .glo "_law_some", .glo "law", .glo "FORMS", .glo "TESTS", .glo "WALKS", .glo "CHOOSERS", .glo "PART_KINDS", .glo "WORDS", .glo "SORTS", .int "MOST_LETTERS_words" 8, .int "GREATEST" (10 ^ 30), .int "MOST_LETTERS_data" 200, .int "PERCENT_SIGN" 37, .int "MOST_SPOTS" 200, .int "MOST_LEVELS" 40, .int "MOST_INDEX" 99, .int "MOST_HANDED" 3, .free "len", .free "int", .free "bool", .free "str", .free "list", .free "range", .free "min", .free "repr", .free "ord", .free "isinstance", .free "all", .free "tuple", .free "zip", .free "set", .free "abs"]
abbrev R : PySem.W.OpenRow := PySem.W.OpenLaw.row PySem.Challenge.rw_sieveways_k05_forms_of_filters_and_tests
abbrev hk : PySem.W.Hook := He.hookX 5 fa fn ts [] exB
def ob (s : PySem.W.SharedT) : He.AlX := He.obsX 5 fa fn ts [] exB (HandSHeadRun.getT s)
theorem ob_eq (s : PySem.W.SharedT) : ob s = hk.obs s.abs := He.obsX_eq (HandSHeadRun.getT_eq s)
def looseN0 : List Str := ["is_integer", "is_name", "is_free_name", "is_leaf", "_is_text", "begins_kind", "kinds_and_parts", "is_filter", "is_test", "is_walk", "is_chooser", "_is_of_kind", "narrowed", "_has_form", "is_index", "_is_field", "_are_entries", "_are_unlike"]
def looseN1 : List Str := ["_law_begin", "_law_draw", "_law_pick", "_law_shuffled", "_law_odd", "_law_leaf", "_law_test", "_law_step", "_law_walk", "_law_chooser", "_law_bent", "_law_filter", "_law_slots", "_law_test_slots", "_law_is_word", "_law_is_free", "_law_is_leaf", "_law_is_whole"]
def looseN2 : List Str := ["_law_is_slot", "_law_is_form", "_law_is_of", "_law_some", "FORMS", "TESTS", "WALKS", "CHOOSERS", "PART_KINDS", "WORDS", "SORTS", "MOST_LETTERS_words", "GREATEST", "MOST_LETTERS_data", "PERCENT_SIGN", "MOST_SPOTS", "MOST_LEVELS", "MOST_INDEX"]
def looseN3 : List Str := ["MOST_HANDED"]
def looseN : List Str := looseN0 ++ looseN1 ++ looseN2 ++ looseN3
/-! a text's hash asks the world whether a special's get may raise: the run is told for either answer -/
def wB (b : Bool) (w : World) : World := ⟨w.draws, {w.params with followText := fun x => match decide (x = "special-get-raises") with | true => b | false => w.params.followText x}⟩
theorem wB_eq (w : World) : wB (w.params.followText "special-get-raises") w = w := by
  have e : (fun x => match decide (x = "special-get-raises") with | true => w.params.followText "special-get-raises" | false => w.params.followText x) = w.params.followText := by
    funext x
    by_cases h : x = "special-get-raises"
    · subst h; rfl
    · rw [decide_eq_false h]
  unfold wB
  rw [e]
theorem runT (w : World) : HandSHeadRun.RunEq R (PySem.W.view R.prog [60]) hk ob 9000 looseN (wB true w) := by
  intro os
  kernel_rfl
theorem runF (w : World) : HandSHeadRun.RunEq R (PySem.W.view R.prog [60]) hk ob 9000 looseN (wB false w) := by
  intro os
  kernel_rfl
theorem run (w : World) : HandSHeadRun.RunEq R (PySem.W.view R.prog [60]) hk ob 9000 looseN w := by
  have z := wB_eq w
  cases h : w.params.followText "special-get-raises" with
  | true =>
    rw [h] at z
    exact (congrArg (HandSHeadRun.RunEq R (PySem.W.view R.prog [60]) hk ob 9000 looseN) z).mp (runT w)
  | false =>
    rw [h] at z
    exact (congrArg (HandSHeadRun.RunEq R (PySem.W.view R.prog [60]) hk ob 9000 looseN) z).mp (runF w)
end Toy


namespace Toy
open PySem PySem.Spec PyProof.Rows L2
/-! ### the facts, read off the head's answer -/
theorem fun_of {K : PySem.W.Frag} {x q : Str} {st : Stmt} {f : Addr} {fd : FuncData} (F : FunD K x q (defArgs st) (defBody st) (defScope st) [] [] f fd) : Fun K x q st f fd := by
  obtain ⟨oc, od, dV, kV, doc, pm, an, cdv, ct, osl, rfl, lk, hcd, hD, _⟩ := F.ex
  rcases hD with ⟨_, rfl⟩ | ⟨e, _⟩
  · exact ⟨⟨oc, od, kV, doc, pm, an, cdv, ct, osl, rfl, lk, hcd⟩, F.kp⟩
  · exact absurd rfl e
theorem facts {P : Program} {w : World} {K : PySem.W.Frag} {h : Heap} {mg : Str → Option Value} {f : Addr} (X : K.In h) (G : h.Ns mainGlobals mg) (hfa : mg ("law" : Str) = some (.ref f)) (S : He.SaysX fa fn ts [] exB w h K) :
    ∃ fd : FuncData, FunD K "law" "law" (defArgs sLaw) (defBody sLaw) (defScope sLaw) [] [] f fd ∧ (∀ (s : Shared) (v : Value), BindsTo s fd ⟨[v], []⟩ [("_law_script", v)]) ∧ ∀ base : Heap, K.In base → base.Ns mainGlobals mg → BodyOk P w K mg base 46 NLw "law" (defScope sLaw) (defBody sLaw) f (spLaw K) := by
  obtain ⟨dIi, FIi⟩ := S.t.d.def_ 0 (d := hdOf "is_integer" sIsInt) rfl
  have mIi := He.glo_ok X G (S.t.d.fact 0 (f := .glo "is_integer") rfl)
  obtain ⟨dNm, FNm⟩ := S.t.d.def_ 1 (d := hdOf "is_name" sName) rfl
  have mNm := He.glo_ok X G (S.t.d.fact 1 (f := .glo "is_name") rfl)
  obtain ⟨dFr, FFr⟩ := S.t.d.def_ 2 (d := hdOf "is_free_name" sFree) rfl
  have mFr := He.glo_ok X G (S.t.d.fact 2 (f := .glo "is_free_name") rfl)
  obtain ⟨dLv, FLv⟩ := S.t.d.def_ 3 (d := hdOf "is_leaf" sLeafV) rfl
  have mLv := He.glo_ok X G (S.t.d.fact 3 (f := .glo "is_leaf") rfl)
  obtain ⟨dTx, FTx⟩ := S.t.d.def_ 4 (d := hdOf "_is_text" sTxt) rfl
  have mTx := He.glo_ok X G (S.t.d.fact 4 (f := .glo "_is_text") rfl)
  obtain ⟨dBg, FBg⟩ := S.t.d.def_ 5 (d := hdOf "begins_kind" sBeg) rfl
  have mBg := He.glo_ok X G (S.t.d.fact 5 (f := .glo "begins_kind") rfl)
  obtain ⟨dKp, FKp⟩ := S.t.d.def_ 6 (d := hdOf "kinds_and_parts" sKP) rfl
  have mKp := He.glo_ok X G (S.t.d.fact 6 (f := .glo "kinds_and_parts") rfl)
  obtain ⟨dIf, FIf⟩ := S.t.d.def_ 7 (d := hdOf "is_filter" sIF) rfl
  have mIf := He.glo_ok X G (S.t.d.fact 7 (f := .glo "is_filter") rfl)
  obtain ⟨dIt, FIt⟩ := S.t.d.def_ 8 (d := hdOf "is_test" sIT) rfl
  have mIt := He.glo_ok X G (S.t.d.fact 8 (f := .glo "is_test") rfl)
  obtain ⟨dIw, FIw⟩ := S.t.d.def_ 9 (d := hdOf "is_walk" sIW) rfl
  have mIw := He.glo_ok X G (S.t.d.fact 9 (f := .glo "is_walk") rfl)
  obtain ⟨dIc, FIc⟩ := S.t.d.def_ 10 (d := hdOf "is_chooser" sIC) rfl
  have mIc := He.glo_ok X G (S.t.d.fact 10 (f := .glo "is_chooser") rfl)
  obtain ⟨dOk, FOk⟩ := S.t.d.def_ 11 (d := hdOf "_is_of_kind" sOK) rfl
  have mOk := He.glo_ok X G (S.t.d.fact 11 (f := .glo "_is_of_kind") rfl)
  obtain ⟨dNa, FNa⟩ := S.t.d.def_ 12 (d := hdOf "narrowed" sNar) rfl
  have mNa := He.glo_ok X G (S.t.d.fact 12 (f := .glo "narrowed") rfl)
  obtain ⟨dHf, FHf⟩ := S.t.d.def_ 13 (d := hdOf "_has_form" sHF) rfl
  have mHf := He.glo_ok X G (S.t.d.fact 13 (f := .glo "_has_form") rfl)
  obtain ⟨dIx, FIx⟩ := S.t.d.def_ 14 (d := hdOf "is_index" sIdx) rfl
  have mIx := He.glo_ok X G (S.t.d.fact 14 (f := .glo "is_index") rfl)
  obtain ⟨dFi, FFi⟩ := S.t.d.def_ 15 (d := hdOf "_is_field" sFld) rfl
  have mFi := He.glo_ok X G (S.t.d.fact 15 (f := .glo "_is_field") rfl)
  obtain ⟨dEn, FEn⟩ := S.t.d.def_ 16 (d := hdOf "_are_entries" sEnts) rfl
  have mEn := He.glo_ok X G (S.t.d.fact 16 (f := .glo "_are_entries") rfl)
  obtain ⟨dUn, FUn⟩ := S.t.d.def_ 17 (d := hdOf "_are_unlike" sUnl) rfl
  have mUn := He.glo_ok X G (S.t.d.fact 17 (f := .glo "_are_unlike") rfl)
  obtain ⟨dB, FB⟩ := S.t.d.def_ 18 (d := hdOf "_law_begin" sBegin) rfl
  have mB := He.glo_ok X G (S.t.d.fact 18 (f := .glo "_law_begin") rfl)
  obtain ⟨dD, FD⟩ := S.t.d.def_ 19 (d := hdOf "_law_draw" sDraw) rfl
  have mD := He.glo_ok X G (S.t.d.fact 19 (f := .glo "_law_draw") rfl)
  obtain ⟨dPi, FPi⟩ := S.t.d.def_ 20 (d := hdOf "_law_pick" sPick) rfl
  have mPi := He.glo_ok X G (S.t.d.fact 20 (f := .glo "_law_pick") rfl)
  obtain ⟨dSh, FSh⟩ := S.t.d.def_ 21 (d := hdOf "_law_shuffled" sShuf) rfl
  have mSh := He.glo_ok X G (S.t.d.fact 21 (f := .glo "_law_shuffled") rfl)
  obtain ⟨dOd, FOd⟩ := S.t.d.def_ 22 (d := hdOf "_law_odd" sOdd) rfl
  have mOd := He.glo_ok X G (S.t.d.fact 22 (f := .glo "_law_odd") rfl)
  obtain ⟨dLf, FLf⟩ := S.t.d.def_ 23 (d := hdOf "_law_leaf" sLeaf) rfl
  have mLf := He.glo_ok X G (S.t.d.fact 23 (f := .glo "_law_leaf") rfl)
  obtain ⟨dTe, FTe⟩ := S.t.d.def_ 24 (d := hdOf "_law_test" sTest) rfl
  have mTe := He.glo_ok X G (S.t.d.fact 24 (f := .glo "_law_test") rfl)
  obtain ⟨dSt, FSt⟩ := S.t.d.def_ 25 (d := hdOf "_law_step" sStep) rfl
  have mSt := He.glo_ok X G (S.t.d.fact 25 (f := .glo "_law_step") rfl)
  obtain ⟨dWk, FWk⟩ := S.t.d.def_ 26 (d := hdOf "_law_walk" sWalk) rfl
  have mWk := He.glo_ok X G (S.t.d.fact 26 (f := .glo "_law_walk") rfl)
  obtain ⟨dCh, FCh⟩ := S.t.d.def_ 27 (d := hdOf "_law_chooser" sChs) rfl
  have mCh := He.glo_ok X G (S.t.d.fact 27 (f := .glo "_law_chooser") rfl)
  obtain ⟨dBe, FBe⟩ := S.t.d.def_ 28 (d := hdOf "_law_bent" sBent) rfl
  have mBe := He.glo_ok X G (S.t.d.fact 28 (f := .glo "_law_bent") rfl)
  obtain ⟨dFl, FFl⟩ := S.t.d.def_ 29 (d := hdOf "_law_filter" sFl) rfl
  have mFl := He.glo_ok X G (S.t.d.fact 29 (f := .glo "_law_filter") rfl)
  obtain ⟨dSl, FSl⟩ := S.t.d.def_ 30 (d := hdOf "_law_slots" sSlots) rfl
  have mSl := He.glo_ok X G (S.t.d.fact 30 (f := .glo "_law_slots") rfl)
  obtain ⟨dTs, FTs⟩ := S.t.d.def_ 31 (d := hdOf "_law_test_slots" sTSlots) rfl
  have mTs := He.glo_ok X G (S.t.d.fact 31 (f := .glo "_law_test_slots") rfl)
  obtain ⟨dWdL, FWdL⟩ := S.t.d.def_ 32 (d := hdOf "_law_is_word" sWordL) rfl
  have mWdL := He.glo_ok X G (S.t.d.fact 32 (f := .glo "_law_is_word") rfl)
  obtain ⟨dFrL, FFrL⟩ := S.t.d.def_ 33 (d := hdOf "_law_is_free" sFreeL) rfl
  have mFrL := He.glo_ok X G (S.t.d.fact 33 (f := .glo "_law_is_free") rfl)
  obtain ⟨dLfL, FLfL⟩ := S.t.d.def_ 34 (d := hdOf "_law_is_leaf" sLeafL) rfl
  have mLfL := He.glo_ok X G (S.t.d.fact 34 (f := .glo "_law_is_leaf") rfl)
  obtain ⟨dWhL, FWhL⟩ := S.t.d.def_ 35 (d := hdOf "_law_is_whole" sWholeL) rfl
  have mWhL := He.glo_ok X G (S.t.d.fact 35 (f := .glo "_law_is_whole") rfl)
  obtain ⟨dSlt, FSlt⟩ := S.t.d.def_ 36 (d := hdOf "_law_is_slot" sSlot) rfl
  have mSlt := He.glo_ok X G (S.t.d.fact 36 (f := .glo "_law_is_slot") rfl)
  obtain ⟨dFo, FFo⟩ := S.t.d.def_ 37 (d := hdOf "_law_is_form" sForm) rfl
  have mFo := He.glo_ok X G (S.t.d.fact 37 (f := .glo "_law_is_form") rfl)
  obtain ⟨dOf, FOf⟩ := S.t.d.def_ 38 (d := hdOf "_law_is_of" sOf) rfl
  have mOf := He.glo_ok X G (S.t.d.fact 38 (f := .glo "_law_is_of") rfl)
  obtain ⟨dSo, FSo⟩ := S.t.d.def_ 39 (d := hdOf "_law_some" sSome) rfl
  have mSo := He.glo_ok X G (S.t.d.fact 39 (f := .glo "_law_some") rfl)
  obtain ⟨dL, FL⟩ := S.t.d.def_ 40 (d := hdOf "law" sLaw) rfl
  have mL := He.glo_ok X G (S.t.d.fact 40 (f := .glo "law") rfl)
  have mg0 := He.glo_ok X G (S.t.d.fact 41 (f := .glo "FORMS") rfl)
  have mg1 := He.glo_ok X G (S.t.d.fact 42 (f := .glo "TESTS") rfl)
  have mg2 := He.glo_ok X G (S.t.d.fact 43 (f := .glo "WALKS") rfl)
  have mg3 := He.glo_ok X G (S.t.d.fact 44 (f := .glo "CHOOSERS") rfl)
  have mg4 := He.glo_ok X G (S.t.d.fact 45 (f := .glo "PART_KINDS") rfl)
  have mg5 := He.glo_ok X G (S.t.d.fact 46 (f := .glo "WORDS") rfl)
  have mg6 := He.glo_ok X G (S.t.d.fact 47 (f := .glo "SORTS") rfl)
  obtain ⟨ti0, mi0⟩ := He.int_ok X G (S.t.d.fact 48 (f := .int "MOST_LETTERS_words" 8) rfl)
  have ri0 : L2.RelV (.int 8) (.int 8 ti0) := ⟨ti0, rfl⟩
  obtain ⟨ti1, mi1⟩ := He.int_ok X G (S.t.d.fact 49 (f := .int "GREATEST" (10 ^ 30)) rfl)
  have ri1 : L2.RelV (.int (10 ^ 30)) (.int (10 ^ 30) ti1) := ⟨ti1, rfl⟩
  obtain ⟨ti2, mi2⟩ := He.int_ok X G (S.t.d.fact 50 (f := .int "MOST_LETTERS_data" 200) rfl)
  have ri2 : L2.RelV (.int 200) (.int 200 ti2) := ⟨ti2, rfl⟩
  obtain ⟨ti3, mi3⟩ := He.int_ok X G (S.t.d.fact 51 (f := .int "PERCENT_SIGN" 37) rfl)
  have ri3 : L2.RelV (.int 37) (.int 37 ti3) := ⟨ti3, rfl⟩
  obtain ⟨ti4, mi4⟩ := He.int_ok X G (S.t.d.fact 52 (f := .int "MOST_SPOTS" 200) rfl)
  have ri4 : L2.RelV (.int 200) (.int 200 ti4) := ⟨ti4, rfl⟩
  obtain ⟨ti5, mi5⟩ := He.int_ok X G (S.t.d.fact 53 (f := .int "MOST_LEVELS" 40) rfl)
  have ri5 : L2.RelV (.int 40) (.int 40 ti5) := ⟨ti5, rfl⟩
  obtain ⟨ti6, mi6⟩ := He.int_ok X G (S.t.d.fact 54 (f := .int "MOST_INDEX" 99) rfl)
  have ri6 : L2.RelV (.int 99) (.int 99 ti6) := ⟨ti6, rfl⟩
  obtain ⟨ti7, mi7⟩ := He.int_ok X G (S.t.d.fact 55 (f := .int "MOST_HANDED" 3) rfl)
  have ri7 : L2.RelV (.int 3) (.int 3 ti7) := ⟨ti7, rfl⟩
  have z0 := He.free_ok X G (S.t.d.fact 56 (f := .free "len") rfl)
  have z1 := He.free_ok X G (S.t.d.fact 57 (f := .free "int") rfl)
  have z2 := He.free_ok X G (S.t.d.fact 58 (f := .free "bool") rfl)
  have z3 := He.free_ok X G (S.t.d.fact 59 (f := .free "str") rfl)
  have z4 := He.free_ok X G (S.t.d.fact 60 (f := .free "list") rfl)
  have z5 := He.free_ok X G (S.t.d.fact 61 (f := .free "range") rfl)
  have z6 := He.free_ok X G (S.t.d.fact 62 (f := .free "min") rfl)
  have z7 := He.free_ok X G (S.t.d.fact 63 (f := .free "repr") rfl)
  have z8 := He.free_ok X G (S.t.d.fact 64 (f := .free "ord") rfl)
  have z9 := He.free_ok X G (S.t.d.fact 65 (f := .free "isinstance") rfl)
  have z10 := He.free_ok X G (S.t.d.fact 66 (f := .free "all") rfl)
  have z11 := He.free_ok X G (S.t.d.fact 67 (f := .free "tuple") rfl)
  have z12 := He.free_ok X G (S.t.d.fact 68 (f := .free "zip") rfl)
  have z13 := He.free_ok X G (S.t.d.fact 69 (f := .free "set") rfl)
  have z14 := He.free_ok X G (S.t.d.fact 70 (f := .free "abs") rfl)
  have hm := S.more
  unfold exB at hm
  simp only [Bool.and_eq_true] at hm
  obtain ⟨x1, x2, x3, x4, x5, x6, x8, x7⟩ := hm
  have KPK := tupB_ok x1 (by decide)
  have KWO := tupB_ok x2 (by decide)
  have KSO := tupB_ok x3 (by decide)
  have KTE := tupB_ok x4 (by decide)
  have KWA := tupB_ok x5 (by decide)
  have KCH := tupB_ok x6 (by decide)
  have FOR := S.t.tab 0 (t := (fun K => He.ga K "FORMS", formsL.map (·.1))) rfl
  have FK : FormsK K w (He.ga K "FORMS") := forms_ok FOR x7
  have FN : ∀ x, formOf x = none → PySem.W.nsIn K (He.ga K "FORMS") x = some none := fun x h => keysB_ok x8 (form_not h)
  have bIi : Binds K dIi ["value"] [] := FIi.bindsN fun _ _ _ _ _ _ us hl => match us, hl with | [_], _ => rfl
  have bNm : Binds K dNm ["value"] [] := FNm.bindsN fun _ _ _ _ _ _ us hl => match us, hl with | [_], _ => rfl
  have bFr : Binds K dFr ["value"] [] := FFr.bindsN fun _ _ _ _ _ _ us hl => match us, hl with | [_], _ => rfl
  have bLv : Binds K dLv ["value"] [] := FLv.bindsN fun _ _ _ _ _ _ us hl => match us, hl with | [_], _ => rfl
  have bTx : Binds K dTx ["text"] [] := FTx.bindsN fun _ _ _ _ _ _ us hl => match us, hl with | [_], _ => rfl
  have bBg : Binds K dBg ["word", "kind"] [] := FBg.bindsN fun _ _ _ _ _ _ us hl => match us, hl with | [_, _], _ => rfl
  have bKp : Binds K dKp ["term"] [] := FKp.bindsN fun _ _ _ _ _ _ us hl => match us, hl with | [_], _ => rfl
  have bIf : Binds K dIf ["value"] [] := FIf.bindsN fun _ _ _ _ _ _ us hl => match us, hl with | [_], _ => rfl
  have bIt : Binds K dIt ["value"] [] := FIt.bindsN fun _ _ _ _ _ _ us hl => match us, hl with | [_], _ => rfl
  have bIw : Binds K dIw ["term"] [] := FIw.bindsN fun _ _ _ _ _ _ us hl => match us, hl with | [_], _ => rfl
  have bIc : Binds K dIc ["term"] [] := FIc.bindsN fun _ _ _ _ _ _ us hl => match us, hl with | [_], _ => rfl
  have bOk : Binds K dOk ["value", "kind"] [] := FOk.bindsN fun _ _ _ _ _ _ us hl => match us, hl with | [_, _], _ => rfl
  have bNa : Binds K dNa ["outer", "kind"] [] := FNa.bindsN fun _ _ _ _ _ _ us hl => match us, hl with | [_, _], _ => rfl
  have bHf : Binds K dHf ["value", "kind"] [] := FHf.bindsN fun _ _ _ _ _ _ us hl => match us, hl with | [_, _], _ => rfl
  have bIx : Binds K dIx ["value"] [] := FIx.bindsN fun _ _ _ _ _ _ us hl => match us, hl with | [_], _ => rfl
  have bFi : Binds K dFi ["value", "told"] [] := FFi.bindsN fun _ _ _ _ _ _ us hl => match us, hl with | [_, _], _ => rfl
  have bEn : Binds K dEn ["values"] [] := FEn.bindsN fun _ _ _ _ _ _ us hl => match us, hl with | [_], _ => rfl
  have bUn : Binds K dUn ["names"] [] := FUn.bindsN fun _ _ _ _ _ _ us hl => match us, hl with | [_], _ => rfl
  have bB : Binds K dB ["_law_script"] [] := FB.bindsN fun _ _ _ _ _ _ us hl => match us, hl with | [_], _ => rfl
  have bD : Binds K dD ["_law_tape", "_law_many"] [] := FD.bindsN fun _ _ _ _ _ _ us hl => match us, hl with | [_, _], _ => rfl
  have bPi : Binds K dPi ["_law_tape", "_law_items"] [] := FPi.bindsN fun _ _ _ _ _ _ us hl => match us, hl with | [_, _], _ => rfl
  have bSh : Binds K dSh ["_law_tape", "_law_items"] [] := FSh.bindsN fun _ _ _ _ _ _ us hl => match us, hl with | [_, _], _ => rfl
  have bOd : Binds K dOd ["_law_tape"] [] := FOd.bindsN fun _ _ _ _ _ _ us hl => match us, hl with | [_], _ => rfl
  have bLf : Binds K dLf ["_law_tape"] [] := FLf.bindsN fun _ _ _ _ _ _ us hl => match us, hl with | [_], _ => rfl
  have bTe : Binds K dTe ["_law_tape", "_law_keys", "_law_deep"] [] := FTe.bindsN fun _ _ _ _ _ _ us hl => match us, hl with | [_, _, _], _ => rfl
  have bSt : Binds K dSt ["_law_tape", "_law_keys"] [] := FSt.bindsN fun _ _ _ _ _ _ us hl => match us, hl with | [_, _], _ => rfl
  have bWk : Binds K dWk ["_law_tape", "_law_keys", "_law_deep"] [] := FWk.bindsN fun _ _ _ _ _ _ us hl => match us, hl with | [_, _, _], _ => rfl
  have bCh : Binds K dCh ["_law_tape", "_law_keys", "_law_deep"] [] := FCh.bindsN fun _ _ _ _ _ _ us hl => match us, hl with | [_, _, _], _ => rfl
  have bBe : Binds K dBe ["_law_tape", "_law_x", "_law_some_here"] [] := FBe.bindsN fun _ _ _ _ _ _ us hl => match us, hl with | [_, _, _], _ => rfl
  have bFl : Binds K dFl ["_law_tape", "_law_keys", "_law_deep"] [] := FFl.bindsN fun _ _ _ _ _ _ us hl => match us, hl with | [_, _, _], _ => rfl
  have bSl : Binds K dSl ["_law_word"] [] := FSl.bindsN fun _ _ _ _ _ _ us hl => match us, hl with | [_], _ => rfl
  have bTs : Binds K dTs ["_law_word"] [] := FTs.bindsN fun _ _ _ _ _ _ us hl => match us, hl with | [_], _ => rfl
  have bWdL : Binds K dWdL ["_law_x"] [] := FWdL.bindsN fun _ _ _ _ _ _ us hl => match us, hl with | [_], _ => rfl
  have bFrL : Binds K dFrL ["_law_x"] [] := FFrL.bindsN fun _ _ _ _ _ _ us hl => match us, hl with | [_], _ => rfl
  have bLfL : Binds K dLfL ["_law_x"] [] := FLfL.bindsN fun _ _ _ _ _ _ us hl => match us, hl with | [_], _ => rfl
  have bWhL : Binds K dWhL ["_law_x", "_law_most"] [] := FWhL.bindsN fun _ _ _ _ _ _ us hl => match us, hl with | [_, _], _ => rfl
  have bSlt : Binds K dSlt ["_law_slot", "_law_x"] [] := FSlt.bindsN fun _ _ _ _ _ _ us hl => match us, hl with | [_, _], _ => rfl
  have bFo : Binds K dFo ["_law_x", "_law_of_filters"] [] := FFo.bindsN fun _ _ _ _ _ _ us hl => match us, hl with | [_, _], _ => rfl
  have bOf : Binds K dOf ["_law_term", "_law_slot"] [] := FOf.bindsN fun _ _ _ _ _ _ us hl => match us, hl with | [_, _], _ => rfl
  have bSo : Binds K dSo ["_law_tape", "_law_keys"] [] := FSo.bindsN fun _ _ _ _ _ _ us hl => match us, hl with | [_, _], _ => rfl
  have e := hfa.symm.trans mL
  cases e
  refine ⟨dL, FL, fun s v => FL.bindsA (ps := ["_law_script"]) (fun _ _ _ _ _ _ us hl => match us, hl with | [_], _ => rfl) s [v] rfl, fun base _ _ => ?_⟩
  have GD : FnOk P w K mg base CX0 1 _ dD ["_law_tape", "_law_many"] spDraw := ok_draw (fun_of FD) z0 z1
  have GB : FnOk P w K mg base CX0 1 _ dB ["_law_script"] (spBegin K) := ok_begin (fun_of FB)
  have GPi : FnOk P w K mg base CX0 2 _ dPi ["_law_tape", "_law_items"] spPick := ok_pick (fun_of FPi) GD mD FD.kp bD z0
  have GLf : FnOk P w K mg base CX0 3 _ dLf ["_law_tape"] spLeaf := ok_leaf (fun_of FLf) GPi mPi FPi.kp bPi
  have GSt : FnOk P w K mg base CX0 3 _ dSt ["_law_tape", "_law_keys"] (spStep K) := ok_step (fun_of FSt) GPi mPi FPi.kp bPi GD mD FD.kp bD
  have tw := fun j => ok_tw (P := P) (w := w) (base := base) (fun_of FTe) (fun_of FWk) GPi mPi FPi.kp bPi GD mD FD.kp bD GLf mLf FLf.kp bLf GSt mSt FSt.kp bSt mTe FTe.kp bTe mWk FWk.kp bWk j
  have GTe6 : FnOk P w K mg base CX0 6 _ dTe ["_law_tape", "_law_keys", "_law_deep"] (spTm K gT 2) := (tw 2).1
  have GTe7 : FnOk P w K mg base CX0 7 _ dTe ["_law_tape", "_law_keys", "_law_deep"] (spTm K gT 3) := (tw 3).1
  have GWk6 : FnOk P w K mg base CX0 6 _ dWk ["_law_tape", "_law_keys", "_law_deep"] (spTm K gW 2) := (tw 2).2
  have GCh6 : FnOk P w K mg base CX0 6 _ dCh ["_law_tape", "_law_keys", "_law_deep"] (spTm K gW 2) := ok_chs (fun_of FCh) GSt mSt FSt.kp bSt GD mD FD.kp bD mCh FCh.kp bCh mTe FTe.kp bTe mWk FWk.kp bWk tw 2
  have GCh7 : FnOk P w K mg base CX0 7 _ dCh ["_law_tape", "_law_keys", "_law_deep"] (spTm K gW 3) := ok_chs (fun_of FCh) GSt mSt FSt.kp bSt GD mD FD.kp bD mCh FCh.kp bCh mTe FTe.kp bTe mWk FWk.kp bWk tw 3
  have GFl : FnOk P w K mg base CX0 11 _ dFl ["_law_tape", "_law_keys", "_law_deep"] (spFl K 4) := ok_fl (fun_of FFl) GPi mPi FPi.kp bPi GD mD FD.kp bD GLf mLf FLf.kp bLf GTe6 mTe FTe.kp bTe GWk6 mWk FWk.kp bWk GCh6 mCh FCh.kp bCh mFl FFl.kp bFl 4
  have GOd : FnOk P w K mg base CX0 3 _ dOd ["_law_tape"] (spOdd K) := ok_odd (fun_of FOd) GPi mPi FPi.kp bPi
  have GSh : FnOk P w K mg base CX0 2 _ dSh ["_law_tape", "_law_items"] spShuf := ok_shuf (fun_of FSh) GD mD FD.kp bD z0 z4
  have GBe : FnOk P w K mg base CX0 20 _ dBe ["_law_tape", "_law_x", "_law_some_here"] (spBent K 17) := ok_bent (fun_of FBe) GD mD FD.kp bD GPi mPi FPi.kp bPi mBe FBe.kp bBe z9 z4 z11 z0 17
  have GSo : FnOk P w K mg base CX0 12 _ dSo ["_law_tape", "_law_keys"] (spSome K) := ok_some (fun_of FSo) GOd mOd FOd.kp bOd GFl mFl FFl.kp bFl GTe7 mTe FTe.kp bTe
  have GWdL : FnOk P w K mg base CX0 1 _ dWdL ["_law_x"] (spM K wordD) := ok_wordL (fun_of FWdL) z9 z3 z0
  have GFrL : FnOk P w K mg base CX0 2 _ dFrL ["_law_x"] (spM K freeD) := ok_freeL (fun_of FFrL) GWdL mWdL FWdL.kp bWdL
  have GLfL : FnOk P w K mg base CX0 1 _ dLfL ["_law_x"] (spM K leafD) := ok_leafL (fun_of FLfL) z9 z3 z2 z1 z0 z14
  have GWhL : FnOk P w K mg base CX0 1 _ dWhL ["_law_x", "_law_most"] (spWh K) := ok_wholeL (fun_of FWhL) z9 z2 z1
  have GSl : FnOk P w K mg base CX0 1 _ dSl ["_law_word"] (spSlot slF) := ok_slots (fun_of FSl)
  have GTs : FnOk P w K mg base CX0 1 _ dTs ["_law_word"] (spSlot slT) := ok_tslots (fun_of FTs)
  have lk := ok_look (P := P) (w := w) (base := base) (fun_of FFo) (fun_of FOf) (fun_of FSlt) GSl mSl FSl.kp bSl GTs mTs FTs.kp bTs GWhL mWhL FWhL.kp bWhL GWdL mWdL FWdL.kp bWdL GFrL mFrL FFrL.kp bFrL GLfL mLfL FLfL.kp bLfL mFo FFo.kp bFo mOf FOf.kp bOf mSlt FSlt.kp bSlt z9 z11 z3 z0 z13 z5 z4 z12 21
  have GFo : FnOk P w K mg base CX0 46 _ dFo ["_law_x", "_law_of_filters"] (spForm K 21) := lk.1
  have GOf : FnOk P w K mg base CX0 24 _ dOf ["_law_term", "_law_slot"] (spOf K 21) := lk.2
  have GIi : FnOk P w K mg base CX0 1 _ dIi ["value"] (spM K intD) := ok_isInt (fun_of FIi) z9 z2 z1
  have GNm : FnOk P w K mg base CX0 1 _ dNm ["value"] (spM K wordD) := ok_name (fun_of FNm) mi0 ri0 z9 z3 z0 z10
  have GFr : FnOk P w K mg base CX0 2 _ dFr ["value"] (spM K freeD) := ok_free (fun_of FFr) GNm mNm FNm.kp bNm mg5 KWO
  have GTx : FnOk P w K mg base CX0 1 _ dTx ["text"] spTxt := ok_txt (fun_of FTx) mi2 ri2 mi3 ri3 z0 z8 z10
  have GLv : FnOk P w K mg base CX0 2 _ dLv ["value"] (spM K leafD) := ok_leafV (fun_of FLv) GTx mTx FTx.kp bTx mi1 ri1 z9 z2 z1 z3
  have GUn : FnOk P w K mg base CX0 1 _ dUn ["names"] (spUnl K) := ok_unl (fun_of FUn) z0 z13
  have GEn : FnOk P w K mg base CX0 2 _ dEn ["values"] (spEnts K) := ok_ents (fun_of FEn) GNm mNm FNm.kp bNm GUn mUn FUn.kp bUn z9 z11 z0 z10
  have GNa : FnOk P w K mg base CX0 1 _ dNa ["outer", "kind"] spNar := ok_nar (fun_of FNa)
  have GBg : FnOk P w K mg base CX0 1 _ dBg ["word", "kind"] spBeg := ok_beg (fun_of FBg) mg0 FOR FK FN mg1 KTE mg2 KWA mg3 KCH
  have GIx : FnOk P w K mg base CX0 2 _ dIx ["value"] (spM K wholeD) := ok_index (fun_of FIx) mi6 ri6 GIi mIi FIi.kp bIi
  have GFi : FnOk P w K mg base CX0 3 _ dFi ["value", "told"] (spFld K) := ok_fld (fun_of FFi) mg4 KPK mg6 KSO mi7 ri7 GNm mNm FNm.kp bNm GFr mFr FFr.kp bFr GIx mIx FIx.kp bIx GLv mLv FLv.kp bLv GUn mUn FUn.kp bUn GEn mEn FEn.kp bEn z9 z11 z0 z10
  have GHf : FnOk P w K mg base CX0 4 _ dHf ["value", "kind"] (spHF K) := ok_hf (fun_of FHf) mg0 FK GBg mBg FBg.kp bBg GFi mFi FFi.kp bFi z9 z11 z3 z0 z10 z12
  have GKp : FnOk P w K mg base CX0 1 _ dKp ["term"] (spKP K) := ok_kp (fun_of FKp) mg0 FK mg4 KPK z12
  have GOk : FnOk P w K mg base CX0 5 _ dOk ["value", "kind"] (spOK K) := ok_of (fun_of FOk) mi5 ri5 mi4 ri4 GHf mHf FHf.kp bHf GKp mKp FKp.kp bKp GNa mNa FNa.kp bNa z0
  have GIf : FnOk P w K mg base CX0 6 _ dIf ["value"] (spIK K "filter") := ok_if (fun_of FIf) GOk mOk FOk.kp bOk
  have GIt : FnOk P w K mg base CX0 6 _ dIt ["value"] (spIK K "test") := ok_it (fun_of FIt) GOk mOk FOk.kp bOk
  have GIw : FnOk P w K mg base CX0 6 _ dIw ["term"] (spIK K "walk") := ok_iw (fun_of FIw) GOk mOk FOk.kp bOk
  have GIc : FnOk P w K mg base CX0 6 _ dIc ["term"] (spIK K "chooser") := ok_ic (fun_of FIc) GOk mOk FOk.kp bOk
  exact body_law ⟨z0, z5, z6, z7, z11⟩ GB mB FB.kp bB GD mD FD.kp bD GPi mPi FPi.kp bPi GFl mFl FFl.kp bFl GTe7 mTe FTe.kp bTe GCh7 mCh FCh.kp bCh GSh mSh FSh.kp bSh GSo mSo FSo.kp bSo GBe mBe FBe.kp bBe GFo mFo FFo.kp bFo GOf mOf FOf.kp bOf GIf mIf FIf.kp bIf GIt mIt FIt.kp bIt GIw mIw FIw.kp bIw GIc mIc FIc.kp bIc
end Toy
open PySem PySem.W PySem.Calls PyProof.Rows
set_option maxRecDepth 100000 in
set_option maxHeartbeats 0 in
theorem PySem.Challenge.cw_sieveways_k05_forms_of_filters_and_tests_holds : PySem.Challenge.rw_sieveways_k05_forms_of_filters_and_tests.Holds := by
  w_on; o_law
  refine HandSHeadRun.head_any (r := OpenLaw.row PySem.Challenge.rw_sieveways_k05_forms_of_filters_and_tests) (q := view (OpenLaw.row PySem.Challenge.rw_sieveways_k05_forms_of_filters_and_tests).prog [60]) (H := Toy.hk) (ob := Toy.ob) (M := 9000) (loose := Toy.looseN) (d := HandSHeadRun.topDef (OpenLaw.row PySem.Challenge.rw_sieveways_k05_forms_of_filters_and_tests).prog 60) (kwd := []) Toy.ob_eq
    (by kernel_rfl) (fun s => by kernel_rfl) Toy.run (by kernel_rfl) (by kernel_rfl) (by kernel_rfl) (by rfl) (by first | assumption | decide +kernel) (by decide +kernel) ⟨rfl, rfl, rfl, rfl, rfl, by decide +kernel⟩ ?hw ?hc
  case hw => w_witness2
  case hc =>
    refine L2.walkG (l := PySem.Challenge.rw_sieveways_k05_forms_of_filters_and_tests) (n := 63) (k := 46) (x := "_law_script") rfl (by decide) (by kernel_rfl) ⟨rfl, by decide, by decide⟩ ?F
    intro w mg fa h Y G hmg0
    obtain ⟨K, KX, c⟩ := Y
    have hmg : mg ("law" : PySem.Str) = some (.ref fa) := by
      have e : (HandSHeadRun.topDef (OpenLaw.row PySem.Challenge.rw_sieveways_k05_forms_of_filters_and_tests).prog 60).name = ("law" : PySem.Str) := by kernel_rfl
      rw [← e]
      exact hmg0
    obtain ⟨fd, FD, hb, hF⟩ := Toy.facts (P := (PySem.Challenge.rw_sieveways_k05_forms_of_filters_and_tests).prog) (w := w) KX G hmg c
    exact ⟨K, fd, _, _, _, _, _, Toy.NLw, Toy.spLaw K, KX, FD, Toy.scLw, hb, fun H a ns hl hS => ⟨a, ns, rfl, hS, hl, fun _ => rfl⟩, hF⟩

