import PyProof.Rows.All
import Wide.All
import OpenK.AllK
import Wide.FinOn
import HandS.ForMost
import HandS.Flow
import HandS.Wide
import HandS.Small
import HandS.ExcValue
import HandS.Defaults
import HandS.IsInst
import HandS.More
import HandS.Strs
import HandS.Style
import HandS.Conv
import HandS.HeadEnd
import KE.KDictCopyH
import HandS.Dict
import HandS.Iter
import HandS.Walk
import HandS.SortKw
import KE.DatumOrd
import PyProof.StrOps2
import PyProof.FactsAll.bool_1
import PyProof.Rows.RuleN_abs
import KE.SortData
import KE.LtData
import HandS.Steps
import HandS.Deep
import HandS.ListItems
import HandS.TupLe
import KE.KStateDown
import HandS.Head0
import HandS.Head1
import HandS.Head2
import HandS.HeadHook1
import HandS.HeadHook2
import HandS.HeadHook3
import HandS.HeadHook4
import PySem.Challenge.RW_sieveways_k02_data_and_bounds
set_option Elab.async false
set_option linter.all false
set_option maxRecDepth 100000
set_option maxHeartbeats 0
namespace Toy
open PySem L2
def top (i : Nat) : Stmt := PySem.Challenge.pw_sieveways_k02_data_and_bounds.main.body.getD i (.Pass ⟨0, 0, 0, 0⟩)
abbrev sBegin : Stmt := top 20
abbrev sDraw : Stmt := top 21
/-! ### the tape -/
def kC : Key := Sum.inr ("cells" : Str)
def kA : Key := Sum.inr ("at" : Str)
def kL : Key := Sum.inr ("left" : Str)
def tp (l : Addr) (a f : Int) : List (Key × V) := [(kC, .ref l), (kA, .int a), (kL, .int f)]
theorem k_ca : ¬ (kC = kA) := by decide +kernel
theorem k_cl : ¬ (kC = kL) := by decide +kernel
theorem k_al : ¬ (kA = kL) := by decide +kernel
theorem k_la : ¬ (kL = kA) := by decide +kernel
theorem tp_cells (l : Addr) (a f : Int) : valV (tp l a f) kC = some (.ref l) := by
  unfold tp
  rw [valV_pos rfl]
theorem tp_at (l : Addr) (a f : Int) : valV (tp l a f) kA = some (.int a) := by
  unfold tp
  rw [valV_neg k_ca, valV_pos rfl]
theorem tp_left (l : Addr) (a f : Int) : valV (tp l a f) kL = some (.int f) := by
  unfold tp
  rw [valV_neg k_cl, valV_neg k_al, valV_pos rfl]
theorem put_at (l : Addr) (a f b : Int) : putK (tp l a f) kA (.int b) = tp l b f := by
  unfold tp putK
  rw [if_pos (by simp)]
  simp only [List.map_cons, List.map_nil]
  rw [if_neg k_ca, if_pos trivial, if_neg k_la]
theorem put_left (l : Addr) (a f b : Int) : putK (tp l a f) kL (.int b) = tp l a b := by
  unfold tp putK
  rw [if_pos (by simp)]
  simp only [List.map_cons, List.map_nil]
  rw [if_neg k_cl, if_neg k_al, if_pos trivial]
section
variable {H : Hp} {d l : Addr} {a f : Int} (h : H d = some (.dK (tp l a f)))
include h
theorem get_cells : DGet H d (.str ("cells" : Str)) (some (.ref l)) := by
  have z := DGet.k (k := kC) h
  rw [tp_cells] at z
  exact z
theorem get_at : DGet H d (.str ("at" : Str)) (some (.int a)) := by
  have z := DGet.k (k := kA) h
  rw [tp_at] at z
  exact z
theorem get_left : DGet H d (.str ("left" : Str)) (some (.int f)) := by
  have z := DGet.k (k := kL) h
  rw [tp_left] at z
  exact z
theorem set_at (b : Int) : DPut H d (.str ("at" : Str)) (.int b) (upd H d (.dK (tp l b f))) := by
  have z := DPut.k (k := kA) (v := .int b) h (by show 3 < sizeLine; decide)
  rw [put_at] at z
  exact z
theorem set_left (b : Int) : DPut H d (.str ("left" : Str)) (.int b) (upd H d (.dK (tp l a b))) := by
  have z := DPut.k (k := kL) (v := .int b) h (by show 3 < sizeLine; decide)
  rw [put_left] at z
  exact z
end
/-- at d a tape, of which at most n draws were made -/
def Tape (H : Hp) (d l : Addr) (n : Nat) : Prop := ∃ (ns : List Int) (a f : Int), H d = some (.dK (tp l a f)) ∧ H l = some (.lst (ns.map V.int)) ∧ ns ≠ [] ∧ ns.length ≤ 1000 ∧ 0 ≤ a ∧ a ≤ n
/-- all that stood stands, but at d -/
def But (d : Addr) (H H' : Hp) : Prop := ∀ b o, b ≠ d → H b = some o → H' b = some o
theorem But.refl {d : Addr} {H : Hp} : But d H H := fun _ _ _ e => e
theorem But.trans {d : Addr} {H H1 H2 : Hp} (a : But d H H1) (b : But d H1 H2) : But d H H2 := fun x o n e => b x o n (a x o n e)
theorem But.upd {d : Addr} {H H1 : Hp} {u : HO} (a : But d H H1) : But d H (upd H1 d u) := fun x o n e => by
  rw [upd_ne n]
  exact a x o n e
theorem But.new {d p : Addr} {H H1 : Hp} {u : HO} (a : But d H H1) (hp : H1 p = none) : But d H (L2.upd H1 p u) := fun x o n e => by
  rw [upd_ne (ne_of_none (a x o n e) hp)]
  exact a x o n e
def spDraw : Sp := fun vs H Q _ => ∃ (d l : Addr) (n : Nat) (m : Int), vs = [.ref d, .int m] ∧ Tape H d l n ∧ n ≤ 1000000 ∧ 0 < m ∧ m < 1000000 ∧
  ∀ H' r, But d H H' → Tape H' d l (n + 1) → 0 ≤ r → r < m → Q (.int r) H'
section
variable {P : Program} {w : World} {K : PySem.W.Frag} {mg : Str → Option Value} {base : Heap}
theorem scD : FnScope ["_law_tape", "_law_many", "_law_turn", "_law_size", "_law_cell", "_law_got"] ["_law_tape", "_law_many"] (defScope sDraw) := ⟨rfl, rfl, rfl, by decide +kernel, rfl, by decide +kernel, by decide +kernel⟩
theorem ok_draw {f : Addr} {fd : FuncData} (F : Fun K "_law_draw" "_law_draw" sDraw f fd) (mLen : mg "len" = none) (mInt : mg "int" = none) : FnOk P w K mg base CX0 1 f fd ["_law_tape", "_law_many"] spDraw := by
  refine F.ok scD (fun vs H Q E h => ?_) (fun cdv A outer s H vs Q E hr h => ?_)
  · obtain ⟨d, l, n, m, rfl, _⟩ := h
    rfl
  · obtain ⟨d, l, n, m, rfl, ⟨ns, a, f, hd, hl, hne, hlen, a0, an⟩, hn, m0, m1, q⟩ := h
    have hu := hu_of hr
    refine ⟨_, pss_cons (ps_if (pt_cmpR op_lt (pe_dget hu (pv 0) pe_str (fun _ _ => rfl)) (pv 1) (nomark _))
      (pss_cons (ps_par (i := 2) (j := 3) rfl scD.nd rfl rfl (by decide) rfl rfl (pa_cons (pe_dget hu (pv 0) pe_str (fun _ _ => rfl)) (pa_cons (pe_callB call_len_seq (by rfl) mLen PySem.boot_len (pa_cons (pe_dget hu (pv 0) pe_str (fun _ _ => rfl)) pa_nil)) pa_nil)) (by rfl))
      (pss_cons (ps_asg (pe_tup (pa_cons (pe_ix ix_list (pe_dget hu (pv 0) pe_str (fun _ _ => rfl)) (pe_op op_mod (pe_callTy call_int1 (by rfl) mInt (by decide +kernel) (pa_cons (pv 2) pa_nil)) (pv 3)) (fun _ _ => rfl)) (pa_cons (pe_op op_add (pv 2) pe_int) pa_nil)))
          (pg_tup rfl (pgs_cons (pg_name (i := 4) scD.nd rfl (.inl rfl)) (pgs_cons (pg_sub (pv 0) pe_str (set_dict hu)) pgs_nil))))
      (pss_cons (ps_dput hu (pv 0) pe_str (pe_op op_mod (pe_callTy call_int1 (by rfl) mInt (by decide +kernel) (pa_cons (pe_op op_pow (pe_op op_add (pe_op op_add (pe_op op_mod (pe_callTy call_int1 (by rfl) mInt (by decide +kernel) (pa_cons (pv 4) pa_nil)) pe_int) (pe_op op_mul pe_int (pv 2))) pe_int) pe_int) pa_nil)) (pe_op op_add (pe_op op_pow pe_int pe_int) pe_int)) rfl)
      (pss_one (ps_if (PW.pt (pw_and (pt_cmpR op_ge (pv 4) (pe_op op_pow pe_int pe_int) (nomark _)) (pw_and1 (pt_cmpR op_lt (pv 2) (pv 3) (nomark _)))))
        (pss_one (ps_dput hu (pv 0) pe_str (pe_op op_sub (pv 4) (pe_op op_pow pe_int pe_int)) rfl)) pss_nil)))))
      pss_nil)
      (pss_cons (ps_asg (pe_tup (pa_cons (pe_op op_mod (pe_callTy call_int1 (by rfl) mInt (by decide +kernel) (pa_cons (pe_dget hu (pv 0) pe_str (fun _ _ => rfl)) pa_nil)) (pv 1)) (pa_cons (pe_op op_fdivW (pe_dget hu (pv 0) pe_str (fun _ _ => rfl)) (pv 1)) pa_nil)))
          (pg_tup rfl (pgs_cons (pg_name (i := 5) scD.nd rfl (.inl rfl)) (pgs_cons (pg_sub (pv 0) pe_str (set_dict hu)) pgs_nil))))
      (pss_one (ps_ret (pv 5)))), ?_⟩
    refine ⟨_, rfl, d, _, rfl, get_left hd, _, rfl, _, _, rfl, rfl, _, rfl, ?_⟩
    refine ite2 (fun c => ?_) (fun c => ?_)
    · have e0 : ((ns.map V.int).length : Int) = (ns.length : Int) := by rw [List.length_map]
      have lp : 0 < ns.length := List.length_pos_iff.mpr hne
      obtain ⟨j, hj, ej⟩ : ∃ j : Nat, j < ns.length ∧ a % ((ns.map V.int).length : Int) = (j : Int) := by
        rw [e0]
        have h1 : 0 ≤ a % (ns.length : Int) := Int.emod_nonneg a (by omega)
        have h2 : a % (ns.length : Int) < (ns.length : Int) := Int.emod_lt_of_pos a (by omega)
        exact ⟨(a % (ns.length : Int)).toNat, by omega, by omega⟩
      have hat : atI (ns.map V.int) (j : Int) = some (.int ns[j]) := atI_nat (by rw [List.getElem?_map, List.getElem?_eq_getElem hj]; rfl)
      refine ⟨_, rfl, d, _, rfl, get_at hd, _, rfl, d, _, rfl, get_cells hd, l, _, rfl, .inl (SqL.of hl), _, _, rfl, ?_⟩
      refine ⟨_, rfl, d, _, rfl, get_cells hd, _, rfl, .inl ⟨_, rfl, _, rfl, _, _, rfl, rfl, (by show 0 < ((ns.map V.int).length : Int); omega), ?_⟩⟩
      refine ⟨l, _, _, .int ns[j], rfl, rfl, SqL.of hl, (by rw [ej]; exact hat), _, rfl, _, _, rfl, rfl, (by show 2 ≤ sizeLine; decide), fun t nt => ?_⟩
      have ndt : d ≠ t := ne_of_none hd nt
      have nlt : l ≠ t := ne_of_none hl nt
      have nld : l ≠ d := ne_of hl hd (by intro z; cases z)
      refine ⟨t, _, rfl, SqT.of upd_same, rfl, _, _, rfl, _, _, rfl, _, rfl, d, _, rfl, set_at (by rw [upd_ne ndt]; exact hd) _, rfl, ?_⟩
      generalize hcell : ns[j] = cell
      have h63 : 0 ≤ cell % 2147483563 := Int.emod_nonneg _ (by decide)
      have h64 : cell % 2147483563 < 2147483563 := Int.emod_lt_of_pos _ (by decide)
      refine ⟨_, rfl, .inl ⟨_, rfl, _, _, rfl, rfl, (by show (0 : Int) < 2147483563; decide), _, rfl, _, _, rfl, rfl, (.inl ⟨by decide, by decide⟩), _, _, rfl, rfl, _, _, rfl, rfl, _, _, rfl, rfl, ⟨by decide, by decide, by omega⟩, .inl ⟨_, rfl, _, _, rfl, rfl, ⟨by decide, by decide, by decide⟩, _, _, rfl, rfl, _, _, rfl, rfl, (by show (0 : Int) < 10 ^ 50 + 151; decide), ?_⟩⟩⟩
      refine ⟨_, rfl, d, _, rfl, set_left upd_same _, ?_⟩
      refine ⟨_, rfl, _, _, rfl, rfl, ⟨by decide, by decide, by decide⟩, _, _, rfl, rfl, _, rfl, ?_⟩
      refine ite2 (fun c1 => ?_) (fun c1 => ?_)
      · refine ⟨_, rfl, _, rfl, _, _, rfl, rfl, _, rfl, ?_⟩
        refine ite2 (fun c2 => ?_) (fun c2 => ?_)
        · refine ⟨_, rfl, _, _, rfl, rfl, ⟨by decide, by decide, by decide⟩, _, _, rfl, rfl, _, rfl, d, _, rfl, set_left upd_same _, ?_⟩
          refine ⟨_, rfl, d, _, rfl, get_left upd_same, .inl ⟨_, rfl, _, rfl, _, _, rfl, rfl, m0, _, rfl, d, _, rfl, get_left upd_same, _, rfl, _, _, rfl, rfl, wide_div (b := 64) m0 (by omega) (by decide) (by decide), (by show 2 ≤ sizeLine; decide), fun t2 nt2 => ?_⟩⟩
          have ndt2 : d ≠ t2 := ne_of_none upd_same nt2
          refine ⟨t2, _, rfl, SqT.of upd_same, rfl, _, _, rfl, _, _, rfl, _, rfl, d, _, rfl, set_left (by rw [upd_ne ndt2]; exact upd_same) _, rfl, _, rfl, q _ _ ((((But.refl : But d H H).new nt).upd.upd.upd).new nt2).upd ?_ (Int.emod_nonneg _ (by omega)) (Int.emod_lt_of_pos _ m0)⟩
          have nlt2 : l ≠ t2 := ne_of_none (by rw [upd_ne nld, upd_ne nld, upd_ne nld, upd_ne nlt]; exact hl) nt2
          exact ⟨ns, a + 1, _, upd_same, by rw [upd_ne nld, upd_ne nlt2, upd_ne nld, upd_ne nld, upd_ne nld, upd_ne nlt]; exact hl, hne, hlen, by omega, by push_cast; omega⟩
        · refine ⟨_, rfl, d, _, rfl, get_left upd_same, .inl ⟨_, rfl, _, rfl, _, _, rfl, rfl, m0, _, rfl, d, _, rfl, get_left upd_same, _, rfl, _, _, rfl, rfl, wide_div (b := 64) m0 (by omega) (by decide) (by decide), (by show 2 ≤ sizeLine; decide), fun t2 nt2 => ?_⟩⟩
          have ndt2 : d ≠ t2 := ne_of_none upd_same nt2
          refine ⟨t2, _, rfl, SqT.of upd_same, rfl, _, _, rfl, _, _, rfl, _, rfl, d, _, rfl, set_left (by rw [upd_ne ndt2]; exact upd_same) _, rfl, _, rfl, q _ _ ((((But.refl : But d H H).new nt).upd.upd).new nt2).upd ?_ (Int.emod_nonneg _ (by omega)) (Int.emod_lt_of_pos _ m0)⟩
          have nlt2 : l ≠ t2 := ne_of_none (by rw [upd_ne nld, upd_ne nld, upd_ne nlt]; exact hl) nt2
          exact ⟨ns, a + 1, _, upd_same, by rw [upd_ne nld, upd_ne nlt2, upd_ne nld, upd_ne nld, upd_ne nlt]; exact hl, hne, hlen, by omega, by push_cast; omega⟩
      · refine iteF ?_
        refine ⟨_, rfl, d, _, rfl, get_left upd_same, .inl ⟨_, rfl, _, rfl, _, _, rfl, rfl, m0, _, rfl, d, _, rfl, get_left upd_same, _, rfl, _, _, rfl, rfl, wide_div (b := 64) m0 (by omega) (by decide) (by decide), (by show 2 ≤ sizeLine; decide), fun t2 nt2 => ?_⟩⟩
        have ndt2 : d ≠ t2 := ne_of_none upd_same nt2
        refine ⟨t2, _, rfl, SqT.of upd_same, rfl, _, _, rfl, _, _, rfl, _, rfl, d, _, rfl, set_left (by rw [upd_ne ndt2]; exact upd_same) _, rfl, _, rfl, q _ _ ((((But.refl : But d H H).new nt).upd.upd).new nt2).upd ?_ (Int.emod_nonneg _ (by omega)) (Int.emod_lt_of_pos _ m0)⟩
        have nlt2 : l ≠ t2 := ne_of_none (by rw [upd_ne nld, upd_ne nld, upd_ne nlt]; exact hl) nt2
        exact ⟨ns, a + 1, _, upd_same, by rw [upd_ne nld, upd_ne nlt2, upd_ne nld, upd_ne nld, upd_ne nlt]; exact hl, hne, hlen, by omega, by push_cast; omega⟩
    · refine ⟨_, rfl, d, _, rfl, get_left hd, .inl ⟨_, rfl, _, rfl, _, _, rfl, rfl, m0, _, rfl, d, _, rfl, get_left hd, _, rfl, _, _, rfl, rfl, wide_div (b := 64) m0 (by omega) (by decide) (by decide), (by show 2 ≤ sizeLine; decide), fun t nt => ?_⟩⟩
      have ndt : d ≠ t := ne_of_none hd nt
      refine ⟨t, _, rfl, SqT.of upd_same, rfl, _, _, rfl, _, _, rfl, _, rfl, d, _, rfl, set_left (by rw [upd_ne ndt]; exact hd) _, rfl, _, rfl, q _ _ (((But.refl : But d H H)).new nt).upd ?_ (Int.emod_nonneg _ (by omega)) (Int.emod_lt_of_pos _ m0)⟩
      exact ⟨ns, a, _, upd_same, by rw [upd_ne (ne_of hl hd (by intro z; cases z)), upd_ne (ne_of_none hl nt)]; exact hl, hne, hlen, by omega, by push_cast; omega⟩
end
end Toy


namespace Toy
open PySem L2
section
variable {P : Program} {w : World} {K : PySem.W.Frag} {mg : Str → Option Value} {base : Heap}
theorem cut63 (ns : List Int) (h : ns.length ≤ 63) : cutV (ns.map V.int) none (some 63) = ns.map V.int := by
  unfold cutV
  rw [show HT.sIx (ns.map V.int).length (ns.map V.int).length (some 63) = min 63 (ns.map V.int).length from HT.sIx_nat _ _ 63, HT.sIx_none, List.length_map, show min 63 ns.length = ns.length by omega, List.drop_zero, Nat.sub_zero]
  exact List.take_of_length_le (by rw [List.length_map]; exact Nat.le_refl _)
theorem merge_tp (l : Addr) : mergeK [] [(kC, V.ref l), (kA, V.int 0), (kL, V.int 0)] = tp l 0 0 := by
  unfold mergeK
  simp only [List.foldl_cons, List.foldl_nil]
  unfold putK
  simp [k_ca, k_cl, k_al]
  rfl
def spBegin (K : PySem.W.Frag) : Sp := fun vs H Q _ => ∃ (a : Addr) (ns : List Int), vs = [.ref a] ∧ SqL K H a (ns.map V.int) ∧ ns.length ≤ 63 ∧ ∀ H' d l, Same H H' → H d = none → H l = none → l ≠ d → Tape H' d l 0 → Q (.ref d) H'
theorem scB : FnScope ["_law_script"] ["_law_script"] (defScope sBegin) := ⟨rfl, rfl, rfl, by decide +kernel, rfl, by decide +kernel, by decide +kernel⟩
theorem same_new {H H1 : Hp} {p : Addr} {u : HO} (a : Same H H1) (hp : H1 p = none) : Same H (upd H1 p u) := fun x o e => by
  rw [upd_ne (ne_of_none (a x o e) hp)]
  exact a x o e
theorem ok_begin {f : Addr} {fd : FuncData} (F : Fun K "_law_begin" "_law_begin" sBegin f fd) : FnOk P w K mg base CX0 1 f fd ["_law_script"] (spBegin K) := by
  refine F.ok scB (fun vs H Q E h => ?_) (fun cdv A outer s H vs Q E hr h => ?_)
  · obtain ⟨a, ns, rfl, _⟩ := h
    rfl
  · obtain ⟨a, ns, rfl, hS, hlen, q⟩ := h
    refine ⟨_, pss_one (ps_ret (pe_disp (pps_cons pe_str (pe_orT (pe_slice sl_list (pv 0) po_none (po_some pe_int)) (pe_one (pe_lst (pa_cons pe_int pa_nil)))) (pps_cons pe_str pe_int (pps_cons pe_str pe_int pps_nil))) (by rfl) (by rfl) (fun z => by cases z) (by decide))), ?_⟩
    intro p np
    have s1 : Same H (upd H p (.dK [])) := same_new (fun _ _ e => e) np
    refine ⟨_, rfl, 63, rfl, a, _, rfl, s1.seq hS, fun c nc => ?_⟩
    have npc : p ≠ c := ne_of_none upd_same nc
    refine ⟨_, .inl ⟨_, SqL.of upd_same, rfl⟩, ?_⟩
    have fin : ∀ (H2 : Hp) (l : Addr) (ms : List Int), H l = none → Same (upd H p (.dK [])) H2 → H2 l = some (.lst (ms.map V.int)) → ms ≠ [] → ms.length ≤ 1000 → Q (.ref p) (upd H2 p (.dK (mergeK [] [(kC, V.ref l), (kA, V.int 0), (kL, V.int 0)]))) := by
      intro H2 l ms nl s2 hl h1 h2
      have npl : l ≠ p := ne_of hl (s2 _ _ upd_same) (by intro z; cases z)
      rw [merge_tp]
      refine q _ p l (fun b o e => ?_) np nl npl ⟨ms, 0, 0, upd_same, by rw [upd_ne npl]; exact hl, h1, h2, Int.le_refl _, Int.le_refl _⟩
      rw [upd_ne (ne_of_none e np)]
      exact s2 _ _ (s1 _ _ e)
    refine ite2 (fun c1 => ?_) (fun c1 => ?_)
    · refine ⟨Eq.trans (upd_ne npc) upd_same, [(kC, V.ref c), (kA, V.int 0), (kL, V.int 0)], rfl, (by show 3 ≤ 15; decide), fin _ c ns (by rw [upd_ne npc.symm] at nc; exact nc) (same_new (fun _ _ e => e) nc) (by rw [upd_same, cut63 ns hlen]) ?_ (by omega)⟩
      intro z
      rw [z] at c1
      exact Bool.false_ne_true c1
    · refine ⟨(by show 1 ≤ sizeLine; decide), fun e ne => ?_⟩
      have npe : p ≠ e := ne_of_none (Eq.trans (upd_ne npc) upd_same) ne
      refine ⟨Eq.trans (upd_ne npe) (Eq.trans (upd_ne npc) upd_same), [(kC, V.ref e), (kA, V.int 0), (kL, V.int 0)], rfl, (by show 3 ≤ 15; decide), fin _ e [0] (by rw [upd_ne (ne_of_none upd_same ne).symm, upd_ne npe.symm] at ne; exact ne) (same_new (same_new (fun _ _ e => e) nc) ne) upd_same (by decide) (by decide)⟩
end
end Toy


namespace L2
open PySem PySem.Spec PyProof.Rows
/-! The law's own def, run by its caller alone (so that what runs around it is known: repr asks that). -/
/-- the body of the law, in the caller's surroundings -/
def BodyOk (P : Program) (w : World) (K : PySem.W.Frag) (mg : Str → Option Value) (base : Heap) (k : Nat) (N : List Str) (qual : Str) (sc : Scope) (body : List Stmt) (f : Addr) (sp : Sp) : Prop :=
  ∀ (cdv : Value) (s : Shared) (H : Hp) (vs : List V) (Q : VK) (E : XK), Room k (callerA.deeper (envOfC qual sc s.heap.objs.size f cdv)) → sp vs H Q E →
    ∃ t, PSs (cxOf CX0 P w K mg base N qual sc f cdv callerA [] s H E) body t ∧ t { nx := fun _ H' => Q .non H', rt := Q } (start N vs) H
section
variable {P : Program} {w : World} {K : PySem.W.Frag} {mg : Str → Option Value} {base : Heap} {k : Nat} {f : Addr} {x qual : Str} {params : Arguments} {body : List Stmt} {sc : Scope} {N ps : List Str} {sp : Sp} {fd : FuncData}
theorem body_run (F : FunD K x qual params body sc [] [] f fd) (S : FnScope N ps sc) (B : BodyOk P w K mg base k N qual sc body f sp) {s : Shared} {H : Hp} {args : Args} {us : List Value} {vs : List V} {Q : VK} {E : XK} (hr : Room (k + 1) callerA)
    (e0 : Env0 P w K mg base callerA [] s H) (hb : BindsTo s fd args (ps.zip us)) (r : Vals vs us) (hl : vs.length = ps.length) (h : sp vs H Q E) : codeAny (model P w) callerA (.call (.ref f) args) (CR CX0 [] P w H s Q E) s := by
  obtain ⟨oc, od, dV, kV, doc, pm, an, cdv, ct, osl, rfl, lk, hcd, _, _⟩ := F.ex
  have up : ∀ b o, base.get? b = some o → s.heap.get? b = some o := fun b o e => (e0.bs b o e).1
  have KX : K.In s.heap := e0.mod.kin.keeps up
  have kinds : ∀ y ∈ ps.zip us, sc.names.lookup y.1 = some .local ∨ (sc.names.lookup y.1 = some .cell ∧ ((cellsFrom (s.heap.objs.size + 1) sc.names []).lookup y.1).isSome = true) := by
    rintro ⟨n, v⟩ hy
    exact (S.par n (List.of_mem_zip hy).1).imp id fun q => ⟨q, PySem.W.cellsFrom_some _ _ _ (.inl q)⟩
  refine codeAny_call_function hr.depth (KX _ _ lk) rfl S.co S.gen rfl (PySem.W.codeRec_of KX hcd) (hb _ _ _ _ (wpAny_newFunctionEnv_cells S.kind kinds fun env he s1 x => ?_))
  subst he
  obtain ⟨t, ht, hq⟩ := B cdv s H vs Q E (hr.deeper _) h
  refine ⟨(e0.mod.nolimit.keeps up).keeps x.toInCall.keep, codeAny_func (wpAny_mono (ht.run [] s1 (start N vs) H _ (inv_start S hr.hd e0 hl r x) hq) (fun fl s' hs => ?_) fun e s' hs => hs)⟩
  cases fl with
  | ret u =>
    obtain ⟨v, σ', H', J, rv, q⟩ := hs
    exact ⟨v, H', J.os, J.bare, J.base, J.hok, rv, q⟩
  | next =>
    obtain ⟨σ', H', J, q⟩ := hs
    exact ⟨V.non, H', J.os, J.bare, J.base, J.hok, rfl, q⟩
  | brk =>
    obtain ⟨_, _, _, q⟩ := hs
    exact False.elim q
  | cont =>
    obtain ⟨_, _, _, q⟩ := hs
    exact False.elim q
end
end L2
namespace L2
open PySem PySem.Spec PyProof.Rows
section
variable {P : Program} {w : World} {K : PySem.W.Frag} {mg mb : Str → Option Value} {k : Nat} {a fa : Addr} {x qual nm : Str} {params : Arguments} {body : List Stmt} {sc : Scope} {N : List Str} {sp : Sp} {fd : FuncData} {s : Shared} {vs : List Value} {ns : List Int}
/-- where the abstract heap tracks the script alone (or nothing) -/
theorem ground_of {H : Hp} (KX : K.In s.heap) (g : s.heap.Ns mainGlobals mg) (b : s.heap.Ns builtinsNs mb) (bb : ∀ x : Str, x ≠ "__name__" → mb x = bootBuiltins x) (lim : s.heap.NoLimit) (gen : s.gens = #[])
    (ha : s.heap.get? a = some { cls := .type "list", data := .seq vs.toArray }) (hok : HOk P w H s.heap) (only : ∀ c, H c ≠ none → c = a) (out : H a ≠ none → K.lookup a = none) :
    ∃ base : Heap, K.In base ∧ base.Ns mainGlobals mg ∧ Env0 P w K mg base callerA [] s H := by
  have get : ∀ {c : Addr} {o : Obj}, s.heap.get? c = some o → H c = none → (hidT s.heap H).get? c = some o := fun e n => hidT_get e n
  have tab : ∀ {c : Addr} {m : Str → Option Value}, s.heap.Ns c m → (hidT s.heap H).Ns c m := by
    rintro c m ⟨o, es, ep, e, d, r⟩
    refine ⟨o, es, ep, get e (Classical.byContradiction fun q => ?_), d, r⟩
    have ca := only c q
    subst ca
    rw [ha] at e
    cases e
    cases (show Data.seq vs.toArray _ = Data.dict es ep from d)
  have kin : K.In (hidT s.heap H) := fun c o e => get (KX c o e) (Classical.byContradiction fun q => by
    have ca := only c q
    subst ca
    rw [out q] at e
    cases e)
  obtain ⟨mc, l1, l2⟩ := lim
  exact ⟨hidT s.heap H, kin, tab g, rfl, ⟨kin, tab g, ⟨mb, tab b, bb⟩, mc, tab l1, l2⟩, fun c o e => of_hidT e, Nat.le_of_eq (hidT_size _ _), trivial, (fun c hc => nomatch hc), hok, .of_eq gen⟩
theorem law_run (F : FunD K nm qual params body sc [] [] fa fd) (S : FnScope N [x] sc) (B : ∀ base : Heap, K.In base → base.Ns mainGlobals mg → BodyOk P w K mg base k N qual sc body fa sp) (hb : ∀ (s : Shared) (u : Value), BindsTo s fd ⟨[u], []⟩ [(x, u)]) (hr : Room (k + 1) callerA)
    (hsp : ∀ H : Hp, SqL K H a (ns.map V.int) → sp [.ref a] H (fun v _ => v = .bl true) fun _ _ _ => False)
    (KX : K.In s.heap) (g : s.heap.Ns mainGlobals mg) (b : s.heap.Ns builtinsNs mb) (bb : ∀ x : Str, x ≠ "__name__" → mb x = bootBuiltins x) (lim : s.heap.NoLimit) (gen : s.gens = #[])
    (ha : s.heap.get? a = some { cls := .type "list", data := .seq vs.toArray }) (hi : IntsAre vs ns) (hl : ns.length ≤ sizeLine) :
    codeAny (model P w) callerA (.call (.ref fa) ⟨[.ref a], []⟩) (fun r s' => r = .ok (.ret (.bool true)) ∧ OldK s.heap s'.heap ∧ s'.os = s.os ∧ AllBare s'.gens) s := by
  have run : ∀ H : Hp, SqL K H a (ns.map V.int) → HOk P w H s.heap → (∀ c, H c ≠ none → c = a) → (H a ≠ none → K.lookup a = none) → (∀ c u, H c = some u → ∃ o xs, u = .frz o (.lst xs)) →
      codeAny (model P w) callerA (.call (.ref fa) ⟨[.ref a], []⟩) (fun r s' => r = .ok (.ret (.bool true)) ∧ OldK s.heap s'.heap ∧ s'.os = s.os ∧ AllBare s'.gens) s := by
    intro H hS hok only out frz
    obtain ⟨base, k1, k2, e0⟩ := ground_of KX g b bb lim gen ha hok only out
    refine codeAny_mono (body_run (us := [.ref a]) (vs := [.ref a]) F S (B base k1 k2) hr e0 (hb s (.ref a)) (.cons rfl .nil) rfl (hsp H hS)) fun r s' q => ?_
    cases r with
    | error e => exact False.elim q
    | ok fl =>
      cases fl with
      | next => exact False.elim q
      | brk => exact False.elim q
      | cont => exact False.elim q
      | ret u =>
        obtain ⟨v, H', os, bare, un, hok', rv, ev⟩ := q
        have ev' : v = .bl true := ev
        subst ev'
        obtain rfl : u = Value.bool true := rv
        refine ⟨rfl, OldK.of_keep fun c o e => ?_, os, bare⟩
        cases q : H c with
        | none => exact un.keep c o e q (fun z => nomatch z) (fun z => nomatch z)
        | some u =>
          obtain ⟨ob, xs, rfl⟩ := frz c u q
          obtain ⟨e1, _⟩ := hok c _ q
          obtain ⟨e2, _⟩ := hok' c _ (un.frzs c ob _ q)
          rw [e] at e1
          cases e1
          exact e2
  have rv := vals_ints hi
  cases hk : K.lookup a with
  | some o =>
    have e := KX a o hk
    rw [ha] at e
    cases e
    exact run (fun _ => none) (.inr ⟨_, vs.toArray, _, hk, rfl, rfl, rfl, by rw [List.size_toArray, hi.length]; exact hl, by simpa using rv⟩) (fun c u z => nomatch z) (fun c z => absurd rfl z) (fun z => absurd rfl z) fun c u z => nomatch z
  | none =>
    refine run (fun c => if c = a then some (.frz { cls := .type "list", data := .seq vs.toArray } (.lst (ns.map V.int))) else none) (.inl (.inr ⟨{ cls := .type "list", data := .seq vs.toArray }, if_pos rfl⟩)) (fun c u z => ?_)
      (fun c z => Classical.byContradiction fun q => z (if_neg q)) (fun _ => hk) fun c u z => ?_
    · by_cases hc : c = a
      · have z' := (if_pos hc).symm.trans z
        cases z'
        subst hc
        exact ⟨ha, by rw [List.length_map]; exact hl, vs, _, rv, ha⟩
      · cases (if_neg hc).symm.trans z
    · by_cases hc : c = a
      · cases (if_pos hc).symm.trans z
        exact ⟨_, _, rfl⟩
      · cases (if_neg hc).symm.trans z
end
/-- the end -/
theorem walkG {l : PySem.W.OpenLaw} {n k : Nat} {q : Program} {loose : List Str} {XP : (Str → Option Value) → Heap → Prop} {YP : World → Heap → Prop} {d : DefRec} {x : Str} (hn : l.most = some n) (hn2 : n ≤ sizeLine) (hdf : d.params.defaults = []) (hr : Room (k + 1) callerA)
    (F : ∀ (w : World) (mg : Str → Option Value) (fa : Addr) (h : Heap), YP w h → h.Ns mainGlobals mg → mg d.name = some (.ref fa) →
      ∃ (K : PySem.W.Frag) (fd : FuncData) (nm qual : Str) (params : Arguments) (body : List Stmt) (sc : Scope) (N : List Str) (sp : Sp), K.In h ∧ FunD K nm qual params body sc [] [] fa fd ∧ FnScope N [x] sc ∧ (∀ (s : Shared) (u : Value), BindsTo s fd ⟨[u], []⟩ [(x, u)]) ∧
        (∀ (H : Hp) (a : Addr) (ns : List Int), ns.length ≤ n → SqL K H a (ns.map V.int) → sp [.ref a] H (fun v _ => v = .bl true) fun _ _ _ => False) ∧
        ∀ base : Heap, K.In base → base.Ns mainGlobals mg → BodyOk l.prog w K mg base k N qual sc body fa sp) :
    PySem.W.WalkO q loose XP YP l.row.toRowW d [] (fun f vs => PySem.call f vs) := by
  refine Att.attach_call hn hdf fun w s₀ s₁ mg mb fa o pm cd doc a vs ns G Y ho hd hcd hmg hobj hints hlen hg => ?_
  obtain ⟨K, fd, nm, qual, params, body, sc, N, sp, KX, FD, S, hb, hsp, B⟩ := F w mg fa _ Y G.T.g hmg
  exact law_run FD S B hb hr (fun H hS => hsp H a ns hlen hS) KX G.T.g G.T.b G.T.builtins G.T.nolimit hg hobj hints (Nat.le_trans hlen hn2)
end L2


namespace Toy
open PySem L2
theorem Same.delH {H H' : Hp} (s : Same H H') (z : Addr) : Same (L2.delH H z) (L2.delH H' z) := fun b o e => by
  by_cases h : b = z
  · rw [h, delH_same] at e
    cases e
  · rw [delH_ne h] at e ⊢
    exact s b o e
theorem Same.off {H : Hp} (z : Addr) : Same (L2.delH H z) H := fun b o e => by
  by_cases h : b = z
  · rw [h, delH_same] at e
    cases e
  · rw [delH_ne h] at e
    exact e
theorem But.off {H H' : Hp} {z : Addr} (s : But z H H') : Same (L2.delH H z) (L2.delH H' z) := fun b o e => by
  by_cases h : b = z
  · rw [h, delH_same] at e
    cases e
  · rw [delH_ne h] at e ⊢
    exact s b o h e
theorem Same.but {H H' : Hp} (s : Same H H') (z : Addr) : But z H H' := fun b o _ e => s b o e
theorem few {n : Nat} (h : n ≤ 1000) : n ≤ sizeLine := Nat.le_of_lt (small1000 h)
theorem Tape.same {H H' : Hp} {d l : Addr} {n : Nat} (t : Tape H d l n) (s : Same H H') : Tape H' d l n := by
  obtain ⟨ns, a, f, h1, h2, h3⟩ := t
  exact ⟨ns, a, f, s _ _ h1, s _ _ h2, h3⟩
abbrev partOf (st : Stmt) (i : Nat) : Stmt := (defBody st).getD i (.Pass ⟨0, 0, 0, 0⟩)
end Toy


namespace Toy
open PySem L2
abbrev sShuf : Stmt := top 23
/-! ### a row of texts in any order -/
theorem dpStrs {K : PySem.W.Frag} {H : Hp} : ∀ ks : List Str, DpAll K H (ks.map V.str) (ks.map PyData.str)
  | [] => .nil
  | k :: ks => .cons (.str k) (dpStrs ks)
theorem layStrs : ∀ {ks : List Str}, (∀ k ∈ ks, PyData.strOk k = true) → PyData.canLayAll0 (ks.map PyData.str) = true
  | [], _ => by simp [PyData.canLayAll0]
  | k :: ks, h => by
    simp only [List.map_cons, PyData.canLayAll0, PyData.canLay0]
    rw [h k List.mem_cons_self, layStrs fun x hx => h x (List.mem_cons_of_mem _ hx)]
    rfl
theorem erase_perm {α : Type} : ∀ (l : List α) (j : Nat) (h : j < l.length), (l[j] :: l.eraseIdx j).Perm l
  | x :: l, 0, _ => List.Perm.refl _
  | x :: l, j + 1, h => (List.Perm.swap x _ _).trans (.cons x (erase_perm l j (Nat.lt_of_succ_lt_succ h)))
theorem erase_map {α β : Type} (f : α → β) : ∀ (l : List α) (j : Nat), (l.map f).eraseIdx j = (l.eraseIdx j).map f
  | [], _ => rfl
  | _ :: _, 0 => rfl
  | x :: l, j + 1 => congrArg (f x :: ·) (erase_map f l j)
theorem depthStrs : ∀ ks : List Str, PyData.depthAll (ks.map PyData.str) ≤ 1
  | [] => by simp [PyData.depthAll]
  | k :: ks => by
    have := depthStrs ks
    simp only [List.map_cons, PyData.depthAll, PyData.depth]
    omega
theorem shapedStrs {ks : List Str} (h : ∀ k ∈ ks, PyData.strOk k = true) : SeqAt.shaped (.list (ks.map PyData.str)) = true := by
  unfold SeqAt.shaped
  have z := depthStrs ks
  rw [show (PyData.list (ks.map PyData.str)).canLay0 = true by simp only [PyData.canLay0]; exact layStrs h, Bool.true_and]
  exact decide_eq_true (by simp only [PyData.depth]; omega)
/-- all that stood stands, but at d, at a list L and at a list G -/
def spShuf : Sp := fun vs H Q _ => ∃ (d l p : Addr) (n : Nat) (ks : List Str), vs = [.ref d, .ref p] ∧ Tape H d l n ∧ n ≤ 900000 ∧ H p = some (.lst (ks.map V.str)) ∧ ks.length ≤ 20 ∧ (∀ k ∈ ks, PyData.strOk k = true) ∧
  ∀ H' R (ys : List Str), But d H H' → Tape H' d l (n + ks.length) → H R = none → H' R = some (.lst (ys.map V.str)) → ys.Perm ks → Q (.ref R) H'
section
variable {P : Program} {w : World} {K : PySem.W.Frag} {mg : Str → Option Value} {base : Heap}
theorem scSh : FnScope ["_law_tape", "_law_items", "_law_left", "_law_got"] ["_law_tape", "_law_items"] (defScope sShuf) := ⟨rfl, rfl, rfl, by decide +kernel, rfl, by decide +kernel, by decide +kernel⟩
theorem ok_shuf {f fD : Addr} {fd fdD : FuncData} (F : Fun K "_law_shuffled" "_law_shuffled" sShuf f fd) (GD : FnOk P w K mg base CX0 1 fD fdD ["_law_tape", "_law_many"] spDraw) (mD : mg "_law_draw" = some (.ref fD)) (kD : PySem.W.keepIn K (.ref fD) = true) (bD : Binds K fdD ["_law_tape", "_law_many"] []) (mLen : mg "len" = none) (mList : mg "list" = none) :
    FnOk P w K mg base CX0 2 f fd ["_law_tape", "_law_items"] spShuf := by
  refine F.ok scSh (fun vs H Q E h => ?_) (fun cdv A outer s H vs Q E hr h => ?_)
  · obtain ⟨d, l, p, n, ks, rfl, _⟩ := h
    rfl
  · obtain ⟨d, l, p, n, ks, rfl, hT, hn, hp, hlen, hok, q⟩ := h
    refine ⟨_, pss_cons (ps_par (i := 2) (j := 3) rfl scSh.nd rfl rfl (by decide) rfl rfl (pa_cons (pe_callTy call_list_of (by rfl) mList (by decide +kernel) (pa_cons (pv 1) pa_nil)) (pa_cons (pe_lst pa_nil) pa_nil)) (by rfl))
      (pss_cons (ps_while PassesOwn.never (pt_cmpR (op_neD hr.units) (pv 2) (pe_lst pa_nil) (nomark _))
        (pss_one (ps_expr (pe_bm PySem.F.plainAttrs_list PySem.F.slot_list_append PySem.F.type_list_append mt_append (pv 3) (pa_cons (pe_bm PySem.F.plainAttrs_list PySem.F.slot_list_pop PySem.F.type_list_pop mt_popAt (pv 2)
          (pa_cons (pe_call GD hr (by rfl) mD kD bD .nil pass0 (pa_cons (pv 0) (pa_cons (pe_callB call_len_seq (by rfl) mLen PySem.boot_len (pa_cons (pv 2) pa_nil)) pa_nil))) pa_nil)) pa_nil)))))
      (pss_one (ps_ret (pv 3)))), ?_⟩
    refine ⟨_, rfl, p, _, rfl, .inl (SqL.of hp), fun L nL => ⟨Nat.zero_le _, fun G nG => ⟨_, _, rfl, ?_⟩⟩⟩
    have nLG : L ≠ G := ne_of_none upd_same nG
    have nG0 : H G = none := by rw [upd_ne nLG.symm] at nG; exact nG
    have hd0 : ∃ o, H d = some o := by
      obtain ⟨ns, a, f, h1, _⟩ := hT
      exact ⟨_, h1⟩
    obtain ⟨od, hd0⟩ := hd0
    have ndL : d ≠ L := ne_of_none hd0 nL
    have hl0 : ∃ o, H l = some o := by
      obtain ⟨ns, a, f, _, h1, _⟩ := hT
      exact ⟨_, h1⟩
    obtain ⟨ol, hl0⟩ := hl0
    have nlL : l ≠ L := ne_of_none hl0 nL
    have nlG : l ≠ G := ne_of_none hl0 nG0
    have ndG : d ≠ G := ne_of_none hd0 nG0
    refine ⟨fun m σ H' => ∃ xs ys : List Str, m = xs.length ∧ σ = [some (.ref d), some (.ref p), some (.ref L), some (.ref G)] ∧ (xs ++ ys).Perm ks ∧ Tape H' d l (n + ys.length) ∧ H' L = some (.lst (xs.map V.str)) ∧ H' G = some (.lst (ys.map V.str)) ∧ But d H H',
      ⟨_, ks, [], rfl, rfl, by rw [List.append_nil], (hT.same (same_new (same_new (fun _ _ z => z) nL) nG)), (upd_ne nLG).trans upd_same, upd_same, Same.but (same_new (same_new (fun _ _ z => z) nL) nG) d⟩, fun m σ H1 hW => ?_⟩
    obtain ⟨xs, ys, rfl, rfl, hpm, hT1, hL, hG, hb⟩ := hW
    have okx : ∀ k ∈ xs, PyData.strOk k = true := fun k hk => hok k (hpm.mem_iff.mp (List.mem_append_left _ hk))
    have lens : xs.length + ys.length = ks.length := by rw [← List.length_append]; exact hpm.length_eq
    refine ⟨_, rfl, Nat.zero_le _, fun e ne => ⟨.list (xs.map PyData.str), .list [], .lst (SqL.of ((upd_ne (ne_of_none hL ne)).trans hL)) (dpStrs xs), .lst (SqL.of upd_same) .nil, shapedStrs okx, by decide +kernel, _, rfl, ?_⟩⟩
    have s1 : Same H1 (upd H1 e (.lst [])) := same_new (fun _ _ z => z) ne
    cases xs with
    | nil =>
      have hq : (!PyData.eqv (.list (List.map PyData.str [])) (.list [])) = false := by decide +kernel
      rw [hq]
      refine iteF ⟨_, rfl, q _ G ys (hb.trans (Same.but s1 d)) (hT1.same s1 |> fun t => by
        have e2 : ys.length = ks.length := by simpa using lens
        rw [e2] at t
        exact t) nG0 (s1 _ _ hG) (by simpa using hpm)⟩
    | cons x xs =>
      have hq : (!PyData.eqv (.list (List.map PyData.str (x :: xs))) (.list [])) = true := by
        simp [PyData.eqv, PyData.eqvAll]
      rw [hq]
      refine iteT ?_
      have hL1 := s1 _ _ hL
      have hG1 := s1 _ _ hG
      have lp : (List.map V.str (x :: xs)).length = xs.length + 1 := by rw [List.length_map]; rfl
      refine ⟨fun σ' H' => ∃ xs' ys' : List Str, xs.length = xs'.length ∧ σ' = [some (.ref d), some (.ref p), some (.ref L), some (.ref G)] ∧ (xs' ++ ys').Perm ks ∧ Tape H' d l (n + ys'.length) ∧ H' L = some (.lst (xs'.map V.str)) ∧ H' G = some (.lst (ys'.map V.str)) ∧ But d H H',
        fun σ' H' ⟨xs', ys', h1, h2⟩ => ⟨xs.length, Nat.lt_succ_self _, xs', ys', h1, h2⟩, ?_⟩
      have lens' : xs.length + 1 + ys.length = ks.length := by simpa using lens
      refine ⟨_, rfl, .inl ⟨rfl, _, SqL.of hG1⟩, _, rfl, .inl ⟨rfl, _, SqL.of hL1⟩, _, rfl, _, rfl, L, _, rfl, .inl (SqL.of hL1), d, l, n + ys.length, _, rfl, hT1.same s1, by omega, by rw [lp]; omega, by rw [lp]; omega, fun H2 r b2 t2 r0 r1 => ?_⟩
      rw [lp] at r1
      obtain ⟨j, rfl⟩ : ∃ j : Nat, r = (j : Int) := ⟨r.toNat, by omega⟩
      have hj : j < (x :: xs).length := by simp only [List.length_cons]; omega
      have hL2 := b2 _ _ ndL.symm hL1
      have hG2 := b2 _ _ ndG.symm hG1
      have g1 : (List.map V.str (x :: xs))[j]? = some (.str (x :: xs)[j]) := by rw [List.getElem?_map, List.getElem?_eq_getElem hj]; rfl
      refine ⟨L, _, _, j, _, rfl, rfl, hL2, by omega, by omega, by rw [seqIndex_of (by omega) (by rw [lp]; omega)]; simp, g1, ?_⟩
      refine ⟨G, _, _, rfl, rfl, (upd_ne nLG.symm).trans hG2, small1000 (by rw [List.length_map]; omega), (x :: xs).eraseIdx j, ys ++ [(x :: xs)[j]], ?_, rfl, ?_, ?_, ?_, ?_, ?_⟩
      · rw [List.length_eraseIdx, if_pos hj]
        simp
      · refine List.Perm.trans ?_ hpm
        have z := erase_perm (x :: xs) j hj
        have z2 : ((x :: xs).eraseIdx j ++ (ys ++ [(x :: xs)[j]])).Perm ((x :: xs)[j] :: (x :: xs).eraseIdx j ++ ys) := by
          rw [← List.append_assoc]
          exact List.perm_append_comm.trans (by simp)
        exact z2.trans (List.Perm.append_right ys z)
      · rw [List.length_append]
        obtain ⟨ms, a, f', h1, h2, h3⟩ := t2
        exact ⟨ms, a, f', by rw [upd_ne ndG, upd_ne ndL]; exact h1, by rw [upd_ne nlG, upd_ne nlL]; exact h2, h3⟩
      · rw [upd_ne nLG, upd_same, erase_map]
      · rw [upd_same, List.map_append]
        rfl
      · intro b o hb0 ho
        have h2 := b2 _ _ hb0 (s1 _ _ (hb b o hb0 ho))
        rw [upd_ne (ne_of_none ho nG0), upd_ne (ne_of_none ho nL)]
        exact h2
end
end Toy


/-! a dict of one key that is None or True: displayed, walked -/
namespace PySem
open Sem (wp)
section
variable {prog : Program} {w : World} {A : Around} {E : Value → Shared → Prop} {s : Shared}
theorem wpAny_Dict_one {k v : Expr} {env : Env} {pos : Pos} {Q : Value → Shared → Prop}
    (h : wpAny (model prog w) A (evalPairs (pairTrees [some k] [v] env pos)) (fun vs s₁ => ∃ kv vv, vs = [(kv, vv)] ∧ wpAny (model prog w) A (dictSet s.heap.objs.size kv vv) (fun _ s₂ => Q (.ref s.heap.objs.size) s₂) E s₁) E
      { s with heap := s.heap.push { cls := .type "dict", data := .dict #[] } }) :
    wpAny (model prog w) A (eval (.Dict [some k] [v] pos) env) Q E s := by
  have hn := pairTrees_length [some k] [v] env pos rfl rfl
  have h0 : pairTrees [some k] [v] env pos ≠ [] := fun e => by
    rw [e] at hn
    cases hn
  rw [arm_eval_Dict, zip_pairTrees [some k] [v] env pos rfl rfl, dictDisplay_pairs _ h0 (by rw [hn]; show 1 < 17; decide)]
  refine wpAny_bind (wpAny_standAt (wpAny_bind ?_))
  unfold subDict
  refine wpAny_bind (wpAny_alloc ?_)
  refine wpAny_bind (wpAny_holding ?_)
  rw [if_pos (by rw [hn]; show 1 ≤ 15; decide)]
  refine wpAny_bind (wpAny_mono h (fun vs s₁ h₁ => ?_) fun _ _ e => e)
  obtain ⟨kv, vv, rfl, h₁⟩ := h₁
  refine wpAny_holding ?_
  refine wpAny_bind ?_
  rw [List.forIn_cons]
  refine wpAny_bind (wpAny_bind (wpAny_mono h₁ (fun _ s₂ h₂ => wpAny_pure ?_) fun _ _ e => e))
  dsimp only
  rw [List.forIn_nil]
  exact wpAny_pure (wpAny_pure (wpAny_pure (wpAny_pure h₂)))
end
end PySem
namespace L2
open PySem PySem.Spec PyProof.Rows
def exO (p : Addr) (o : Obj) : HO := .ext fun h => h.get? p = some o
def OddO (o : Obj) (k : V) : Prop := o.ExactDict ∧ ∃ (en : DictEntry) (ep : Nat), o.data = .dict #[en] ep ∧ RelV k en.key
def NoStr (k : V) : Prop := k = .non ∨ (∃ i, k = .int i) ∨ ∃ b, k = .bl b
/-- at p a dict of the one key k -/
def OddD (H : Hp) (p : Addr) (k : V) : Prop := ∃ o, H p = some (exO p o) ∧ OddO o k ∧ NoStr k ∧ (p == sysModules) = false
def tDisp1 (tk tv : TE) : TE := fun σ H Q => ∀ p, H p = none → tk σ (upd H p (.dK [])) fun k H1 => tv σ H1 fun _ H2 => H2 p = some (.dK []) ∧ (k = .non ∨ k = .bl true) ∧ ∀ o k', OddO o k' → NoStr k' → (p == sysModules) = false → Q (.ref p) (upd H2 p (exO p o))
section
variable {X : Cx}
theorem pe_disp1 {e1 e2 : Expr} {pos : Pos} {tk tv : TE} (hk : PE X e1 tk) (hv : PE X e2 tv) : PE X (.Dict [some e1] [e2] pos) (tDisp1 tk tv) := by
  refine ⟨fun pins s σ H Q I q => ?_⟩
  have hn := I.hok.fresh (Nat.le_refl s.heap.objs.size)
  have I1 := I.laid (a := s.heap.objs.size) (o := .dK []) (h' := s.heap.push { cls := .type "dict", data := .dict #[] }) (t' := s.toks) (fun _ _ q => Heap.get?_push_of_some _ q) (Nat.le_refl _) (dk_empty s.heap I.big)
  refine wpAny_Dict_one (thn ((pps_cons hk hv pps_nil).run pins _ σ _ (fun ps H2 => match ps with
    | [(k, _)] => H2 s.heap.objs.size = some (.dK []) ∧ (k = .non ∨ k = .bl true) ∧ ∀ o k', OddO o k' → NoStr k' → (s.heap.objs.size == sysModules) = false → Q (.ref s.heap.objs.size) (upd H2 s.heap.objs.size (exO s.heap.objs.size o))
    | _ => False) I1 (q _ hn)) fun ws s2 ⟨ps, H2, I2, rel, hq⟩ => ?_)
  match ps, rel, hq with
  | [], _, hq => exact hq.elim
  | _ :: _ :: _, _, hq => exact hq.elim
  | [(k, v)], rel, hq =>
    obtain ⟨e, kk, q2⟩ := hq
    obtain ⟨kv, vv, rfl, r1, r2⟩ : ∃ kv vv, ws = [(kv, vv)] ∧ RelV k kv ∧ RelV v vv := by
      cases rel with
      | @cons _ b _ _ r t =>
        cases t
        exact ⟨b.1, b.2, rfl, r.1, r.2⟩
    obtain ⟨z, hd, vs0, r0, dd⟩ := dk_of I2.hok e
    cases r0
    refine ⟨kv, vv, rfl, ?_⟩
    obtain ⟨lk, hkey⟩ : ∃ lk : Leaf, (leafKind X.prog X.w).is lk kv = true ∧ ((lk = .none) ∨ lk = .num 1) := by
      rcases kk with rfl | rfl
      · obtain rfl : kv = .none := r1
        exact ⟨.none, rfl, .inl rfl⟩
      · obtain rfl : kv = .bool true := r1
        exact ⟨.num 1, rfl, .inr rfl⟩
    have dd0 : s2.heap.DictOf (leafKind X.prog X.w) s.heap.objs.size [] := by
      obtain ⟨o, es, ep, h1, h2, h3, h4, h5, h6⟩ := dd
      have e0 : es.toList = [] := by
        have := h5.length
        exact List.length_eq_zero_iff.mp this
      refine ⟨o, es, ep, h1, h2, h3, fun en hen => ?_, ?_, List.nodup_nil⟩
      · have : en ∈ es.toList := Array.mem_toList_iff.mpr hen
        rw [e0] at this
        cases this
      · rw [e0]
        exact .nil
    refine wpAny_dictSet_pairs hkey.1 dd0 fun h' dd' hs => ?_
    obtain ⟨o, es, ep, h1, h2, h3, h4, h5, h6⟩ := dd'
    obtain ⟨en, ee, hen⟩ : ∃ en, es = #[en] ∧ (leafKind X.prog X.w).is lk en.key = true := by
      have h5' : Pairs (leafKind X.prog X.w) es.toList [(lk, vv)] := h5
      generalize hl : es.toList = l at h5'
      cases h5' with
      | @cons en _ _ _ a b c =>
        cases c
        refine ⟨en, ?_, a⟩
        rw [← Array.toArray_toList (xs := es), hl]
    subst ee
    obtain ⟨k', rk, nk⟩ : ∃ k' : V, RelV k' en.key ∧ NoStr k' := by
      rcases hkey.2 with rfl | rfl
      · generalize en.key = u at hen
        cases u <;> first | exact ⟨.non, rfl, .inl rfl⟩ | exact absurd hen Bool.false_ne_true
      · generalize en.key = u at hen
        cases u with
        | int j t => exact ⟨.int j, ⟨t, rfl⟩, .inr (.inl ⟨j, rfl⟩)⟩
        | bool b => exact ⟨.bl b, rfl, .inr (.inr ⟨b, rfl⟩)⟩
        | _ => exact absurd hen Bool.false_ne_true
    refine ⟨.ref s.heap.objs.size, _, d_write I2 (by rw [e]; exact True.intro) hs ⟨o, h1⟩ ?_, rfl, q2 o k' ⟨h2, en, ep, h3, rk⟩ nk hd⟩
    exact ⟨h1, ⟨o, h1⟩, fun g1 g2 f1 kp => kp _ f1⟩
end
end L2


namespace L2
open PySem PySem.Spec PyProof.Rows
/-- the sort of a value, dicts of odd keys too -/
inductive TyO (K : PySem.W.Frag) (H : Hp) : V → Value → Prop
  | tyx {x : V} {t : Value} (h : TyX K H x t) : TyO K H x t
  | odd {p : Addr} {k : V} (h : OddD H p k) : TyO K H (.ref p) (.type "dict")
def rIsiO (K : PySem.W.Frag) : List V → Hp → VK → Prop := fun xs H Q => ∃ (x c : V) (t u : Value) (b : Bool), xs = [x, c] ∧ ClsV c u ∧ TyO K H x t ∧ PySem.W.kitOne K t u = some b ∧ Q (.bl b) H
def rIsiTO (K : PySem.W.Frag) : List V → Hp → VK → Prop := fun xs H Q => ∃ (x : V) (tp : Addr) (cs : List V) (t : Value) (us : List Value) (b : Bool), xs = [x, .ref tp] ∧ H tp = some (.tup cs) ∧ Paired ClsV cs us ∧ TyO K H x t ∧ PySem.W.kitAny K t us = some b ∧ Q (.bl b) H
section
variable {X : Cx} {pins : List (Addr × Obj)} {σ : St} {H : Hp} {s : Shared}
theorem odd_at {p : Addr} {o : Obj} (I : Inv X pins σ H s) (h : H p = some (exO p o)) : s.heap.get? p = some o := (show ObjOk X.prog X.w H s.heap p (exO p o) from I.hok p _ h).1
theorem kit_ofO {x : V} {u t : Value} (I : Inv X pins σ H s) (rx : RelV x u) (ty : TyO X.K H x t) : ∃ P : Heap → Prop, PySem.W.KitX X.K u t P ∧ P s.heap ∧ u ≠ .builtin "__main__.__loader__#opaque" := by
  cases ty with
  | tyx h => exact kit_of I rx h
  | odd h =>
    obtain ⟨o, h1, ⟨h2, _⟩, _⟩ := h
    obtain rfl : u = Value.ref _ := rx
    exact ⟨_, PySem.W.kitx_dict, ⟨o, odd_at I h1, h2.1⟩, fun z => nomatch z⟩
theorem call_isiO : CallR X (.builtin "isinstance") (rIsiO X.K) := by
  intro pins s σ H xs us Q I r h
  obtain ⟨x, c, t, u, b, rfl, k, ty, e, q⟩ := h
  obtain ⟨u1, u2, rfl, r1, r2⟩ := vals2 r
  have e2 := k.eq r2
  subst e2
  obtain ⟨P, Z, p, hx⟩ := kit_ofO I r1 ty
  exact PySem.W.kia_one Z I.kIn p e hx fun tk => ⟨.bl b, H, I.tok tk, rfl, q⟩
theorem call_isiTO : CallR X (.builtin "isinstance") (rIsiTO X.K) := by
  intro pins s σ H xs us Q I r h
  obtain ⟨x, tp, cs, t, ws, b, rfl, hT, k, ty, e, q⟩ := h
  obtain ⟨u1, u2, rfl, r1, r2⟩ := vals2 r
  cases (show u2 = Value.ref tp from r2)
  obtain ⟨P, Z, p, hx⟩ := kit_ofO I r1 ty
  obtain ⟨_, its, rv, o, h1, h2, n, h3⟩ := (show ObjOk X.prog X.w H s.heap tp (.tup cs) from I.hok tp _ hT)
  have e3 := ClsV.all k rv
  subst e3
  obtain ⟨oc, od, dt, sl⟩ := o
  simp only at h2 h3
  subst h2 h3
  exact PySem.W.kia_tup Z I.kIn p h1 e hx fun tk => ⟨.bl b, H, I.tok tk, rfl, q⟩
end
/-- the one key of an odd dict -/
def Ito (p : Addr) (o : Obj) (k : V) : It := ⟨fun i H => H p = some (exO p o) ∧ i < 1, fun i H x H' => H' = H ∧ x = k, fun i H => H p = some (exO p o) ∧ 1 ≤ i⟩
theorem turn_odd {P : Program} {w : World} {K : PySem.W.Frag} {tg : Expr} {p : Addr} {o : Obj} {k : V} {en : DictEntry} {ep : Nat} (it : Addr) (hod : o.data = .dict #[en] ep) (rk : RelV k en.key) : Turn P w K tg (Ito p o k) [it] it (fun i h => h.IsKeyIter it p i 1 ep) where
  mem := by simp
  obj := fun i h st b hb => by
    have e : b = it := by simpa using hb
    subst e
    obtain ⟨oi, e, c, dd⟩ := st
    exact ⟨oi, e, fun v z => by rw [dd] at z; cases z⟩
  keep := fun i h h' st k => st.at fun oi e => k it (by simp) oi e
  item := by
    intro X hP hw hK hc i pins s σ H E I hf st hg
    subst hP hw hK
    obtain ⟨hd, hi⟩ := hg
    obtain ⟨f0, f1, f2, f3, f4, f5⟩ := hf it (by simp)
    have hgd := odd_at I hd
    obtain rfl : i = 0 := by omega
    refine next_key_item st hgd hod rfl (en := en) rfl fun h' st' sb => ?_
    have I1 : Inv X pins σ H { s with heap := h' } := I.turned (t' := s.toks) (fun b ob hb e => (sb.2 b hb).trans e) f0 f1 f3 f4 f5
    obtain ⟨oi, e, c, dd⟩ := id st'
    exact ⟨en.key, rfl, go_of (s := { s with heap := h' }) e c dd (by decide) ⟨k, H, I1, rk, ⟨rfl, rfl⟩, st', fun b hb => (hf b hb).1⟩⟩
  done := by
    intro X hP hw hK hc i pins s σ H E I hf st hg
    subst hP hw hK
    obtain ⟨hd, hi⟩ := hg
    obtain ⟨f0, f1, f2, f3, f4, f5⟩ := hf it (by simp)
    exact next_key_end (I.ok.hd hc) st (odd_at I hd) hod rfl hi fun h' eb => ⟨rfl, I.turned (t' := s.toks) (fun b ob hb e => eb b ob hb e) f0 f1 f3 f4 f5⟩
  self := fun A i s Q E st h => wpAny_pyIter_keyiter st h
def iOdd (td : TE) : TI := fun σ H R => td σ H fun x H1 => ∃ p o k, x = .ref p ∧ H1 p = some (exO p o) ∧ OddO o k ∧ (p == sysModules) = false ∧ R (Ito p o k) H1
theorem walk_odd {p : Addr} {o : Obj} {k : V} : Walk (Ito p o k) 1 (fun H => H p = some (exO p o)) (fun i H x H' => H' = H ∧ x = k) :=
  ⟨fun _ _ hi q => ⟨q, hi⟩, fun _ q => ⟨q, Nat.le_refl _⟩, fun _ _ _ _ _ _ y => y⟩
section
variable {X : Cx} {tg e : Expr} {td : TE}
theorem pi_odd (he : PE X e td) : PI X tg e (iOdd td) := by
  refine ⟨fun pins s σ H R I h => ?_⟩
  refine thn (he.run pins s σ H _ I h) fun u s1 ⟨x, H1, I1, rx, p, o, k, ex, hp, ho, hs, q⟩ => ?_
  subst ex
  obtain rfl : u = Value.ref p := rx
  obtain ⟨hx, en, ep, hdt, rk⟩ := ho
  exact iter_keys hs (odd_at I1 hp) hx hdt (pi_one (tk := s1.toks) I1 _ (turn_odd _ hdt rk) ⟨_, Heap.get?_push_size _ rfl, rfl, rfl⟩ q)
def tDispT (tk tv : TE) : TE := fun σ H Q => ∀ p, H p = none → tk σ (upd H p (.dT [])) fun k H1 => tv σ H1 fun v H2 => ∃ (t : Addr) (ks : List Key), k = .ref t ∧ H2 t = some (.tup (ks.map kV)) ∧ H2 p = some (.dT []) ∧ Q (.ref p) (upd H2 p (.dT [(ks, v)]))
theorem pe_dispT {e1 e2 : Expr} {pos : Pos} {tk tv : TE} (hu : X.A.units + 1 < cLine) (hk : PE X e1 tk) (hv : PE X e2 tv) : PE X (.Dict [some e1] [e2] pos) (tDispT tk tv) := by
  refine ⟨fun pins s σ H Q I q => ?_⟩
  have hn := I.hok.fresh (Nat.le_refl s.heap.objs.size)
  have I1 := I.laid (a := s.heap.objs.size) (o := .dT []) (h' := s.heap.push { cls := .type "dict", data := .dict #[] }) (t' := s.toks) (fun _ _ q => Heap.get?_push_of_some _ q) (Nat.le_refl _) (dt_empty s.heap I.big)
  refine wpAny_Dict_one (thn ((pps_cons hk hv pps_nil).run pins _ σ _ (fun ps H2 => match ps with
    | [(k, v)] => ∃ (t : Addr) (ks : List Key), k = .ref t ∧ H2 t = some (.tup (ks.map kV)) ∧ H2 s.heap.objs.size = some (.dT []) ∧ Q (.ref s.heap.objs.size) (upd H2 s.heap.objs.size (.dT [(ks, v)]))
    | _ => False) I1 (q _ hn)) fun ws s2 ⟨ps, H2, I2, rel, hq⟩ => ?_)
  match ps, rel, hq with
  | [], _, hq => exact hq.elim
  | _ :: _ :: _, _, hq => exact hq.elim
  | [(k, v)], rel, hq =>
    obtain ⟨t, ks, rfl, et, e, q2⟩ := hq
    obtain ⟨kv, vv, rfl, r1, r2⟩ : ∃ kv vv, ws = [(kv, vv)] ∧ RelV (.ref t) kv ∧ RelV v vv := by
      cases rel with
      | @cons _ b _ _ r t =>
        cases t
        exact ⟨b.1, b.2, rfl, r.1, r.2⟩
    obtain rfl : kv = Value.ref t := r1
    obtain ⟨z, hd, xs, rel, dd⟩ := dt_of I2.hok e
    have hz : xs.length ≤ sizeLine := by rw [← Paired.length rel]; exact z
    refine ⟨_, vv, rfl, ?_⟩
    refine wpAny_dictSet_heap (hsz := hz) (show (tupleKind (mixKind X.prog X.w)).room X.A from Nat.lt_of_succ_lt hu) (key_of I2.hok et) dd fun h' dd' hs => ?_
    obtain ⟨qo, es, ep, hq, h2, h3, h4, _, h5⟩ := dd'
    refine ⟨.ref s.heap.objs.size, upd H2 s.heap.objs.size (.dT [(ks, v)]), d_write I2 (by rw [e]; exact True.intro) hs ⟨qo, hq⟩ ⟨Toy.few (by show 1 ≤ 1000; decide), hd, _, (rel.put ks et r2).keeps fun c ys ec => ?_, qo, es, ep, hq, h2, h3, h4, h5⟩, rfl, q2⟩
    rw [upd_ne (ne_of ec e (fun z => nomatch z))]
    exact ec
end
end L2


/-! a text times a number -/
namespace L2
open PySem PySem.Spec PyProof.Rows
def repS (x : Str) (n : Nat) : Str := ⟨(List.replicate n x.cps).foldl (· ++ ·) #[]⟩
def rMulS : R2 := fun x y H Q => ∃ (t : Str) (k : Int), x = .str t ∧ y = .int k ∧ 1 < k ∧ k ≤ 1000 ∧ 0 < t.length ∧ t.length ≤ 1000 ∧ (repS t k.toNat).length ≤ sizeLine ∧ Q (.str (repS t k.toNat)) H
section
variable {X : Cx}
theorem op_mulS : OpR X (binaryOp .Mult) rMulS := by
  intro pins s σ H x y v u Q I rx ry h
  obtain ⟨t, k, rfl, rfl, k1, k2, l1, l2, hz, q⟩ := h
  obtain ⟨t1, rfl⟩ := rx
  obtain ⟨t2, rfl⟩ := ry
  have hll : t.length * k.toNat ≤ 1000000 := Nat.le_trans (Nat.mul_le_mul l2 (show k.toNat ≤ 1000 by omega)) (by decide)
  refine PySem.P.mul_str (by rw [decide_eq_false (by omega), decide_eq_false (by omega)]; rfl) (fun _ _ => ?_) (fun _ _ => ?_) ?_
  · have : (2 ^ 63 - 1 : Int) / 1000 ≤ (2 ^ 63 - 1) / k := by
      refine Int.le_ediv_of_mul_le (by omega) ?_
      have h2 : (2 ^ 63 - 1 : Int) / 1000 * k ≤ (2 ^ 63 - 1 : Int) / 1000 * 1000 := Int.mul_le_mul_of_nonneg_left k2 (by decide)
      refine Int.le_trans h2 (by decide)
    have h3 : (1000 : Int) < (2 ^ 63 - 1) / 1000 := by decide
    omega
  · unfold Builtin.Str.tooLong
    refine decide_eq_false ?_
    rw [sizeLine_eq]
    omega
  · rw [if_neg (by omega), if_neg]
    · exact ⟨hz, .str _, H, I.tok _, ⟨_, rfl⟩, q⟩
    · simp only [Bool.or_eq_true, beq_iff_eq, not_or]
      constructor <;> omega
end
end L2


/-! max of ints, with a default -/
namespace L2
open PySem PySem.Spec PyProof.Rows
def rMaxDf (K : PySem.W.Frag) : List V → List V → Hp → VK → Prop := fun vs zs H Q => ∃ (a : Addr) (ns : List Int) (d : Int), vs = [V.ref a] ∧ zs = [.int d] ∧ SqL K H a (ns.map V.int) ∧
  ∀ m, (ns = [] → m = d) → (ns ≠ [] → m ∈ ns ∧ ∀ y ∈ ns, y ≤ m) → Q (.int m) H
theorem maxOf_spec : ∀ (xs : List Int) (x : Int), PySem.W.maxOf x xs ∈ x :: xs ∧ ∀ y ∈ x :: xs, y ≤ PySem.W.maxOf x xs
  | [], x => ⟨by simp [PySem.W.maxOf], fun y hy => by rw [List.mem_singleton.mp hy]; exact Int.le_refl _⟩
  | z :: xs, x => by
    have e : PySem.W.maxOf x (z :: xs) = PySem.W.maxOf (if x < z then z else x) xs := by
      show List.foldl _ (if decide (x < z) = true then z else x) xs = _
      unfold PySem.W.maxOf
      by_cases h : x < z <;> simp [h]
    obtain ⟨h1, h2⟩ := maxOf_spec xs (if x < z then z else x)
    rw [e]
    by_cases h : x < z
    · rw [if_pos h] at h1 h2 ⊢
      refine ⟨List.mem_cons_of_mem _ h1, fun y hy => ?_⟩
      rcases List.mem_cons.mp hy with rfl | hy
      · have := h2 z List.mem_cons_self
        omega
      · exact h2 y hy
    · rw [if_neg h] at h1 h2 ⊢
      refine ⟨?_, fun y hy => ?_⟩
      · rcases List.mem_cons.mp h1 with q | q
        · rw [q]; exact List.mem_cons_self
        · exact List.mem_cons_of_mem _ (List.mem_cons_of_mem _ q)
      · rcases List.mem_cons.mp hy with rfl | hy
        · exact h2 _ List.mem_cons_self
        · rcases List.mem_cons.mp hy with rfl | hy
          · have := h2 x List.mem_cons_self
            omega
          · exact h2 y (List.mem_cons_of_mem _ hy)
section
variable {X : Cx}
theorem cr_maxDf (hc : X.calm = true) (hu : X.A.units + 1 < cLine) : CallRK X (.builtin "max") [Str.ofString "default"] (rMaxDf X.K) := by
  intro pins s σ H vs zs us ws Q I r rz h
  obtain ⟨a, ns, d, rfl, rfl, hs, q⟩ := h
  obtain ⟨its, rv, hl, _⟩ := I.list hs
  rw [Vals.ref1 r]
  obtain ⟨w1, rfl, e1⟩ := vals1 rz
  obtain ⟨t1, rfl⟩ := e1
  show wpAny _ _ (call (.builtin "max") [.ref a] [(Str.ofString "default", Value.int d t1)]) _ _ s
  refine PySem.W.max_list_datum_default (α := Int) (xs := ns) (I.ok.hd hc) hl.isList (PySem.W.HoldAll.of_ints rv.ints) (by show X.A.units + 1 + 0 < cLine; omega) (fun e h' tk hk => ?_) fun y ys i v h' tk e hi hv hk => ?_
  · exact ⟨.int d, H, I.kept hk, ⟨_, rfl⟩, q d (fun _ => rfl) (fun n => absurd e n)⟩
  · obtain ⟨t, rfl⟩ := PySem.W.int_of_holds hv
    obtain ⟨h1, h2⟩ := maxOf_spec ys y
    exact ⟨.int _, H, I.kept hk, ⟨_, rfl⟩, q _ (fun z => by rw [e] at z; cases z) (fun _ => by rw [e]; exact ⟨h1, h2⟩)⟩
end
end L2


/-! abs of a truth -/
namespace PyProof.Rows
open PySem PySem.Calls
section
variable {prog : Program} {w : World} {A : Around} {E : Value → Shared → Prop} {s : Shared}
theorem call_abs_bool {b : Bool} {Q : Value → Shared → Prop} (h : ∀ u tk, Q (.int (if b = true then 1 else 0) u) { s with toks := tk }) :
    wpAny (model prog w) A (call (.builtin "abs") [.bool b]) Q E s := by
  refine call_function_entry kind_abs plain_abs entry_abs (args_abs _) ?_
  unfold Builtin.«abs»
  refine wpAny_bind (m := oneArg "abs" _) (wpAny_pure ?_)
  refine wpAny_bind (m := callSpecial? (.bool b) (Str.ofString "__abs__")) (wpAny_callSpecial?_slot (name := Str.ofString "__abs__") rfl F.slot_bool_abs
    (wpAny_call_entry F.slot_bool_abs rfl entry_int_abs ?_ (args_int_abs _)))
  have h' := h s.toks (s.toks + 1)
  cases b with
  | true => exact wpAny_ret_mkInt (wpAny_pure ⟨_, rfl, h'⟩)
  | false => exact wpAny_ret_mkInt (wpAny_pure ⟨_, rfl, h'⟩)
end
end PyProof.Rows
namespace L2
open PySem PySem.Spec PyProof.Rows
theorem call_absB {X : Cx} : CallR X (.builtin "abs") (fun xs H Q => ∃ v, xs = [v] ∧ ((∃ i, v = .int i ∧ Q (.int (if i < 0 then -i else i)) H) ∨ ∃ b, v = .bl b ∧ Q (.int (if b = true then 1 else 0)) H)) := by
  intro pins s σ H xs us Q I r h
  obtain ⟨v, rfl, ⟨i, rfl, q⟩ | ⟨b, rfl, q⟩⟩ := h
  · obtain ⟨u, rfl, t, rfl⟩ := vals1 r
    exact call_abs_int fun u tk => ⟨.int (if i < 0 then -i else i), H, I.tok _, ⟨_, rfl⟩, q⟩
  · obtain ⟨u, rfl, e⟩ := vals1 r
    obtain rfl : u = Value.bool b := e
    exact call_abs_bool fun u tk => ⟨.int (if b = true then 1 else 0), H, I.tok _, ⟨_, rfl⟩, q⟩
end L2


namespace Toy
open PySem L2 PyProof.Rows
abbrev sLeaf : Stmt := top 25
/-! ### data, as the tape draws them -/
inductive D where
  | non
  | bl (b : Bool)
  | int (i : Int)
  | str (x : Str)
  | lst (ds : List D)
  | dct (ks : List Str) (ds : List D)
  /-- any tuple -/
  | tup
  /-- a dict with a key that is no text -/
  | odd
def okK (k : Str) : Bool := PyData.strOk k && decide (k.length ≤ 1000)
theorem okK_1 {k : Str} (h : okK k = true) : PyData.strOk k = true := by
  unfold okK at h
  rw [Bool.and_eq_true] at h
  exact h.1
theorem okK_2 {k : Str} (h : okK k = true) : k.length ≤ 1000 := by
  unfold okK at h
  rw [Bool.and_eq_true] at h
  exact of_decide_eq_true h.2
def OddAt (H : Hp) (v : V) : Prop := ∃ p, v = .ref p ∧ ((∃ i u, H p = some (.dK [(Sum.inl i, u)])) ∨ (∃ k u, okK k = true ∧ H p = some (.dT [([Sum.inr k], u)])) ∨ ∃ k, OddD H p k)
theorem OddAt.mono {H H' : Hp} {v : V} (h : OddAt H v) (s : Same H H') : OddAt H' v := by
  obtain ⟨p, rfl, ⟨i, u, h⟩ | ⟨ks, u, ok, h⟩ | ⟨k, o, h, r⟩⟩ := h
  · exact ⟨p, rfl, .inl ⟨i, u, s _ _ h⟩⟩
  · exact ⟨p, rfl, .inr (.inl ⟨ks, u, ok, s _ _ h⟩)⟩
  · exact ⟨p, rfl, .inr (.inr ⟨k, o, s _ _ h, r⟩)⟩
def kvOf (ks : List Str) (us : List V) : List (Key × V) := (ks.zip us).map fun p => (Sum.inr p.1, p.2)
/-- v is the datum, of at most n levels of lists and dicts -/
def Da : Nat → Hp → V → D → Prop
  | _, _, v, .non => v = .non
  | _, _, v, .bl b => v = .bl b
  | _, _, v, .int i => v = .int i
  | _, _, v, .str x => v = .str x ∧ PyData.strOk x = true ∧ x.length ≤ 1000 ∧ 37 ∉ x.cps.toList
  | _, H, v, .tup => ∃ a xs, v = .ref a ∧ H a = some (.tup xs)
  | _, H, v, .odd => OddAt H v
  | 0, _, _, .lst _ => False
  | 0, _, _, .dct _ _ => False
  | n + 1, H, v, .lst ds => ∃ a xs, v = .ref a ∧ H a = some (.lst xs) ∧ xs.length ≤ 1000 ∧ Paired (fun x d => Da n H x d) xs ds
  | n + 1, H, v, .dct ks ds => ∃ a us, v = .ref a ∧ H a = some (.dK (kvOf ks us)) ∧ ks.length ≤ 20 ∧ us.length = ks.length ∧ ks.Nodup ∧ (∀ k ∈ ks, okK k = true) ∧ Paired (fun x d => Da n H x d) us ds
theorem Da.mono {H H' : Hp} (s : Same H H') : ∀ {n m : Nat} {v : V} {d : D}, n ≤ m → Da n H v d → Da m H' v d := by
  intro n
  induction n with
  | zero =>
    intro m v d _ h
    cases d with
    | lst ds => simp [Da] at h
    | dct ks ds => simp [Da] at h
    | non => cases m <;> simpa [Da] using h
    | bl b => cases m <;> simpa [Da] using h
    | int i => cases m <;> simpa [Da] using h
    | str x => cases m <;> simpa [Da] using h
    | tup =>
      obtain ⟨a, xs, h1, h2⟩ := (show ∃ a xs, v = .ref a ∧ H a = some (.tup xs) from by simpa only [Da] using h)
      cases m <;> exact ⟨a, xs, h1, s _ _ h2⟩
    | odd =>
      have h' : OddAt H v := by simpa only [Da] using h
      cases m <;> exact h'.mono s
  | succ n ih =>
    intro m v d hm h
    obtain ⟨m, rfl⟩ : ∃ k, m = k + 1 := ⟨m - 1, by omega⟩
    have hnm : n ≤ m := by omega
    cases d with
    | lst ds =>
      obtain ⟨a, xs, h1, h2, h3, h4⟩ := (show ∃ a xs, v = .ref a ∧ H a = some (.lst xs) ∧ xs.length ≤ 1000 ∧ Paired (fun x d => Da n H x d) xs ds from by simpa [Da] using h)
      show Da (m + 1) H' v (.lst ds)
      simp only [Da]
      exact ⟨a, xs, h1, s _ _ h2, h3, L2.Paired.mapP h4 fun _ _ z => ih hnm z⟩
    | dct ks ds =>
      obtain ⟨a, us, h1, h2, h3, h4, h5, h6, h7⟩ := (show ∃ a us, v = .ref a ∧ H a = some (.dK (kvOf ks us)) ∧ ks.length ≤ 20 ∧ us.length = ks.length ∧ ks.Nodup ∧ (∀ k ∈ ks, okK k = true) ∧ Paired (fun x d => Da n H x d) us ds from by simpa only [Da] using h)
      show Da (m + 1) H' v (.dct ks ds)
      simp only [Da]
      exact ⟨a, us, h1, s _ _ h2, h3, h4, h5, h6, L2.Paired.mapP h7 fun _ _ z => ih hnm z⟩
    | non => simpa [Da] using h
    | bl b => simpa [Da] using h
    | int i => simpa [Da] using h
    | str x => simpa [Da] using h
    | tup =>
      obtain ⟨a, xs, h1, h2⟩ := (show ∃ a xs, v = .ref a ∧ H a = some (.tup xs) from by simpa only [Da] using h)
      exact ⟨a, xs, h1, s _ _ h2⟩
    | odd =>
      have h' : OddAt H v := by simpa only [Da] using h
      exact h'.mono s
theorem Tape.more {H : Hp} {d l : Addr} {n m : Nat} (t : Tape H d l n) (h : n ≤ m) : Tape H d l m := by
  obtain ⟨ns, a, f, h1, h2, h3, h4, h5, h6⟩ := t
  exact ⟨ns, a, f, h1, h2, h3, h4, h5, by omega⟩
abbrev sPick : Stmt := top 22
def spPick : Sp := fun vs H Q _ => ∃ (d l p : Addr) (n : Nat) (xs : List V), vs = [.ref d, .ref p] ∧ Tape H d l n ∧ n ≤ 1000000 ∧ H p = some (.lst xs) ∧ xs ≠ [] ∧ xs.length < 1000000 ∧
  ∀ H' v, But d H H' → Tape H' d l (n + 1) → v ∈ xs → Q v H'
section
variable {P : Program} {w : World} {K : PySem.W.Frag} {mg : Str → Option Value} {base : Heap}
theorem scP : FnScope ["_law_tape", "_law_items"] ["_law_tape", "_law_items"] (defScope sPick) := ⟨rfl, rfl, rfl, by decide +kernel, rfl, by decide +kernel, by decide +kernel⟩
theorem ok_pick {f fD : Addr} {fd fdD : FuncData} (F : Fun K "_law_pick" "_law_pick" sPick f fd) (GD : FnOk P w K mg base CX0 1 fD fdD ["_law_tape", "_law_many"] spDraw) (mD : mg "_law_draw" = some (.ref fD)) (kD : PySem.W.keepIn K (.ref fD) = true) (bD : Binds K fdD ["_law_tape", "_law_many"] []) (mLen : mg "len" = none) : FnOk P w K mg base CX0 2 f fd ["_law_tape", "_law_items"] spPick := by
  refine F.ok scP (fun vs H Q E h => ?_) (fun cdv A outer s H vs Q E hr h => ?_)
  · obtain ⟨d, l, p, n, xs, rfl, _⟩ := h
    rfl
  · obtain ⟨d, l, p, n, xs, rfl, hT, hn, hp, hne, hlen, q⟩ := h
    refine ⟨_, pss_one (ps_ret (pe_ix ix_list (pv 1) (pe_call GD hr rfl mD kD bD .nil pass0 (pa_cons (pv 0) (pa_cons (pe_callB call_len_seq (by rfl) mLen PySem.boot_len (pa_cons (pv 1) pa_nil)) pa_nil))) (fun _ _ => rfl))), ?_⟩
    have lp : 0 < xs.length := List.length_pos_iff.mpr hne
    refine ⟨_, rfl, _, rfl, _, rfl, p, _, rfl, .inl (SqL.of hp), d, l, n, _, rfl, hT, hn, (by omega), (by omega), fun H1 r hb hT1 r0 r1 => ?_⟩
    have npd : p ≠ d := by
      obtain ⟨ns, a, f, hd, _⟩ := hT
      exact ne_of hp hd (by intro z; cases z)
    obtain ⟨j, ej⟩ : ∃ j : Nat, r = (j : Int) := ⟨r.toNat, by omega⟩
    have hj : j < xs.length := by omega
    refine ⟨p, xs, _, xs[j], rfl, rfl, SqL.of (hb _ _ npd hp), (by rw [ej]; exact atI_nat (List.getElem?_eq_getElem hj)), q _ _ hb hT1 (List.getElem_mem hj)⟩
end
def leafDs : List D := [.non, .bl false, .bl true, .int 0, .int 1, .int 0, .int 1, .int (-1), .int 2, .int (-2), .int (10 ^ 30), .str "", .str "a", .str "b", .str "ab", .str "it's", .non, .int 1]
def leafVs : List V := [.non, .bl false, .bl true, .int 0, .int 1, .int 0, .int 1, .int (-1), .int 2, .int (-2), .int (10 ^ 30), .str "", .str "a", .str "b", .str "ab", .str "it's", .non, .int 1]
def dOf : V → D
  | .bl b => .bl b
  | .int i => .int i
  | .str x => .str x
  | _ => .non
theorem leaf_mem {v : V} (h : v ∈ leafVs) (H : Hp) (n : Nat) : Da n H v (dOf v) := by
  unfold leafVs at h
  simp only [List.mem_cons, List.not_mem_nil, or_false] at h
  rcases h with rfl | rfl | rfl | rfl | rfl | rfl | rfl | rfl | rfl | rfl | rfl | rfl | rfl | rfl | rfl | rfl | rfl | rfl
  all_goals (cases n <;> simp only [dOf, Da, true_and] <;> decide +kernel)
def spLeaf : Sp := fun vs H Q _ => ∃ (d l : Addr) (n : Nat), vs = [.ref d] ∧ Tape H d l n ∧ n ≤ 1000000 ∧ ∀ H' v, But d H H' → Tape H' d l (n + 1) → v ∈ leafVs → Q v H'
section
variable {P : Program} {w : World} {K : PySem.W.Frag} {mg : Str → Option Value} {base : Heap}
theorem scLf : FnScope ["_law_tape"] ["_law_tape"] (defScope sLeaf) := ⟨rfl, rfl, rfl, by decide +kernel, rfl, by decide +kernel, by decide +kernel⟩
theorem ok_leaf {f fP : Addr} {fd fdP : FuncData} (F : Fun K "_law_leaf" "_law_leaf" sLeaf f fd) (GP : FnOk P w K mg base CX0 2 fP fdP ["_law_tape", "_law_items"] spPick) (mP : mg "_law_pick" = some (.ref fP)) (kP : PySem.W.keepIn K (.ref fP) = true) (bP : Binds K fdP ["_law_tape", "_law_items"] []) :
    FnOk P w K mg base CX0 3 f fd ["_law_tape"] spLeaf := by
  refine F.ok scLf (fun vs H Q E h => ?_) (fun cdv A outer s H vs Q E hr h => ?_)
  · obtain ⟨d, l, n, rfl, _⟩ := h
    rfl
  · obtain ⟨d, l, n, rfl, hT, hn, q⟩ := h
    refine ⟨_, pss_one (ps_ret (pe_call GP hr (by rfl) mP kP bP .nil pass0 (pa_cons (pv 0) (pa_cons (pe_lst (pa_cons pe_non (pa_cons pe_bl (pa_cons pe_bl (pa_cons pe_int (pa_cons pe_int (pa_cons pe_int (pa_cons pe_int
      (pa_cons (pe_un un_neg pe_int) (pa_cons pe_int (pa_cons (pe_un un_neg pe_int) (pa_cons (pe_op op_pow pe_int pe_int) (pa_cons pe_str (pa_cons pe_str (pa_cons pe_str (pa_cons pe_str (pa_cons pe_str (pa_cons pe_non (pa_cons pe_int pa_nil))))))))))))))))))) pa_nil)))), ?_⟩
    refine ⟨_, rfl, _, rfl, _, rfl, _, _, rfl, rfl, ⟨by decide, by decide, by decide⟩, few (by show 18 ≤ 1000; decide), fun p np => ?_⟩
    obtain ⟨hd, hl⟩ : (∃ o, H d = some o) ∧ ∃ o, H l = some o := by
      obtain ⟨ns, a, f, h1, h2, _⟩ := hT
      exact ⟨⟨_, h1⟩, _, h2⟩
    refine ⟨d, l, p, n, leafVs, rfl, hT.same (same_new (fun _ _ z => z) np), hn, upd_same, (by intro z; cases z), (by show 18 < 1000000; decide), fun H' v b t m => q H' v (fun x o n e => b x o n ((same_new (fun _ _ z => z) np) x o e)) t m⟩
end
end Toy


namespace Toy
open PySem L2 PyProof.Rows
abbrev sDatum : Stmt := top 26
theorem paired_mono {H H' : Hp} {n m : Nat} (s : Same H H') (h : n ≤ m) {us : List V} {ds : List D} (p : Paired (fun x d => Da n H x d) us ds) : Paired (fun x d => Da m H' x d) us ds := L2.Paired.mapP p fun _ _ z => z.mono s h
theorem nodup_fst_put {kvs : List (Key × V)} {k : Key} {v : V} (h : k ∉ kvs.map (·.1)) : putK kvs k v = kvs ++ [(k, v)] := by
  unfold putK
  rw [if_neg]
  simpa using h
theorem merge_new : ∀ (more kvs : List (Key × V)), ((kvs ++ more).map (·.1)).Nodup → mergeK kvs more = kvs ++ more
  | [], kvs, _ => by simp [mergeK]
  | p :: more, kvs, h => by
    have e : mergeK kvs (p :: more) = mergeK (putK kvs p.1 p.2) more := by simp [mergeK]
    have hp : p.1 ∉ kvs.map (·.1) := by
      rw [List.map_append, List.nodup_append] at h
      intro z
      exact h.2.2 _ z _ (by simp) rfl
    rw [e, nodup_fst_put hp, merge_new more (kvs ++ [(p.1, p.2)]) (by simpa using h)]
    simp
/-- what is new in H', behind H -/
def newH (H H' : Hp) : Hp := fun b => match H b with
  | none => H' b
  | some _ => none
theorem newH_some {H H' : Hp} {b : Addr} {o : HO} : newH H H' b = some o ↔ H b = none ∧ H' b = some o := by
  unfold newH
  cases h : H b with
  | none => simp
  | some u => simp
/-- what is none in H1 is none in H -/
def Dom (H H1 : Hp) : Prop := ∀ b, H1 b = none → H b = none
theorem new_le {H H1 H2 H3 : Hp} (dom : Dom H H1) (keep : ∀ b o, H1 b = none → H2 b = some o → H3 b = some o) : Same (newH H1 H2) (newH H H3) := fun b o e => by
  obtain ⟨h1, h2⟩ := newH_some.mp e
  exact newH_some.mpr ⟨dom b h1, keep b o h1 h2⟩
theorem Dom.refl {H : Hp} : Dom H H := fun _ z => z
theorem Dom.trans {H H1 H2 : Hp} (a : Dom H H1) (b : Dom H1 H2) : Dom H H2 := fun x z => a x (b x z)
theorem Dom.but {H H1 : Hp} {d l : Addr} {n : Nat} (b : But d H H1) (t : Tape H1 d l n) : Dom H H1 := fun x z => by
  by_cases e : x = d
  · obtain ⟨ns, a, f, h1, _⟩ := t
    rw [e, h1] at z
    cases z
  · cases h : H x with
    | none => rfl
    | some o =>
      rw [b x o e h] at z
      cases z
theorem Dom.same {H H1 : Hp} (s : Same H H1) : Dom H H1 := fun x z => by
  cases h : H x with
  | none => rfl
  | some o =>
    rw [s x o h] at z
    cases z
theorem Dom.upd {H H1 : Hp} {p : Addr} {u : HO} (a : Dom H H1) : Dom H (L2.upd H1 p u) := fun x z => by
  by_cases e : x = p
  · rw [e, upd_same] at z
    cases z
  · rw [upd_ne e] at z
    exact a x z
theorem Tape.at {H : Hp} {d l : Addr} {n : Nat} (t : Tape H d l n) : (∃ o, H d = some o) ∧ ∃ o, H l = some o := by
  obtain ⟨ns, a, f, h1, h2, _⟩ := t
  exact ⟨⟨_, h1⟩, _, h2⟩
theorem Tape.upd {H : Hp} {d l p : Addr} {n : Nat} {u : HO} (t : Tape H d l n) (h1 : d ≠ p) (h2 : l ≠ p) : Tape (L2.upd H p u) d l n := by
  obtain ⟨ns, a, f, e1, e2, e3⟩ := t
  exact ⟨ns, a, f, by rw [upd_ne h1]; exact e1, by rw [upd_ne h2]; exact e2, e3⟩
/-- at most three parts of each, n levels, no other values within -/
def Wd : Nat → D → Prop
  | _, .tup => False
  | _, .odd => False
  | 0, .lst _ => False
  | 0, .dct _ _ => False
  | n + 1, .lst ds => ds.length ≤ 3 ∧ ∀ x ∈ ds, Wd n x
  | n + 1, .dct _ ds => ds.length ≤ 3 ∧ ∀ x ∈ ds, Wd n x
  | _, _ => True
theorem w_leaf {v : V} (h : v ∈ leafVs) (n : Nat) : Wd n (dOf v) := by
  unfold leafVs at h
  simp only [List.mem_cons, List.not_mem_nil, or_false] at h
  rcases h with rfl | rfl | rfl | rfl | rfl | rfl | rfl | rfl | rfl | rfl | rfl | rfl | rfl | rfl | rfl | rfl | rfl | rfl
  all_goals (cases n <;> simp [dOf, Wd])
theorem w_snoc {n : Nat} {ds : List D} {dt : D} (h : ∀ x ∈ ds, Wd n x) (hd : Wd n dt) : ∀ x ∈ ds ++ [dt], Wd n x := fun x hx => by
  rcases List.mem_append.mp hx with e | e
  · exact h x e
  · rw [List.mem_singleton.mp e]
    exact hd
def spDatum (j : Nat) : Sp := fun vs H Q _ => ∃ (d l p : Addr) (n m : Nat) (ks : List Str), m < j ∧ vs = [.ref d, .ref p, .int m] ∧ Tape H d l n ∧ n + 8 * 4 ^ m ≤ 700000 ∧ H p = some (.lst (ks.map V.str)) ∧ ks.length ≤ 5 ∧ ks.Nodup ∧ (∀ k ∈ ks, okK k = true) ∧
  ∀ H' v dt, But d H H' → Tape H' d l (n + 8 * 4 ^ m) → Da m (newH H H') v dt → Wd m dt → Q v H'
abbrev ND : List Str := ["_law_tape", "_law_keys_here", "_law_deep", "_law_way", "_law_rows", "_law_k", "_law_key"]
section
variable {P : Program} {w : World} {K : PySem.W.Frag} {mg : Str → Option Value} {base : Heap}
theorem scDt : FnScope ND ["_law_tape", "_law_keys_here", "_law_deep"] (defScope sDatum) := ⟨rfl, rfl, rfl, by decide +kernel, rfl, by decide +kernel, by decide +kernel⟩
theorem ok_datum {f fL fS fD : Addr} {fd fdL fdS fdD : FuncData} (F : Fun K "_law_datum" "_law_datum" sDatum f fd)
    (GD : FnOk P w K mg base CX0 1 fD fdD ["_law_tape", "_law_many"] spDraw) (mD : mg "_law_draw" = some (.ref fD)) (kD : PySem.W.keepIn K (.ref fD) = true) (bD : Binds K fdD ["_law_tape", "_law_many"] [])
    (GS : FnOk P w K mg base CX0 2 fS fdS ["_law_tape", "_law_items"] spShuf) (mS : mg "_law_shuffled" = some (.ref fS)) (kS : PySem.W.keepIn K (.ref fS) = true) (bS : Binds K fdS ["_law_tape", "_law_items"] [])
    (GL : FnOk P w K mg base CX0 3 fL fdL ["_law_tape"] spLeaf) (mL : mg "_law_leaf" = some (.ref fL)) (kL : PySem.W.keepIn K (.ref fL) = true) (bL : Binds K fdL ["_law_tape"] [])
    (mF : mg "_law_datum" = some (.ref f)) (kF : PySem.W.keepIn K (.ref f) = true) (bF : Binds K fd ["_law_tape", "_law_keys_here", "_law_deep"] []) (mRange : mg "range" = none) (mDict : mg "dict" = none) :
    ∀ j : Nat, FnOk P w K mg base CX0 (j + 4) f fd ["_law_tape", "_law_keys_here", "_law_deep"] (spDatum j) := by
  intro j
  induction j with
  | zero => exact F.ok (k := 3) scDt (fun vs H Q E h => by obtain ⟨d, l, p, n, m, ks, h0, _⟩ := h; exact absurd h0 (Nat.not_lt_zero _)) (fun cdv A outer s H vs Q E hr h => by obtain ⟨d, l, p, n, m, ks, h0, _⟩ := h; exact absurd h0 (Nat.not_lt_zero _))
  | succ j ih =>
    refine F.ok (k := j + 4) scDt (fun vs H Q E h => ?_) (fun cdv A outer s H vs Q E hr h => ?_)
    · obtain ⟨d, l, p, n, m, ks, _, rfl, _⟩ := h
      rfl
    · obtain ⟨d, l, p, n, m, ks, hmj, rfl, hT, hn, hp, hl5, hnd, hok, q⟩ := h
      have hr1 : Room 1 _ := hr.mono (show 1 ≤ j + 4 by omega)
      have hr2 : Room 2 _ := hr.mono (show 2 ≤ j + 4 by omega)
      have hr3 : Room 3 _ := hr.mono (show 3 ≤ j + 4 by omega)
      refine ⟨_, pss_cons (ps_set (i := 3) scDt.nd rfl (Or.inl rfl) (pe_ifExp (pt_cmpR op_gt (pv 2) pe_int (nomark _)) (pe_call GD hr1 (by rfl) mD kD bD .nil pass0 (pa_cons (pv 0) (pa_cons pe_int pa_nil))) pe_int))
        (pss_cons (ps_if (pt_cmpR op_lt (pv 3) pe_int (nomark _)) (pss_one (ps_ret (pe_call GL hr3 (by rfl) mL kL bL .nil pass0 (pa_cons (pv 0) pa_nil)))) pss_nil)
        (pss_cons (ps_if (pt_cmpR op_lt (pv 3) pe_int (nomark _)) (pss_one (ps_ret (pe_lc (own := [("_law_k", 5)]) (g := gName 5) (by rfl) scDt.nd (pi_range1 (by rfl) mRange (pa_cons (pe_call GD hr1 (by rfl) mD kD bD .nil pass0 (pa_cons (pv 0) (pa_cons pe_int pa_nil))) pa_nil))
            (blkOk_by (own := [("_law_k", 5)]) (N := ND) (sc := defScope sDatum) (by decide +kernel)) (fun _ _ _ _ _ => pg_name (i := 5) scDt.nd rfl (Or.inl rfl)) (fun _ _ _ _ _ => pts_nil)
            (fun _ _ _ _ _ => pe_call ih hr (by rfl) mF kF bF .nil pass0 (pa_cons (pv 0) (pa_cons (pv 1) (pa_cons (pe_op op_sub (pv 2) pe_int) pa_nil))))))) pss_nil)
        (pss_cons (ps_set (i := 4) scDt.nd rfl (Or.inl rfl) (pe_slice sl_list (pe_call GS hr2 (by rfl) mS kS bS .nil pass0 (pa_cons (pv 0) (pa_cons (pv 1) pa_nil))) po_none (po_some (pe_call GD hr1 (by rfl) mD kD bD .nil pass0 (pa_cons (pv 0) (pa_cons pe_int pa_nil))))))
        (pss_one (ps_ret (pe_callTy (call_dictP rfl) (by rfl) mDict (by decide +kernel) (pa_cons (pe_lc (own := [("_law_key", 6)]) (g := gName 6) (by rfl) scDt.nd (pi_list (pv 4))
            (blkOk_by (own := [("_law_key", 6)]) (N := ND) (sc := defScope sDatum) (by decide +kernel)) (fun _ _ _ _ _ => pg_name (i := 6) scDt.nd rfl (Or.inl rfl)) (fun _ _ _ _ _ => pts_nil)
            (fun _ _ _ _ _ => pe_tup (pa_cons (pv 6) (pa_cons (pe_call ih hr (by rfl) mF kF bF .nil pass0 (pa_cons (pv 0) (pa_cons (pv 1) (pa_cons (pe_op op_sub (pv 2) pe_int) pa_nil)))) pa_nil)))) pa_nil))))))), ?_⟩
      refine ⟨_, rfl, _, _, rfl, rfl, _, rfl, ?_⟩
      have c1 : 1 ≤ 4 ^ m := Nat.pos_of_ne_zero (by simp)
      have npd : p ≠ d := by
        obtain ⟨ns, a, f, hd, _⟩ := hT
        exact ne_of hp hd (by intro z; cases z)
      refine ite2 (fun c => ?_) (fun c => ?_)
      · have c0 : 0 < (m : Int) := of_decide_eq_true c
        obtain ⟨k, rfl⟩ : ∃ k, m = k + 1 := ⟨m - 1, by omega⟩
        have ck : 1 ≤ 4 ^ k := Nat.pos_of_ne_zero (by simp)
        have cm : 4 ^ (k + 1) = 4 * 4 ^ k := by rw [Nat.pow_succ, Nat.mul_comm]
        have em : [V.ref d, V.ref p, V.int (((k + 1 : Nat) : Int) - 1)] = [V.ref d, V.ref p, V.int (k : Int)] := by
          rw [show ((k + 1 : Nat) : Int) - 1 = (k : Int) by omega]
        refine ⟨_, rfl, d, l, n, 6, rfl, hT, by omega, by decide, by decide, fun H1 r b1 t1 r0 r6 => ?_⟩
        refine ⟨_, rfl, _, _, rfl, rfl, _, rfl, ite2 (fun c2 => ?_) (fun c2 => ?_)⟩
        · refine ⟨_, rfl, d, l, n + 1, rfl, t1, by omega, fun H2 v b2 t2 mv => q H2 v (dOf v) (b1.trans b2) (t2.more (by omega)) (leaf_mem mv _ _) (w_leaf mv _)⟩
        refine ⟨_, rfl, _, _, rfl, rfl, _, rfl, ite2 (fun c3 => ?_) (fun c3 => ?_)⟩
        · refine ⟨_, rfl, d, l, n + 1, 4, rfl, t1, by omega, by decide, by decide, fun H2 r2 b2 t2 r20 r24 => ?_⟩
          have hp2 : H2 p = some (.lst (ks.map V.str)) := b2 _ _ npd (b1 _ _ npd hp)
          refine ⟨_, rfl, by omega, by omega, fun D nD => ?_⟩
          have ndD : d ≠ D := by
            obtain ⟨_, ho⟩ := t2.at.1
            exact ne_of_none ho nD
          have nlD : l ≠ D := by
            obtain ⟨_, ho⟩ := t2.at.2
            exact ne_of_none ho nD
          have tD : Tape (upd H2 D (.lst [])) d l (n + 2) := t2.upd ndD nlD
          have domD : Dom H (upd H2 D (.lst [])) := Dom.upd ((Dom.but b1 t1).trans (Dom.but b2 t2))
          refine lc_range (lo := 0) (n := r2.toNat) (fun i H' => ∃ acc ds, H' D = some (.lst acc) ∧ acc.length = i ∧ But d H2 H' ∧ Tape H' d l (n + 2 + i * (8 * 4 ^ k)) ∧ Dom (upd H2 D (.lst [])) H' ∧ Paired (fun x z => Da k (newH (upd H2 D (.lst [])) H') x z) acc ds ∧ ∀ x ∈ ds, Wd k x)
            ⟨[], [], upd_same, rfl, Same.but (same_new (fun _ _ z => z) nD) d, tD.more (by omega), Dom.refl, .nil, fun x hx => by simp at hx⟩ ?_ ?_
          · rintro i H3 hi ⟨acc, ds, hD3, lacc, b3, t3, dom3, pr, ww⟩
            have hi3 : i ≤ 2 := by omega
            have im : i * (8 * 4 ^ k) ≤ 2 * (8 * 4 ^ k) := Nat.mul_le_mul_right _ hi3
            have hp3 : H3 p = some (.lst (ks.map V.str)) := b3 _ _ npd hp2
            refine ⟨rfl, _, rfl, _, rfl, _, rfl, _, _, rfl, rfl, d, l, p, n + 2 + i * (8 * 4 ^ k), k, ks, by omega, em, t3, by omega, hp3, hl5, hnd, hok, fun H4 v dt b4 t4 q4 w4 => ?_⟩
            have hD4 : H4 D = some (.lst acc) := b4 _ _ ndD.symm hD3
            refine ⟨acc, hD4, small1000 (by omega), acc ++ [v], ds ++ [dt], upd_same, by rw [List.length_append, lacc]; rfl, ?_, ?_, ?_, ?_, w_snoc ww w4⟩
            · intro b o hb ho
              rw [upd_ne (ne_of_none ho nD)]
              exact b4 _ _ hb (b3 _ _ hb ho)
            · refine (t4.upd ndD nlD).more ?_
              have : (i + 1) * (8 * 4 ^ k) = i * (8 * 4 ^ k) + 8 * 4 ^ k := Nat.succ_mul _ _
              omega
            · exact Dom.upd (dom3.trans (Dom.but b4 t4))
            · have keepD : ∀ b o, H3 b = none → H4 b = some o → (upd H4 D (.lst (acc ++ [v]))) b = some o := fun b o h1 h2 => by
                rw [upd_ne (fun z => by rw [z, hD3] at h1; cases h1)]
                exact h2
              refine Paired.snoc (paired_mono (new_le Dom.refl fun b o h1 h2 => ?_) (Nat.le_refl _) pr) (q4.mono (new_le dom3 keepD) (Nat.le_refl _))
              have hbD : b ≠ D := fun z => by rw [z, upd_same] at h1; cases h1
              have hbd : b ≠ d := fun z => by
                obtain ⟨_, ho⟩ := tD.at.1
                rw [z, ho] at h1
                cases h1
              rw [upd_ne hbD]
              exact b4 _ _ hbd h2
          · rintro H3 ⟨acc, ds, hD3, lacc, b3, t3, dom3, pr, ww⟩
            have im : r2.toNat * (8 * 4 ^ k) ≤ 3 * (8 * 4 ^ k) := Nat.mul_le_mul_right _ (by omega)
            refine q H3 (.ref D) (.lst ds) ((b1.trans b2).trans b3) (t3.more (by omega)) ?_ ⟨by rw [← Paired.length pr]; omega, ww⟩
            simp only [Da]
            refine ⟨D, acc, rfl, newH_some.mpr ⟨(Dom.but b1 t1) _ ((Dom.but b2 t2) _ nD), hD3⟩, by omega, paired_mono (new_le domD fun b o _ h => h) (Nat.le_refl _) pr⟩
        · refine ⟨_, rfl, _, rfl, d, l, p, n + 1, ks, rfl, t1, by omega, b1 _ _ npd hp, by omega, (fun k hk => okK_1 (hok k hk)), fun H2 R ys b2 t2 nR0 hR perm => ?_⟩
          have nd2 : ys.Nodup := perm.nodup_iff.mpr hnd
          have ok2 : ∀ z ∈ ys, okK z = true := fun z hz => hok z (perm.mem_iff.mp hz)
          have ly : ys.length ≤ 5 := by rw [perm.length_eq]; exact hl5
          have ndR : d ≠ R := by
            obtain ⟨_, ho⟩ := t1.at.1
            exact ne_of_none ho nR0
          refine ⟨_, rfl, d, l, n + 1 + ks.length, 4, rfl, t2, by omega, by decide, by decide, fun H3 r3 b3 t3 r30 r34 => ⟨r3, rfl, R, _, rfl, SqL.of (b3 _ _ ndR.symm hR), fun S nS => ?_⟩⟩
          have ecut : cutV (ys.map V.str) none (some r3) = (ys.take r3.toNat).map V.str := by
            obtain ⟨i, rfl⟩ : ∃ i : Nat, r3 = (i : Int) := ⟨r3.toNat, by omega⟩
            unfold cutV
            rw [show HT.sIx (ys.map V.str).length (ys.map V.str).length (some (i : Int)) = min i (ys.map V.str).length from HT.sIx_nat _ _ i, HT.sIx_none, List.drop_zero, Nat.sub_zero, List.map_take, Int.toNat_natCast]
            by_cases h : i ≤ (ys.map V.str).length
            · rw [Nat.min_eq_left h]
            · rw [Nat.min_eq_right (by omega), List.take_of_length_le (Nat.le_refl _), List.take_of_length_le (by omega)]
          rw [ecut]
          generalize hrk : ys.take r3.toNat = rk
          have lrk : rk.length ≤ 3 := by rw [← hrk, List.length_take]; omega
          have ndrk : rk.Nodup := by rw [← hrk]; exact nd2.sublist (List.take_sublist _ _)
          have okrk : ∀ z ∈ rk, okK z = true := by
            rw [← hrk]
            exact fun z hz => ok2 z (List.mem_of_mem_take hz)
          have ndS : d ≠ S := by
            obtain ⟨_, ho⟩ := t3.at.1
            exact ne_of_none ho nS
          have nlS : l ≠ S := by
            obtain ⟨_, ho⟩ := t3.at.2
            exact ne_of_none ho nS
          have npS : p ≠ S := ne_of_none (b3 _ _ npd (b2 _ _ npd (b1 _ _ npd hp))) nS
          have tS : Tape (upd H3 S (.lst (rk.map V.str))) d l (n + 7) := (t3.upd ndS nlS).more (by omega)
          have hpS : (upd H3 S (.lst (rk.map V.str))) p = some (.lst (ks.map V.str)) := (upd_ne npS).trans (b3 _ _ npd (b2 _ _ npd (b1 _ _ npd hp)))
          have domS : Dom H (upd H3 S (.lst (rk.map V.str))) := Dom.upd (((Dom.but b1 t1).trans (Dom.but b2 t2)).trans (Dom.but b3 t3))
          have bS : But d H (upd H3 S (.lst (rk.map V.str))) := fun b o hb ho => by
            have z := b3 _ _ hb (b2 _ _ hb (b1 _ _ hb ho))
            rw [upd_ne (ne_of_none z nS)]
            exact z
          generalize hHS : upd H3 S (.lst (rk.map V.str)) = HS at tS hpS domS bS ⊢
          have hS : HS S = some (.lst (rk.map V.str)) := by rw [← hHS]; exact upd_same
          refine ⟨_, rfl, S, rfl, ⟨_, SqL.of hS⟩, fun D nD => ?_⟩
          have ndD : d ≠ D := by
            obtain ⟨_, ho⟩ := tS.at.1
            exact ne_of_none ho nD
          have nlD : l ≠ D := by
            obtain ⟨_, ho⟩ := tS.at.2
            exact ne_of_none ho nD
          have nSD : S ≠ D := ne_of_none hS nD
          have nSd : S ≠ d := ndS.symm
          have tD : Tape (upd HS D (.lst [])) d l (n + 7) := tS.upd ndD nlD
          have domD : Dom H (upd HS D (.lst [])) := Dom.upd domS
          refine lc_list (K := K) (a := S) (xs := rk.map V.str) (fun i H' => ∃ (ts : List Addr) (us : List V) (ds : List Toy.D), H' D = some (.lst (ts.map V.ref)) ∧ us.length = i ∧ ts.length = i ∧ But d HS H' ∧ Tape H' d l (n + 7 + i * (8 * 4 ^ k)) ∧ Dom (upd HS D (.lst [])) H' ∧ Paired (fun t kv => H' t = some (.tup [kV kv.1, kv.2])) ts (kvOf (rk.take i) us) ∧ Paired (fun x z => Da k (newH (upd HS D (.lst [])) H') x z) us ds ∧ ∀ x ∈ ds, Wd k x)
            ⟨[], [], [], upd_same, rfl, rfl, Same.but (same_new (fun _ _ z => z) nD) d, tD.more (by omega), Dom.refl, by simp [kvOf]; exact .nil, .nil, fun x hx => by simp at hx⟩ ?_ ?_ ?_
          · rintro i H' _ ⟨ts, us, ds, _, _, _, b4, _⟩
            exact SqL.of (b4 _ _ nSd hS)
          · rintro i x H4 hx ⟨ts, us, ds, hD4, lus, lts, b4, t4, dom4, pt, pr, ww⟩
            obtain ⟨key, hk1, rfl⟩ : ∃ key, rk[i]? = some key ∧ V.str key = x := by simpa using hx
            have hi : i < rk.length := by
              rcases Nat.lt_or_ge i rk.length with z | z
              · exact z
              · rw [List.getElem?_eq_none z] at hk1
                cases hk1
            have im : i * (8 * 4 ^ k) ≤ 2 * (8 * 4 ^ k) := Nat.mul_le_mul_right _ (by omega)
            refine ⟨rfl, _, rfl, _, rfl, _, rfl, _, rfl, _, _, rfl, rfl, d, l, p, n + 7 + i * (8 * 4 ^ k), k, ks, by omega, em, t4, by omega, b4 _ _ npd hpS, hl5, hnd, hok, fun H5 v dt b5 t5 q5 w5 => ⟨few (by show 2 ≤ 1000; decide), fun T nT => ?_⟩⟩
            have hD5 : H5 D = some (.lst (ts.map V.ref)) := b5 _ _ ndD.symm hD4
            have nDT : D ≠ T := ne_of_none hD5 nT
            have ndT : d ≠ T := by
              obtain ⟨_, ho⟩ := t5.at.1
              exact ne_of_none ho nT
            have nlT : l ≠ T := by
              obtain ⟨_, ho⟩ := t5.at.2
              exact ne_of_none ho nT
            have keep : ∀ b o, b ≠ d → b ≠ D → H4 b = some o → (upd (upd H5 T (.tup [.str key, v])) D (.lst (ts.map V.ref ++ [.ref T]))) b = some o := fun b o h1 h2 h3 => by
              have z := b5 _ _ h1 h3
              rw [upd_ne h2, upd_ne (ne_of_none z nT)]
              exact z
            refine ⟨ts.map V.ref, (upd_ne nDT).trans hD5, small1000 (by rw [List.length_map]; omega), ts ++ [T], us ++ [v], ds ++ [dt], by rw [upd_same, List.map_append]; rfl, by rw [List.length_append, lus]; rfl, by rw [List.length_append, lts]; rfl, ?_, ?_, ?_, ?_, ?_, w_snoc ww w5⟩
            · intro b o hb ho
              exact keep b o hb (ne_of_none ho nD) (b4 _ _ hb ho)
            · refine ((t5.upd ndT nlT).upd ndD nlD).more ?_
              have : (i + 1) * (8 * 4 ^ k) = i * (8 * 4 ^ k) + 8 * 4 ^ k := Nat.succ_mul _ _
              omega
            · exact Dom.upd (Dom.upd (dom4.trans (Dom.but b5 t5)))
            · have ek : kvOf (rk.take (i + 1)) (us ++ [v]) = kvOf (rk.take i) us ++ [(Sum.inr key, v)] := by
                unfold kvOf
                rw [List.take_add_one, hk1, Option.toList_some, List.zip_append (by rw [List.length_take, lus]; omega), List.map_append]
                rfl
              rw [ek]
              refine Paired.snoc (L2.Paired.mapP pt fun t kv ht => ?_) ?_
              · refine keep t _ ?_ ?_ ht
                · intro z
                  obtain ⟨ns, a, f, e1, _⟩ := t4
                  rw [z, e1] at ht
                  cases ht
                · intro z
                  rw [z, hD4] at ht
                  cases ht
              · exact (upd_ne nDT.symm).trans upd_same
            · have n1 : ∀ b o, H4 b = none → H5 b = some o → (upd (upd H5 T (.tup [.str key, v])) D (.lst (ts.map V.ref ++ [.ref T]))) b = some o := fun b o h1 h2 => by
                rw [upd_ne (fun z => by rw [z, hD4] at h1; cases h1), upd_ne (ne_of_none h2 nT)]
                exact h2
              refine Paired.snoc (paired_mono (new_le Dom.refl fun b o h1 h2 => ?_) (Nat.le_refl _) pr) (q5.mono (new_le dom4 n1) (Nat.le_refl _))
              refine keep b o ?_ ?_ h2
              · intro z
                obtain ⟨_, ho⟩ := tD.at.1
                rw [z, ho] at h1
                cases h1
              · intro z
                rw [z, upd_same] at h1
                cases h1
          · rintro H4 ⟨ts, us, ds, hD4, lus, lts, b4, t4, dom4, pt, pr, ww⟩
            rw [List.length_map] at lus lts t4 pt
            rw [List.take_length] at pt
            have im : rk.length * (8 * 4 ^ k) ≤ 3 * (8 * 4 ^ k) := Nat.mul_le_mul_right _ lrk
            refine ⟨D, ts, kvOf rk us, rfl, SqL.of hD4, L2.Paired.mapP pt fun t kv ht => SqT.of ht, fun e ne => ?_⟩
            have keys : (kvOf rk us).map (·.1) = rk.map Sum.inr := by
              unfold kvOf
              rw [List.map_map]
              have : ((fun x : Key × V => x.1) ∘ fun p : Str × V => ((Sum.inr p.1 : Key), p.2)) = (fun p : Str × V => (Sum.inr p.1 : Key)) := rfl
              rw [this]
              have z : ((rk.zip us).map Prod.fst).map (Sum.inr : Str → Key) = rk.map Sum.inr := by rw [List.map_fst_zip (by omega)]
              rw [List.map_map] at z
              exact z
            have em2 : mergeK [] (kvOf rk us) = kvOf rk us := by
              refine merge_new _ [] ?_
              rw [List.nil_append, keys]
              exact List.Pairwise.map _ (fun a b h z => h (Sum.inr.inj z)) ndrk
            rw [em2]
            refine q _ (.ref e) (.dct rk ds) (fun b o hb ho => ?_) ((t4.upd ?_ ?_).more (by omega)) ?_ ⟨by rw [← Paired.length pr, lus]; exact lrk, ww⟩
            · have z := b4 _ _ hb (bS _ _ hb ho)
              rw [upd_ne (ne_of_none z ne)]
              exact z
            · obtain ⟨_, ho⟩ := t4.at.1
              exact ne_of_none ho ne
            · obtain ⟨_, ho⟩ := t4.at.2
              exact ne_of_none ho ne
            · simp only [Da]
              refine ⟨e, us, rfl, newH_some.mpr ⟨domD _ (dom4 _ ne), upd_same⟩, by omega, lus, ndrk, okrk, paired_mono (new_le domD fun b o h1 h2 => ?_) (Nat.le_refl _) pr⟩
              rw [upd_ne (ne_of_none h2 ne)]
              exact h2
      · refine ⟨_, rfl, _, _, rfl, rfl, _, rfl, iteT ?_⟩
        refine ⟨_, rfl, d, l, n, rfl, hT, by omega, fun H2 v b2 t2 mv => q H2 v (dOf v) b2 (t2.more (by omega)) (leaf_mem mv _ _) (w_leaf mv _)⟩
end
end Toy


namespace Toy
open PySem PySem.Spec L2 PyProof.Rows
/-! ### values as they are displayed -/
/-- at most three parts of each, n levels -/
def W : Nat → D → Prop
  | 0, .lst _ => False
  | 0, .dct _ _ => False
  | n + 1, .lst ds => ds.length ≤ 3 ∧ ∀ x ∈ ds, W n x
  | n + 1, .dct _ ds => ds.length ≤ 3 ∧ ∀ x ∈ ds, W n x
  | _, _ => True
def okT (x : Str) : Bool := PyData.strOk x && decide (x.length ≤ 1000) && decide (37 ∉ x.cps.toList)
def MkE (X : Cx) (z : Addr) (n : Nat) (e : Expr) : Prop := ∃ te, PE X e te ∧ ∀ (σ : L2.St) (H : Hp) (Q : VK), (∃ o, H z = some o) → (∀ v t H', Same H H' → Da n (delH H' z) v t → W n t → Q v H') → te σ H Q
def MkA (X : Cx) (z : Addr) (n : Nat) (es : List Expr) : Prop := ∃ ta, PA X es ta ∧ ∀ (σ : L2.St) (H : Hp) (Q : List V → Hp → Prop), (∃ o, H z = some o) → (∀ vs ts H', Same H H' → Paired (fun x t => Da n (delH H' z) x t) vs ts → (∀ t ∈ ts, W n t) → vs.length = es.length → Q vs H') → ta σ H Q
def IntE (X : Cx) (e : Expr) (i : Int) : Prop := ∃ te, PE X e te ∧ ∀ (σ : L2.St) (H : Hp) (Q : VK), Q (.int i) H → te σ H Q
def StrE (X : Cx) (e : Expr) (x : Str) : Prop := ∃ te, PE X e te ∧ ∀ (σ : L2.St) (H : Hp) (Q : VK), Q (.str x) H → te σ H Q
theorem same_id {H : Hp} : Same H H := fun _ _ z => z
theorem del_new {H : Hp} {p z : Addr} {u : HO} (h : p ≠ z) : delH (upd H p u) z p = some u := by
  rw [delH_ne h, upd_same]
section
variable {X : Cx} {z : Addr} {n : Nat} {pos : Pos} {e : Expr} {es : List Expr}
theorem ie_const {i : Int} {k : Nat} : IntE X (.Constant (.int i) k pos) i := ⟨_, pe_int, fun _ _ _ q => q⟩
theorem ie_neg {i : Int} (h : IntE X e i) : IntE X (.UnaryOp .USub e pos) (-i) := by
  obtain ⟨t, p, k⟩ := h
  exact ⟨_, pe_un un_neg p, fun σ H Q q => k σ H _ ⟨i, rfl, q⟩⟩
theorem ie_pow {e2 : Expr} {i j : Int} (h : IntE X e i) (h2 : IntE X e2 j) (c : 0 ≤ j ∧ j ≤ 1000000 ∧ i.natAbs < 2 ^ 64) : IntE X (.BinOp e .Pow e2 pos) (i ^ j.toNat) := by
  obtain ⟨t, p, k⟩ := h
  obtain ⟨t2, p2, k2⟩ := h2
  exact ⟨_, pe_op op_pow p p2, fun σ H Q q => k σ H _ (k2 σ H _ ⟨i, j, rfl, rfl, c, q⟩)⟩
theorem ie_add {e2 : Expr} {i j : Int} (h : IntE X e i) (h2 : IntE X e2 j) : IntE X (.BinOp e .Add e2 pos) (i + j) := by
  obtain ⟨t, p, k⟩ := h
  obtain ⟨t2, p2, k2⟩ := h2
  exact ⟨_, pe_op op_add p p2, fun σ H Q q => k σ H _ (k2 σ H _ ⟨i, j, rfl, rfl, q⟩)⟩
theorem ie_sub {e2 : Expr} {i j : Int} (h : IntE X e i) (h2 : IntE X e2 j) : IntE X (.BinOp e .Sub e2 pos) (i - j) := by
  obtain ⟨t, p, k⟩ := h
  obtain ⟨t2, p2, k2⟩ := h2
  exact ⟨_, pe_op op_sub p p2, fun σ H Q q => k σ H _ (k2 σ H _ ⟨i, j, rfl, rfl, q⟩)⟩
theorem da_int {H : Hp} {i : Int} : Da n H (.int i) (.int i) := by cases n <;> rfl
theorem w_int {i : Int} : W n (.int i) := by cases n <;> trivial
theorem da_str {H : Hp} {x : Str} (h : okT x = true) : Da n H (.str x) (.str x) := by
  unfold okT at h
  simp only [Bool.and_eq_true, decide_eq_true_eq] at h
  cases n <;> exact ⟨rfl, h.1.1, h.1.2, h.2⟩
theorem w_str {x : Str} : W n (.str x) := by cases n <;> trivial
theorem mk_I {i : Int} (h : IntE X e i) : MkE X z n e := by
  obtain ⟨t, p, k⟩ := h
  exact ⟨_, p, fun σ H Q _ q => k σ H Q (q _ (.int i) H same_id da_int w_int)⟩
theorem mk_int {i : Int} {k : Nat} : MkE X z n (.Constant (.int i) k pos) := mk_I ie_const
theorem mk_neg {i : Int} {k : Nat} {p : Pos} : MkE X z n (.UnaryOp .USub (.Constant (.int i) k p) pos) := mk_I (ie_neg ie_const)
theorem mk_pow {i j : Int} {k k' : Nat} {p p' : Pos} (h : 0 ≤ j ∧ j ≤ 1000000 ∧ i.natAbs < 2 ^ 64) : MkE X z n (.BinOp (.Constant (.int i) k p) .Pow (.Constant (.int j) k' p') pos) := mk_I (ie_pow ie_const ie_const h)
theorem mk_S {x : Str} (h : StrE X e x) (ok : okT x = true) : MkE X z n e := by
  obtain ⟨t, p, k⟩ := h
  exact ⟨_, p, fun σ H Q _ q => k σ H Q (q _ (.str x) H same_id (da_str ok) w_str)⟩
theorem se_const {x : Str} {k : Nat} : StrE X (.Constant (.str x) k pos) x := ⟨_, pe_str, fun _ _ _ q => q⟩
theorem mk_str {x : Str} {k : Nat} (ok : okT x = true) : MkE X z n (.Constant (.str x) k pos) := mk_S se_const ok
theorem mk_bl {b : Bool} {k : Nat} : MkE X z n (.Constant (.bool b) k pos) := ⟨_, pe_bl, fun _ H _ _ q => q _ (.bl b) H same_id (by cases n <;> rfl) (by cases n <;> trivial)⟩
theorem mk_non {k : Nat} : MkE X z n (.Constant .none k pos) := ⟨_, pe_non, fun _ H _ _ q => q _ .non H same_id (by cases n <;> rfl) (by cases n <;> trivial)⟩
theorem mk_nil : MkA X z n [] := ⟨_, pa_nil, fun _ H _ _ q => q [] [] H same_id .nil (fun _ h => by simp at h) rfl⟩
theorem mk_cons (a : MkE X z n e) (r : MkA X z n es) (he : starEach (e :: es) X.env = (false, eval e X.env) :: starEach es X.env := by rfl) : MkA X z n (e :: es) := by
  obtain ⟨te, p1, m1⟩ := a
  obtain ⟨ta, p2, m2⟩ := r
  refine ⟨_, pa_cons p1 p2 he, fun σ H Q hz q => ?_⟩
  refine m1 σ H _ hz fun v t H1 s1 d1 w1 => ?_
  obtain ⟨o, ho⟩ := hz
  exact m2 σ H1 _ ⟨o, s1 _ _ ho⟩ fun vs ts H2 s2 d2 w2 l2 => q (v :: vs) (t :: ts) H2 (fun b u h => s2 _ _ (s1 _ _ h)) (.cons (d1.mono (Same.delH s2 z) (Nat.le_refl _)) d2) (fun x hx => by
    rcases List.mem_cons.mp hx with rfl | hx
    · exact w1
    · exact w2 x hx) (by rw [List.length_cons, List.length_cons, l2])
theorem mk_tup {x1 : Nat} (a : MkA X z 3 es) (h : es.length ≤ 1000) : MkE X z n (.Tuple es x1 pos) := by
  obtain ⟨ta, p1, m1⟩ := a
  refine ⟨_, pe_tup p1, fun σ H Q hz q => m1 σ H _ hz fun vs ts H1 s1 d1 _ l1 => ⟨few (by omega), fun p np => ?_⟩⟩
  obtain ⟨o, ho⟩ := hz
  have npz : p ≠ z := (ne_of_none (s1 _ _ ho) np).symm
  exact q _ .tup _ (same_new s1 np) (by cases n <;> exact ⟨p, vs, rfl, del_new npz⟩) (by cases n <;> trivial)
theorem mk_lst (a : MkA X z n es) (h : es.length ≤ 3) : MkE X z (n + 1) (.List es pos) := by
  obtain ⟨ta, p1, m1⟩ := a
  refine ⟨_, pe_lst p1, fun σ H Q hz q => m1 σ H _ hz fun vs ts H1 s1 d1 w1 l1 => ⟨few (by omega), fun p np => ?_⟩⟩
  obtain ⟨o, ho⟩ := hz
  have npz : p ≠ z := (ne_of_none (s1 _ _ ho) np).symm
  have lt : ts.length = vs.length := (Paired.length d1).symm
  refine q _ (.lst ts) _ (same_new s1 np) ?_ ⟨by omega, w1⟩
  simp only [Da]
  exact ⟨p, vs, rfl, del_new npz, by omega, L2.Paired.mapP d1 fun _ _ w => Da.mono (Same.delH (same_new same_id np) z) (Nat.le_refl _) w⟩
theorem mk_d0 : MkE X z (n + 1) (.Dict [] [] pos) := by
  refine ⟨_, pe_dnewK, fun σ H Q hz q p np => ?_⟩
  obtain ⟨o, ho⟩ := hz
  refine q _ (.dct [] []) _ (same_new same_id np) ?_ ⟨by decide, fun _ h => by simp at h⟩
  simp only [Da]
  exact ⟨p, [], rfl, del_new (ne_of_none ho np).symm, by decide, rfl, by simp, by simp, .nil⟩
theorem da0_keep {H2 : Hp} {p : Addr} {v : V} {t : D} {u : HO} (hp : H2 p = some (.dK [])) (h : Da 0 (delH H2 z) v t) : Da n (delH (upd H2 p u) z) v t := by
  have s : ∀ b o, delH H2 z b = some o → o ≠ .dK [] → delH (upd H2 p u) z b = some o := fun b o e ne => by
    by_cases hb : b = z
    · rw [hb, delH_same] at e
      cases e
    · rw [delH_ne hb] at e ⊢
      rw [upd_ne (fun q => ne (by rw [q, hp] at e; exact (Option.some.inj e).symm))]
      exact e
  cases t with
  | non => cases n <;> simpa [Da] using h
  | bl b => cases n <;> simpa [Da] using h
  | int i => cases n <;> simpa [Da] using h
  | str x => cases n <;> simpa [Da] using h
  | lst ds => simp only [Da] at h
  | dct ks ds => simp only [Da] at h
  | tup =>
    obtain ⟨a, xs, h1, h2⟩ := (show ∃ a xs, v = .ref a ∧ delH H2 z a = some (.tup xs) from by simpa only [Da] using h)
    cases n <;> exact ⟨a, xs, h1, s _ _ h2 (fun q => nomatch q)⟩
  | odd =>
    have h' : OddAt (delH H2 z) v := by simpa only [Da] using h
    have : OddAt (delH (upd H2 p u) z) v := by
      obtain ⟨q, rfl, ⟨i, w, h⟩ | ⟨ks, w, ok, h⟩ | ⟨k, o, h, r⟩⟩ := h'
      · exact ⟨q, rfl, .inl ⟨i, w, s _ _ h (fun q => by cases q)⟩⟩
      · exact ⟨q, rfl, .inr (.inl ⟨ks, w, ok, s _ _ h (fun q => nomatch q)⟩)⟩
      · exact ⟨q, rfl, .inr (.inr ⟨k, o, s _ _ h (fun q => nomatch q), r⟩)⟩
    cases n <;> exact this
theorem w0_any {t : D} (h : W 0 t) : W n t := by
  cases t with
  | lst ds => exact False.elim h
  | dct ks ds => exact False.elim h
  | _ => cases n <;> trivial
theorem mk_d1 {e2 : Expr} {k0 : Nat} {kp : Pos} {k : Str} (h2 : MkE X z 0 e2) (ok : okK k = true) : MkE X z (n + 1) (.Dict [some (.Constant (.str k) k0 kp)] [e2] pos) := by
  obtain ⟨te, p2, m2⟩ := h2
  refine ⟨_, pe_disp (pps_cons pe_str p2 pps_nil) (by rfl) (by rfl) (fun z => by cases z) (by show 1 ≤ 15; decide), fun σ H Q hz q p np => ?_⟩
  obtain ⟨o, ho⟩ := hz
  have s1 : Same H (upd H p (.dK [])) := same_new same_id np
  refine m2 σ _ _ ⟨o, s1 _ _ ho⟩ fun v t H2 s2 d2 w2 => ⟨s2 _ _ upd_same, [(Sum.inr k, v)], rfl, (by show 1 ≤ 15; decide), ?_⟩
  have em : mergeK [] [((Sum.inr k : Key), v)] = [(Sum.inr k, v)] := merge_new _ [] (by simp)
  rw [em]
  have npz : p ≠ z := (ne_of_none ho np).symm
  have hp2 : H2 p = some (.dK []) := s2 _ _ upd_same
  refine q _ (.dct [k] [t]) _ (fun b u h => ?_) ?_ ⟨by show 1 ≤ 3; decide, fun x hx => by rw [List.mem_singleton.mp hx]; exact w0_any w2⟩
  · rw [upd_ne (ne_of_none h np)]
    exact s2 _ _ (s1 _ _ h)
  · simp only [Da]
    exact ⟨p, [v], rfl, del_new npz, by show 1 ≤ 20; decide, rfl, by simp, fun k' hk => by rw [List.mem_singleton.mp hk]; exact ok, .cons (da0_keep hp2 d2) .nil⟩
theorem mk_d1i {e2 : Expr} {k0 : Nat} {kp : Pos} {i : Int} (h2 : MkE X z 0 e2) : MkE X z n (.Dict [some (.Constant (.int i) k0 kp)] [e2] pos) := by
  obtain ⟨te, p2, m2⟩ := h2
  refine ⟨_, pe_disp (pps_cons pe_int p2 pps_nil) (by rfl) (by rfl) (fun z => by cases z) (by show 1 ≤ 15; decide), fun σ H Q hz q p np => ?_⟩
  obtain ⟨o, ho⟩ := hz
  have s1 : Same H (upd H p (.dK [])) := same_new same_id np
  refine m2 σ _ _ ⟨o, s1 _ _ ho⟩ fun v t H2 s2 d2 w2 => ⟨s2 _ _ upd_same, [(Sum.inl i, v)], rfl, (by show 1 ≤ 15; decide), ?_⟩
  have em : mergeK [] [((Sum.inl i : Key), v)] = [(Sum.inl i, v)] := merge_new _ [] (by simp)
  rw [em]
  have npz : p ≠ z := (ne_of_none ho np).symm
  refine q _ .odd _ (fun b u h => ?_) ?_ (by cases n <;> trivial)
  · rw [upd_ne (ne_of_none h np)]
    exact s2 _ _ (s1 _ _ h)
  · have : OddAt (delH (upd H2 p (.dK [(Sum.inl i, v)])) z) (.ref p) := ⟨p, rfl, .inl ⟨i, v, del_new npz⟩⟩
    cases n <;> exact this
theorem mk_dN {e1 e2 : Expr} {k : V} (hk : k = .non ∨ k = .bl true) (h1 : PE X e1 (tC k)) (h2 : MkE X z 0 e2) : MkE X z n (.Dict [some e1] [e2] pos) := by
  obtain ⟨te, p2, m2⟩ := h2
  refine ⟨_, pe_disp1 h1 p2, fun σ H Q hz q p np => ?_⟩
  obtain ⟨o, ho⟩ := hz
  have s1 : Same H (upd H p (.dK [])) := same_new same_id np
  refine m2 σ _ _ ⟨o, s1 _ _ ho⟩ fun v t H2 s2 d2 w2 => ⟨s2 _ _ upd_same, hk, fun oo k' ho' hn' hs' => ?_⟩
  have npz : p ≠ z := (ne_of_none ho np).symm
  refine q _ .odd _ (fun b u h => ?_) ?_ (by cases n <;> trivial)
  · rw [upd_ne (ne_of_none h np)]
    exact s2 _ _ (s1 _ _ h)
  · have : OddAt (delH (upd H2 p (exO p oo)) z) (.ref p) := ⟨p, rfl, .inr (.inr ⟨k', oo, del_new npz, ho', hn', hs'⟩)⟩
    cases n <;> exact this
theorem mk_dT {e2 : Expr} {x1 k0 : Nat} {kp kq : Pos} {k : Str} (hu : X.A.units + 1 < cLine) (ok : okK k = true) (h2 : MkE X z 0 e2) (hs : starEach [.Constant (.str k) k0 kp] X.env = (false, eval (.Constant (.str k) k0 kp) X.env) :: starEach [] X.env := by rfl) :
    MkE X z n (.Dict [some (.Tuple [.Constant (.str k) k0 kp] x1 kq)] [e2] pos) := by
  obtain ⟨te, p2, m2⟩ := h2
  refine ⟨_, pe_dispT hu (pe_tup (pa_cons pe_str pa_nil hs)) p2, fun σ H Q hz q p np => ⟨few (by show 1 ≤ 1000; decide), fun t nt => ?_⟩⟩
  obtain ⟨o, ho⟩ := hz
  have s1 : Same H (upd H p (.dT [])) := same_new same_id np
  have s2 : Same (upd H p (.dT [])) (upd (upd H p (.dT [])) t (.tup [.str k])) := same_new same_id nt
  refine m2 σ _ _ ⟨o, s2 _ _ (s1 _ _ ho)⟩ fun v tt H2 s3 d2 w2 => ⟨t, [Sum.inr k], rfl, s3 _ _ upd_same, s3 _ _ (s2 _ _ upd_same), ?_⟩
  have npz : p ≠ z := (ne_of_none ho np).symm
  refine q _ .odd _ (fun b u h => ?_) ?_ (by cases n <;> trivial)
  · rw [upd_ne (ne_of_none h np)]
    exact s3 _ _ (s2 _ _ (s1 _ _ h))
  · have : OddAt (delH (upd H2 p (.dT [([Sum.inr k], v)])) z) (.ref p) := ⟨p, rfl, .inr (.inl ⟨k, v, ok, del_new npz⟩)⟩
    cases n <;> exact this
end
end Toy


namespace Toy
open PySem PySem.Spec L2 PyProof.Rows
abbrev sOdd : Stmt := top 24
abbrev sBeyond : Stmt := top 29
theorem se_rep {X : Cx} {e e2 : Expr} {pos : Pos} {x : Str} {k : Int} (h : StrE X e x) (h2 : IntE X e2 k) (c : 1 < k ∧ k ≤ 1000 ∧ 0 < x.length ∧ x.length ≤ 1000 ∧ (repS x k.toNat).length ≤ sizeLine) : StrE X (.BinOp e .Mult e2 pos) (repS x k.toNat) := by
  obtain ⟨t, p, q⟩ := h
  obtain ⟨t2, p2, q2⟩ := h2
  exact ⟨_, pe_op op_mulS p p2, fun σ H Q z => q σ H _ (q2 σ H _ ⟨x, k, rfl, rfl, c.1, c.2.1, c.2.2.1, c.2.2.2.1, c.2.2.2.2, z⟩)⟩
/-- the items of the list that a statement sets, adds, or hands on as the last thing -/
def elts : Stmt → List Expr
  | .Assign _ (.List es _) _ => es
  | .Assign _ (.BinOp _ _ (.List es _) _) _ => es
  | .Return (some (.Call _ [_, .BinOp _ _ (.List es _) _] _ _)) _ => es
  | _ => []
section
variable {X : Cx} {z : Addr}
theorem a1 : MkA X z 3 (elts (partOf sOdd 0)) :=
  mk_cons mk_non (mk_cons mk_bl (mk_cons mk_bl (mk_cons mk_int (mk_cons mk_int (mk_cons mk_neg (mk_cons mk_int (mk_cons (mk_pow ⟨by decide, by decide, by decide⟩)
    (mk_cons (mk_str (by decide +kernel)) (mk_cons (mk_str (by decide +kernel)) (mk_cons (mk_str (by decide +kernel)) (mk_cons (mk_str (by decide +kernel)) (mk_cons (mk_str (by decide +kernel)) (mk_cons (mk_tup mk_nil (by decide)) (mk_cons (mk_lst mk_nil (by decide)) (mk_cons mk_d0
    (mk_cons (mk_tup (mk_cons (mk_str (by decide +kernel)) mk_nil) (by decide)) (mk_cons (mk_lst (mk_cons (mk_str (by decide +kernel)) mk_nil) (by decide)) (mk_cons (mk_tup (mk_cons mk_int mk_nil) (by decide)) mk_nil))))))))))))))))))
theorem a2 : MkA X z 3 (elts (partOf sOdd 1)) :=
  mk_cons (mk_tup (mk_cons (mk_str (by decide +kernel)) mk_nil) (by decide)) (mk_cons (mk_lst (mk_cons (mk_str (by decide +kernel)) mk_nil) (by decide)) (mk_cons (mk_tup (mk_cons (mk_str (by decide +kernel)) (mk_cons (mk_str (by decide +kernel)) mk_nil)) (by decide))
    (mk_cons (mk_tup (mk_cons (mk_str (by decide +kernel)) (mk_cons mk_int mk_nil)) (by decide)) (mk_cons (mk_tup (mk_cons (mk_str (by decide +kernel)) (mk_cons mk_bl mk_nil)) (by decide)) (mk_cons (mk_tup (mk_cons (mk_str (by decide +kernel)) (mk_cons mk_int mk_nil)) (by decide))
    (mk_cons (mk_d1 mk_int (by decide +kernel)) (mk_cons (mk_d1i (mk_str (by decide +kernel))) mk_nil)))))))
theorem a3 : MkA X z 3 (elts (partOf sOdd 2)) :=
  mk_cons (mk_tup (mk_cons (mk_str (by decide +kernel)) (mk_cons (mk_str (by decide +kernel)) mk_nil)) (by decide)) (mk_cons (mk_tup (mk_cons (mk_str (by decide +kernel)) (mk_cons (mk_str (by decide +kernel)) mk_nil)) (by decide)) (mk_cons (mk_tup (mk_cons (mk_str (by decide +kernel)) (mk_cons (mk_tup mk_nil (by decide)) mk_nil)) (by decide))
    (mk_cons (mk_tup (mk_cons (mk_str (by decide +kernel)) (mk_cons mk_int mk_nil)) (by decide)) (mk_cons (mk_tup (mk_cons (mk_tup mk_nil (by decide)) mk_nil) (by decide)) (mk_cons (mk_lst (mk_cons (mk_tup mk_nil (by decide)) mk_nil) (by decide))
    (mk_cons (mk_lst (mk_cons (mk_lst mk_nil (by decide)) mk_nil) (by decide)) (mk_cons (mk_tup (mk_cons mk_non mk_nil) (by decide)) (mk_cons (mk_tup (mk_cons (mk_str (by decide +kernel)) mk_nil) (by decide)) mk_nil))))))))
theorem a4 : MkA X z 3 (elts (partOf sOdd 3)) :=
  mk_cons mk_int (mk_cons mk_neg (mk_cons mk_int (mk_cons mk_int (mk_cons (mk_str (by decide +kernel)) (mk_cons (mk_str (by decide +kernel)) (mk_cons (mk_tup (mk_cons (mk_str (by decide +kernel)) (mk_cons mk_non mk_nil)) (by decide)) (mk_cons (mk_tup (mk_cons mk_bl mk_nil) (by decide))
    (mk_cons (mk_tup (mk_cons mk_int (mk_cons mk_int mk_nil)) (by decide)) (mk_cons (mk_tup (mk_cons (mk_str (by decide +kernel)) (mk_cons mk_int mk_nil)) (by decide)) mk_nil)))))))))
theorem b1 : MkA X z 3 (elts (partOf sBeyond 0)) :=
  mk_cons (mk_pow ⟨by decide, by decide, by decide⟩) (mk_cons (mk_I (ie_neg (ie_pow ie_const ie_const ⟨by decide, by decide, by decide⟩))) (mk_cons (mk_I (ie_add (ie_pow ie_const ie_const ⟨by decide, by decide, by decide⟩) ie_const)) (mk_cons (mk_I (ie_sub (ie_neg (ie_pow ie_const ie_const ⟨by decide, by decide, by decide⟩)) ie_const))
    (mk_cons (mk_S (se_rep se_const ie_const (by decide +kernel)) (by decide +kernel)) (mk_cons (mk_S (se_rep se_const ie_const (by decide +kernel)) (by decide +kernel)) (mk_cons (mk_str (by decide +kernel)) (mk_cons (mk_str (by decide +kernel)) (mk_cons (mk_str (by decide +kernel))
    (mk_cons (mk_d1 mk_int (by decide +kernel)) (mk_cons (mk_d1 mk_int (by decide +kernel)) mk_nil))))))))))
theorem b2 : MkA X z 3 (elts (partOf sBeyond 1)) :=
  mk_cons (mk_d1 mk_int (by decide +kernel)) (mk_cons (mk_d1 mk_int (by decide +kernel)) (mk_cons (mk_d1 mk_int (by decide +kernel)) (mk_cons (mk_d1 mk_int (by decide +kernel)) (mk_cons (mk_d1i mk_int) (mk_cons (mk_d1 mk_non (by decide +kernel)) (mk_cons (mk_tup (mk_cons mk_int mk_nil) (by decide))
    (mk_cons (mk_d1 (mk_tup (mk_cons mk_int mk_nil) (by decide)) (by decide +kernel)) mk_nil)))))))
theorem b3 (hu : X.A.units + 1 < cLine) : MkA X z 3 (elts (partOf sBeyond 2)) :=
  mk_cons (mk_lst (mk_cons (mk_str (by decide +kernel)) (mk_cons (mk_tup mk_nil (by decide)) mk_nil)) (by decide)) (mk_cons (mk_dN (.inl rfl) pe_non mk_int) (mk_cons (mk_dT hu (by decide +kernel) mk_int) (mk_cons (mk_d1 mk_int (by decide +kernel))
    (mk_cons (mk_lst (mk_cons (mk_lst (mk_cons (mk_tup mk_nil (by decide)) (mk_cons mk_int mk_nil)) (by decide)) mk_nil) (by decide)) (mk_cons (mk_pow ⟨by decide, by decide, by decide⟩) (mk_cons (mk_dN (.inr rfl) pe_bl mk_int) mk_nil))))))
end
theorem paired_app {α β : Type} {R : α → β → Prop} : ∀ {xs ys : List α} {as bs : List β}, Paired R xs as → Paired R ys bs → Paired R (xs ++ ys) (as ++ bs)
  | _, _, _, _, .nil, k => k
  | _, _, _, _, .cons r t, k => .cons r (paired_app t k)
/-- all of the list are data beside z -/
def AllD (z : Addr) (H : Hp) (xs : List V) : Prop := ∃ ts, Paired (fun x t => Da 3 (delH H z) x t) xs ts ∧ ∀ t ∈ ts, W 3 t
theorem AllD.same {z : Addr} {H H' : Hp} {xs : List V} (h : AllD z H xs) (s : Same H H') : AllD z H' xs := by
  obtain ⟨ts, p, w⟩ := h
  exact ⟨ts, L2.Paired.mapP p fun _ _ q => q.mono (Same.delH s z) (Nat.le_refl _), w⟩
theorem AllD.app {z : Addr} {H : Hp} {xs ys : List V} (h : AllD z H xs) (k : AllD z H ys) : AllD z H (xs ++ ys) := by
  obtain ⟨ts, p, w⟩ := h
  obtain ⟨us, p2, w2⟩ := k
  exact ⟨ts ++ us, paired_app p p2, fun t ht => (List.mem_append.mp ht).elim (w t) (w2 t)⟩
theorem paired_mem {α β : Type} {R : α → β → Prop} : ∀ {xs : List α} {as : List β}, Paired R xs as → ∀ x ∈ xs, ∃ a ∈ as, R x a
  | _, _, .nil, x, h => by simp at h
  | _, _, .cons r t, x, h => by
    rcases List.mem_cons.mp h with rfl | h
    · exact ⟨_, List.mem_cons_self, r⟩
    · obtain ⟨a, h1, h2⟩ := paired_mem t x h
      exact ⟨a, List.mem_cons_of_mem _ h1, h2⟩
def MakesA (z : Addr) (ta : TA) (n : Nat) : Prop := ∀ (σ : L2.St) (H : Hp) (Q : List V → Hp → Prop), (∃ o, H z = some o) → (∀ vs ts H', Same H H' → Paired (fun x t => Da 3 (delH H' z) x t) vs ts → (∀ t ∈ ts, W 3 t) → vs.length = n → Q vs H') → ta σ H Q
theorem grow {z l : Addr} {σ : L2.St} {H : Hp} {Q : VK} {ta : TA} {xs : List V} {n : Nat} (k : MakesA z ta n) (hm : xs.length + n ≤ 1000) (hσ : σ[1]? = some (some (.ref l))) (hz : ∃ o, H z = some o) (hl : H l = some (.lst xs)) (hd : AllD z H xs)
    (q : ∀ p x2 H', Same H H' → H' p = some (.lst (xs ++ x2)) → AllD z H' (xs ++ x2) → x2.length = n → Q (.ref p) H') : tOp rCat (tVar 1) (tLst ta) σ H Q := by
  obtain ⟨o, ho⟩ := hz
  refine ⟨_, hσ, k _ _ _ ⟨o, ho⟩ fun x2 t2 H1 s1 d1 w1 e1 => ⟨few (by omega), fun l2 n2 => ?_⟩⟩
  have s2 := same_new (u := .lst x2) s1 n2
  refine ⟨l, l2, xs, x2, rfl, rfl, s2 _ _ hl, upd_same, few (by omega), fun p np => ?_⟩
  have s3 := same_new (u := .lst (xs ++ x2)) s2 np
  refine q p x2 _ s3 upd_same ((hd.same s3).app ?_) e1
  exact AllD.same (H := H1) ⟨t2, d1, w1⟩ (same_new (same_new (fun _ _ z => z) n2) np)
def spOdd : Sp := fun vs H Q _ => ∃ (d l : Addr) (n : Nat), vs = [.ref d] ∧ Tape H d l n ∧ n ≤ 1000000 ∧ ∀ H' v t, But d H H' → Tape H' d l (n + 1) → Da 3 (delH H' d) v t → W 3 t → Q v H'
section
variable {P : Program} {w : World} {K : PySem.W.Frag} {mg : Str → Option Value} {base : Heap}
theorem scO : FnScope ["_law_tape", "_law_some"] ["_law_tape"] (defScope sOdd) := ⟨rfl, rfl, rfl, by decide +kernel, rfl, by decide +kernel, by decide +kernel⟩
theorem scBy : FnScope ["_law_tape", "_law_rows"] ["_law_tape"] (defScope sBeyond) := ⟨rfl, rfl, rfl, by decide +kernel, rfl, by decide +kernel, by decide +kernel⟩
theorem pick_of {d l p : Addr} {n : Nat} {H H0 : Hp} {xs : List V} {Q : VK} (s : Same H0 H) (hT : Tape H0 d l n) (hn : n ≤ 1000000) (hp : H p = some (.lst xs)) (ne : xs ≠ []) (le : xs.length ≤ 1000) (hd : AllD d H xs) (q : ∀ H' v t, But d H0 H' → Tape H' d l (n + 1) → Da 3 (delH H' d) v t → W 3 t → Q v H') :
    ∃ (d1 l1 p1 : Addr) (n1 : Nat) (xs1 : List V), [V.ref d, V.ref p] = [.ref d1, .ref p1] ∧ Tape H d1 l1 n1 ∧ n1 ≤ 1000000 ∧ H p1 = some (.lst xs1) ∧ xs1 ≠ [] ∧ xs1.length < 1000000 ∧ ∀ H' v, But d1 H H' → Tape H' d1 l1 (n1 + 1) → v ∈ xs1 → Q v H' := by
  refine ⟨d, l, p, n, xs, rfl, hT.same s, hn, hp, ne, by omega, fun H' v hb hT' hv => ?_⟩
  obtain ⟨ts, pr, ww⟩ := hd
  obtain ⟨t, ht, hq⟩ := paired_mem pr v hv
  exact q H' v t ((Same.but s d).trans hb) hT' (hq.mono (But.off hb) (Nat.le_refl _)) (ww t ht)
theorem ok_odd {f fP : Addr} {fd fdP : FuncData} (F : Fun K "_law_odd" "_law_odd" sOdd f fd) (GP : FnOk P w K mg base CX0 2 fP fdP ["_law_tape", "_law_items"] spPick) (mP : mg "_law_pick" = some (.ref fP)) (kP : PySem.W.keepIn K (.ref fP) = true) (bP : Binds K fdP ["_law_tape", "_law_items"] []) : FnOk P w K mg base CX0 3 f fd ["_law_tape"] spOdd := by
  refine F.ok scO (fun vs H Q E h => ?_) (fun cdv A outer s H vs Q E hr h => ?_)
  · obtain ⟨d, l, n, rfl, _⟩ := h
    rfl
  · obtain ⟨d, l, n, rfl, hT, hn, q⟩ := h
    obtain ⟨t1, p1, k1⟩ := a1 (X := (cxOf CX0 P w K mg base ["_law_tape", "_law_some"] "_law_odd" (defScope sOdd) f cdv A outer s H E).nox) (z := d)
    obtain ⟨t2, p2, k2⟩ := a2 (X := (cxOf CX0 P w K mg base ["_law_tape", "_law_some"] "_law_odd" (defScope sOdd) f cdv A outer s H E).nox) (z := d)
    obtain ⟨t3, p3, k3⟩ := a3 (X := (cxOf CX0 P w K mg base ["_law_tape", "_law_some"] "_law_odd" (defScope sOdd) f cdv A outer s H E).nox) (z := d)
    obtain ⟨t4, p4, k4⟩ := a4 (X := (cxOf CX0 P w K mg base ["_law_tape", "_law_some"] "_law_odd" (defScope sOdd) f cdv A outer s H E).nox) (z := d)
    refine ⟨_, pss_cons (ps_set (i := 1) scO.nd rfl (Or.inl rfl) (pe_lst p1)) (pss_cons (ps_set (i := 1) scO.nd rfl (Or.inl rfl) (pe_op op_cat (pv 1) (pe_lst p2))) (pss_cons (ps_set (i := 1) scO.nd rfl (Or.inl rfl) (pe_op op_cat (pv 1) (pe_lst p3)))
      (pss_one (ps_ret (pe_call GP hr rfl mP kP bP .nil pass0 (pa_cons (pv 0) (pa_cons (pe_op op_cat (pv 1) (pe_lst p4)) pa_nil))))))), ?_⟩
    obtain ⟨o, ho⟩ := hT.at.1
    have l1 : (elts (partOf sOdd 0)).length = 19 := rfl
    have l2 : (elts (partOf sOdd 1)).length = 8 := rfl
    have l3 : (elts (partOf sOdd 2)).length = 9 := rfl
    have l4 : (elts (partOf sOdd 3)).length = 10 := rfl
    refine k1 _ _ _ ⟨o, ho⟩ fun x1 y1 H1 s1 d1 w1 e1 => ⟨few (by omega), fun l1' n1 => ?_⟩
    have s2 := same_new (u := .lst x1) s1 n1
    refine grow (z := d) (l := l1') (xs := x1) k2 (by omega) rfl ⟨o, s2 _ _ ho⟩ upd_same (AllD.same (H := H1) ⟨y1, d1, w1⟩ (same_new (fun _ _ z => z) n1)) fun l2' x2 H2 s3 h3 d3 e3 => ?_
    have s4 := s2.trans s3
    refine grow (z := d) (l := l2') (xs := x1 ++ x2) k3 (by rw [List.length_append]; omega) rfl ⟨o, s4 _ _ ho⟩ h3 d3 fun l3' x3 H3 s5 h5 d5 e5 => ?_
    have s6 := s4.trans s5
    refine ⟨_, rfl, grow (z := d) (l := l3') (xs := x1 ++ x2 ++ x3) k4 (by simp only [List.length_append]; omega) rfl ⟨o, s6 _ _ ho⟩ h5 d5 fun l4' x4 H4 s7 h7 d7 e7 => ?_⟩
    refine pick_of (s6.trans s7) hT hn h7 (fun e => ?_) (by simp only [List.length_append]; omega) d7 q
    have := congrArg List.length e
    simp only [List.length_append, List.length_nil] at this
    omega
theorem ok_beyond {f fP : Addr} {fd fdP : FuncData} (F : Fun K "_law_beyond" "_law_beyond" sBeyond f fd) (GP : FnOk P w K mg base CX0 2 fP fdP ["_law_tape", "_law_items"] spPick) (mP : mg "_law_pick" = some (.ref fP)) (kP : PySem.W.keepIn K (.ref fP) = true) (bP : Binds K fdP ["_law_tape", "_law_items"] []) : FnOk P w K mg base CX0 3 f fd ["_law_tape"] spOdd := by
  refine F.ok scBy (fun vs H Q E h => ?_) (fun cdv A outer s H vs Q E hr h => ?_)
  · obtain ⟨d, l, n, rfl, _⟩ := h
    rfl
  · obtain ⟨d, l, n, rfl, hT, hn, q⟩ := h
    have hu := hu_of hr
    obtain ⟨t1, p1, k1⟩ := b1 (X := (cxOf CX0 P w K mg base ["_law_tape", "_law_rows"] "_law_beyond" (defScope sBeyond) f cdv A outer s H E).nox) (z := d)
    obtain ⟨t2, p2, k2⟩ := b2 (X := (cxOf CX0 P w K mg base ["_law_tape", "_law_rows"] "_law_beyond" (defScope sBeyond) f cdv A outer s H E).nox) (z := d)
    obtain ⟨t3, p3, k3⟩ := b3 (X := (cxOf CX0 P w K mg base ["_law_tape", "_law_rows"] "_law_beyond" (defScope sBeyond) f cdv A outer s H E).nox) (z := d) hu
    refine ⟨_, pss_cons (ps_set (i := 1) scBy.nd rfl (Or.inl rfl) (pe_lst p1)) (pss_cons (ps_set (i := 1) scBy.nd rfl (Or.inl rfl) (pe_op op_cat (pv 1) (pe_lst p2)))
      (pss_one (ps_ret (pe_call GP hr rfl mP kP bP .nil pass0 (pa_cons (pv 0) (pa_cons (pe_op op_cat (pv 1) (pe_lst p3)) pa_nil)))))), ?_⟩
    obtain ⟨o, ho⟩ := hT.at.1
    have l1 : (elts (partOf sBeyond 0)).length = 11 := rfl
    have l2 : (elts (partOf sBeyond 1)).length = 8 := rfl
    have l3 : (elts (partOf sBeyond 2)).length = 7 := rfl
    refine k1 _ _ _ ⟨o, ho⟩ fun x1 y1 H1 s1 d1 w1 e1 => ⟨few (by omega), fun l1' n1 => ?_⟩
    have s2 := same_new (u := .lst x1) s1 n1
    refine grow (z := d) (l := l1') (xs := x1) k2 (by omega) rfl ⟨o, s2 _ _ ho⟩ upd_same (AllD.same (H := H1) ⟨y1, d1, w1⟩ (same_new (fun _ _ z => z) n1)) fun l2' x2 H2 s3 h3 d3 e3 => ?_
    have s4 := s2.trans s3
    refine ⟨_, rfl, grow (z := d) (l := l2') (xs := x1 ++ x2) k3 (by simp only [List.length_append]; omega) rfl ⟨o, s4 _ _ ho⟩ h3 d3 fun l4' x4 H4 s7 h7 d7 e7 => ?_⟩
    refine pick_of (s4.trans s7) hT hn h7 (fun e => ?_) (by simp only [List.length_append]; omega) d7 q
    have := congrArg List.length e
    simp only [List.length_append, List.length_nil] at this
    omega
end
end Toy


namespace Toy
open PySem PySem.Spec L2 PyProof.Rows PySem.W
abbrev sSort : Stmt := top 14
def leS (a b : Str) : Bool := !ltCps b.cps.toList a.cps.toList
def skeys (ks : List Str) : List Str := ks.mergeSort leS
def look : List Str → List D → Str → D
  | k :: ks, d :: ds, x => if k = x then d else look ks ds x
  | _, _, _ => .non
def inner : D → List D
  | .lst ds => ds
  | .dct ks ds => (skeys ks).map (look ks ds)
  | _ => []
/-- no tuple, no dict of odd keys -/
def plain : D → Prop
  | .tup => False
  | .odd => False
  | _ => True
def cnt : Nat → D → Int
  | 0, _ => 1
  | n + 1, d => 1 + ((inner d).map (cnt n)).sum
theorem cNeg {a b c : List Nat} (h : ltCps a c = true) : ltCps a b = true ∨ ltCps b c = true := by
  rw [PyProof.Rows.ltCps_eq] at h ⊢
  rw [PyProof.Rows.ltCps_eq]
  exact PyProof.Rows.strKind.negTrans a b c h
theorem cTot {a b : List Nat} (h : ltCps a b = false) (h' : ltCps b a = false) : a = b := by
  rw [PyProof.Rows.ltCps_eq] at h h'
  exact PyProof.Rows.strKind.total a b h h'
theorem cAsy {a b : List Nat} (h : ltCps a b = true) (h' : ltCps b a = true) : False := by
  rw [PyProof.Rows.ltCps_eq] at h h'
  have z := PyProof.Rows.strKind.trans a b a h h'
  rw [PyProof.Rows.strKind.irrefl] at z
  cases z
theorem rising_pair : ∀ (p : Str) (l : List Str), risingS p l = true → (p :: l).Pairwise fun a b => leS a b = true
  | p, [], _ => List.pairwise_singleton _ _
  | p, x :: r, h => by
    have h' : (!ltCps x.cps.toList p.cps.toList && risingS x r) = true := h
    rw [Bool.and_eq_true] at h'
    have ih := rising_pair x r h'.2
    refine List.pairwise_cons.mpr ⟨fun y hy => ?_, ih⟩
    have h1 : ltCps x.cps.toList p.cps.toList = false := by simpa using h'.1
    have hxp : leS p x = true := h'.1
    rcases List.mem_cons.mp hy with e | hy
    · rw [e]; exact hxp
    · have hxy : leS x y = true := (List.pairwise_cons.mp ih).1 y hy
      have h2 : ltCps y.cps.toList x.cps.toList = false := by simpa [leS] using hxy
      show (!ltCps y.cps.toList p.cps.toList) = true
      cases q : ltCps y.cps.toList p.cps.toList with
      | false => rfl
      | true =>
        rcases cNeg (b := x.cps.toList) q with z | z
        · have z' : ltCps y.cps.toList x.cps.toList = true := z
          rw [h2] at z'
          cases z'
        · have z' : ltCps x.cps.toList p.cps.toList = true := z
          rw [h1] at z'
          cases z'
theorem sorted_pair {l : List Str} (h : sortedS l = true) : l.Pairwise fun a b => leS a b = true := by
  cases l with
  | nil => exact .nil
  | cons x r => exact rising_pair x r h
theorem skeys_perm (ks : List Str) : (skeys ks).Perm ks := List.mergeSort_perm _ _
theorem skeys_uniq {ks ys : List Str} (p : ys.Perm ks) (s : sortedS ys = true) : ys = skeys ks := by
  refine List.Perm.eq_of_pairwise (le := fun a b => leS a b = true) (fun a b _ _ h1 h2 => ?_) (sorted_pair s) ?_ (p.trans (skeys_perm ks).symm)
  · have e1 : ltCps b.cps.toList a.cps.toList = false := by simpa [leS] using h1
    have e2 : ltCps a.cps.toList b.cps.toList = false := by simpa [leS] using h2
    exact str_of_cps (cTot e2 e1)
  · refine List.pairwise_mergeSort (fun a b c h1 h2 => ?_) (fun a b => ?_) ks
    · have e1 : ltCps b.cps.toList a.cps.toList = false := by simpa [leS] using h1
      have e2 : ltCps c.cps.toList b.cps.toList = false := by simpa [leS] using h2
      show (!ltCps c.cps.toList a.cps.toList) = true
      cases q : ltCps c.cps.toList a.cps.toList with
      | false => rfl
      | true =>
        rcases cNeg (b := b.cps.toList) q with z | z
        · have z' : ltCps c.cps.toList b.cps.toList = true := z
          rw [e2] at z'
          cases z'
        · have z' : ltCps b.cps.toList a.cps.toList = true := z
          rw [e1] at z'
          cases z'
    · unfold leS
      cases q : ltCps b.cps.toList a.cps.toList with
      | false => simp
      | true =>
        cases q' : ltCps a.cps.toList b.cps.toList with
        | false => simp
        | true =>
          exact (cAsy q q').elim
def sortS : D → Str
  | .non => "null"
  | .bl false => "no"
  | .bl true => "yes"
  | .int _ => "number"
  | .str _ => "text"
  | .lst _ => "list"
  | .dct _ _ => "dict"
  | .tup => ""
  | .odd => ""
def tyS : D → String
  | .non => "NoneType"
  | .bl _ => "bool"
  | .int _ => "int"
  | .str _ => "str"
  | .lst _ => "list"
  | .dct _ _ => "dict"
  | .tup => "tuple"
  | .odd => "dict"
theorem ty_of {K : PySem.W.Frag} {H : Hp} : ∀ {n : Nat} {v : V} {d : D}, Da n H v d → d ≠ .odd → TyX K H v (.type (tyS d)) := by
  intro n v d h ho
  cases d with
  | non => cases n <;> (simp only [Da] at h; subst h; exact .base .non)
  | bl b => cases n <;> (simp only [Da] at h; subst h; exact .base (.bl b))
  | int i => cases n <;> (simp only [Da] at h; subst h; exact .base (.int i))
  | str x => cases n <;> (simp only [Da] at h; obtain ⟨rfl, _⟩ := h; exact .base (.str x))
  | lst ds =>
    cases n with
    | zero => simp only [Da] at h
    | succ n =>
      simp only [Da] at h
      obtain ⟨a, xs, rfl, h2, _⟩ := h
      exact .base (.lst h2)
  | dct ks ds =>
    cases n with
    | zero => simp only [Da] at h
    | succ n =>
      simp only [Da] at h
      obtain ⟨a, us, rfl, h2, _⟩ := h
      exact .base (.dK h2)
  | tup =>
    obtain ⟨a, xs, rfl, h2⟩ := (show ∃ a xs, v = .ref a ∧ H a = some (.tup xs) from by cases n <;> simpa only [Da] using h)
    exact .base (.tup h2)
  | odd => exact absurd rfl ho
def spSort : Sp := fun vs H Q _ => ∃ (v : V) (n : Nat) (d : D), vs = [v] ∧ Da n H v d ∧ plain d ∧ Q (.str (sortS d)) H
section
variable {P : Program} {w : World} {K : PySem.W.Frag} {mg : Str → Option Value} {base : Heap}
theorem scSo : FnScope ["datum"] ["datum"] (defScope sSort) := ⟨rfl, rfl, rfl, by decide +kernel, rfl, by decide +kernel, by decide +kernel⟩
theorem non_iff {n : Nat} {H : Hp} {v : V} {d : D} (h : Da n H v d) : decide (v = .non) = (match d with | .non => true | _ => false) := by
  cases d with
  | non => cases n <;> (simp only [Da] at h; subst h; rfl)
  | bl b => cases n <;> (simp only [Da] at h; subst h; rfl)
  | int i => cases n <;> (simp only [Da] at h; subst h; rfl)
  | str x => cases n <;> (simp only [Da] at h; obtain ⟨rfl, _⟩ := h; rfl)
  | lst ds =>
    cases n with
    | zero => simp only [Da] at h
    | succ n =>
      simp only [Da] at h
      obtain ⟨a, xs, rfl, _⟩ := h
      rfl
  | dct ks ds =>
    cases n with
    | zero => simp only [Da] at h
    | succ n =>
      simp only [Da] at h
      obtain ⟨a, us, rfl, _⟩ := h
      rfl
  | tup =>
    obtain ⟨a, xs, rfl, h2⟩ := (show ∃ a xs, v = .ref a ∧ H a = some (.tup xs) from by cases n <;> simpa only [Da] using h)
    rfl
  | odd =>
    obtain ⟨p, rfl, _⟩ := (show OddAt H v from by cases n <;> simpa only [Da] using h)
    rfl
theorem ok_sort {f : Addr} {fd : FuncData} (F : Fun K "sort_of" "sort_of" sSort f fd) (mI : mg "isinstance" = none) (mB : mg "bool" = none) (mN : mg "int" = none) (mS : mg "str" = none) (mL : mg "list" = none) : FnOk P w K mg base CX0 1 f fd ["datum"] spSort := by
  refine F.ok scSo (fun vs H Q E h => ?_) (fun cdv A outer s H vs Q E hr h => ?_)
  · obtain ⟨v, n, d, rfl, _⟩ := h
    rfl
  · obtain ⟨v, n, d, rfl, hd, hpl, q⟩ := h
    refine ⟨_, pss_cons (ps_if (pt_cmpR op_isN (pv 0) pe_non (nomark _)) (pss_one (ps_ret pe_str)) pss_nil)
      (pss_cons (ps_if (pt_val (pe_callB call_isi (by rfl) mI PyProof.Rows.boot_isinstance (pa_cons (pv 0) (pa_cons (pe_bltn (v := .ty "bool") (by rfl) mB (by decide +kernel) rfl) pa_nil)))) (pss_one (ps_ret (pe_ifExp (pt_val (pv 0)) pe_str pe_str))) pss_nil)
      (pss_cons (ps_if (pt_val (pe_callB call_isi (by rfl) mI PyProof.Rows.boot_isinstance (pa_cons (pv 0) (pa_cons (pe_bltn (v := .ty "int") (by rfl) mN (by decide +kernel) rfl) pa_nil)))) (pss_one (ps_ret pe_str)) pss_nil)
      (pss_cons (ps_if (pt_val (pe_callB call_isi (by rfl) mI PyProof.Rows.boot_isinstance (pa_cons (pv 0) (pa_cons (pe_bltn (v := .ty "str") (by rfl) mS (by decide +kernel) rfl) pa_nil)))) (pss_one (ps_ret pe_str)) pss_nil)
      (pss_one (ps_ret (pe_ifExp (pt_val (pe_callB call_isi (by rfl) mI PyProof.Rows.boot_isinstance (pa_cons (pv 0) (pa_cons (pe_bltn (v := .ty "list") (by rfl) mL (by decide +kernel) rfl) pa_nil)))) pe_str pe_str)))))), ?_⟩
    have nn := non_iff hd
    refine ⟨_, rfl, rfl, _, rfl, ?_⟩
    rw [nn]
    cases d with
    | non => exact iteT q
    | bl b =>
      have ty : TyX K H v (.type "bool") := ty_of hd (by simp)
      have hv : v = .bl b := by cases n <;> simpa only [Da] using hd
      subst hv
      refine iteF ⟨_, rfl, _, _, _, _, true, rfl, .ty _, ty, kit_ty (by decide +kernel), _, rfl, iteT ⟨_, rfl, b, rfl, ?_⟩⟩
      cases b with
      | true => exact iteT q
      | false => exact iteF q
    | int i =>
      have ty : TyX K H v (.type "int") := ty_of hd (by simp)
      refine iteF ⟨_, rfl, _, _, _, _, false, rfl, .ty _, ty, kit_ty (by decide +kernel), _, rfl, iteF ⟨_, rfl, _, _, _, _, true, rfl, .ty _, ty, kit_ty (by decide +kernel), _, rfl, iteT q⟩⟩
    | str x =>
      have ty : TyX K H v (.type "str") := ty_of hd (by simp)
      refine iteF ⟨_, rfl, _, _, _, _, false, rfl, .ty _, ty, kit_ty (by decide +kernel), _, rfl, iteF ⟨_, rfl, _, _, _, _, false, rfl, .ty _, ty, kit_ty (by decide +kernel), _, rfl, iteF ⟨_, rfl, _, _, _, _, true, rfl, .ty _, ty, kit_ty (by decide +kernel), _, rfl, iteT q⟩⟩⟩
    | lst ds =>
      have ty : TyX K H v (.type "list") := ty_of hd (by simp)
      refine iteF ⟨_, rfl, _, _, _, _, false, rfl, .ty _, ty, kit_ty (by decide +kernel), _, rfl, iteF ⟨_, rfl, _, _, _, _, false, rfl, .ty _, ty, kit_ty (by decide +kernel), _, rfl, iteF ⟨_, rfl, _, _, _, _, false, rfl, .ty _, ty, kit_ty (by decide +kernel), _, rfl, iteF ⟨_, rfl, _, _, _, _, true, rfl, .ty _, ty, kit_ty (by decide +kernel), _, rfl, iteT q⟩⟩⟩⟩
    | dct ks ds =>
      have ty : TyX K H v (.type "dict") := ty_of hd (by simp)
      refine iteF ⟨_, rfl, _, _, _, _, false, rfl, .ty _, ty, kit_ty (by decide +kernel), _, rfl, iteF ⟨_, rfl, _, _, _, _, false, rfl, .ty _, ty, kit_ty (by decide +kernel), _, rfl, iteF ⟨_, rfl, _, _, _, _, false, rfl, .ty _, ty, kit_ty (by decide +kernel), _, rfl, iteF ⟨_, rfl, _, _, _, _, false, rfl, .ty _, ty, kit_ty (by decide +kernel), _, rfl, iteF q⟩⟩⟩⟩
    | tup => exact False.elim hpl
    | odd => exact False.elim hpl
end
end Toy


namespace L2
open PySem PySem.Spec PyProof.Rows
section
variable {X : Cx} {e : Expr} {t1 t2 : TE}
/-- what either rule says of one expression -/
def tEither (t1 t2 : TE) : TE := fun σ H Q => t1 σ H Q ∨ t2 σ H Q
theorem pe_either (h1 : PE X e t1) (h2 : PE X e t2) : PE X e (tEither t1 t2) := ⟨fun pins s σ H Q I h => h.elim (h1.run pins s σ H Q I) (h2.run pins s σ H Q I)⟩
end
end L2
namespace Toy
open PySem PySem.Spec L2 PyProof.Rows PySem.W
abbrev sSteps : Stmt := top 15
abbrev sInner : Stmt := top 16
def stepsV : D → List V
  | .lst ds => (List.range ds.length).map fun i => V.int (i : Nat)
  | .dct ks _ => (skeys ks).map V.str
  | _ => []
/-- the values of the parts, one level lower -/
def Inn : Nat → Hp → List V → List D → Prop
  | 0, _, us, ds => us = [] ∧ ds = []
  | n + 1, H, us, ds => Paired (fun x d => Da n H x d) us ds
theorem paired_get {α β : Type} {R : α → β → Prop} : ∀ {us : List α} {ds : List β}, Paired R us ds → ∀ (i : Nat) (u : α), us[i]? = some u → ∃ d, ds[i]? = some d ∧ R u d
  | _, _, .nil, i, u, h => by simp at h
  | _, _, .cons r t, 0, u, h => by simp at h; exact ⟨_, rfl, h ▸ r⟩
  | _, _, .cons r t, i + 1, u, h => paired_get t i u h
theorem paired_of {α β : Type} {R : α → β → Prop} : ∀ {us : List α} {ds : List β}, us.length = ds.length → (∀ (i : Nat) (u : α) (d : β), us[i]? = some u → ds[i]? = some d → R u d) → Paired R us ds
  | [], [], _, _ => .nil
  | [], _ :: _, h, _ => absurd h (by simp)
  | _ :: _, [], h, _ => absurd h (by simp)
  | u :: us, d :: ds, h, r => .cons (r 0 u d rfl rfl) (paired_of (by simpa using h) fun i u' d' h1 h2 => r (i + 1) u' d' h1 h2)
theorem look_at {R : V → D → Prop} : ∀ {ks : List Str} {us : List V} {ds : List D}, Paired R us ds → us.length = ks.length → ∀ k ∈ ks, ∃ u, valV (kvOf ks us) (Sum.inr k) = some u ∧ R u (look ks ds k)
  | [], _, _, _, _, k, h => absurd h (by simp)
  | _ :: _, _, _, .nil, h, _, _ => absurd h (by simp)
  | k' :: ks, u :: us, d :: ds, .cons r t, hl, k, hk => by
    by_cases e : k' = k
    · refine ⟨u, valV_pos (by rw [e]), ?_⟩
      rw [look, if_pos e]
      exact r
    · have hk' : k ∈ ks := by
        rcases List.mem_cons.mp hk with z | z
        · exact absurd z.symm e
        · exact z
      obtain ⟨u', h1, h2⟩ := look_at t (by simpa using hl) k hk'
      refine ⟨u', (valV_neg (fun z => e (Sum.inr.inj z))).trans h1, ?_⟩
      rw [look, if_neg e]
      exact h2
def spSteps : Sp := fun vs H Q _ => ∃ (v : V) (n : Nat) (d : D), vs = [v] ∧ Da n H v d ∧ plain d ∧ ∀ H' R, Same H H' → H R = none → H' R = some (.lst (stepsV d)) → Q (.ref R) H'
/-- the data stand in a part G of the heap -/
def spInner : Sp := fun vs H Q _ => ∃ (G : Hp) (v : V) (n : Nat) (d : D), vs = [v] ∧ Same G H ∧ Da n G v d ∧ plain d ∧ ∀ H' R us, Same H H' → H R = none → H' R = some (.lst us) → us.length ≤ 1000 → Inn n G us (inner d) → Q (.ref R) H'
section
variable {P : Program} {w : World} {K : PySem.W.Frag} {mg : Str → Option Value} {base : Heap}
theorem scSt : FnScope ["datum"] ["datum"] (defScope sSteps) := ⟨rfl, rfl, rfl, by decide +kernel, rfl, by decide +kernel, by decide +kernel⟩
theorem kv_keys {ks : List Str} {us : List V} (h : us.length = ks.length) : (kvOf ks us).map (·.1) = ks.map Sum.inr := by
  unfold kvOf
  rw [List.map_map]
  have z : ((ks.zip us).map Prod.fst).map (Sum.inr : Str → Key) = ks.map Sum.inr := by rw [List.map_fst_zip (by omega)]
  rw [List.map_map] at z
  exact z
theorem rg_nat (n : Nat) : rgV 0 (n : Int) = (List.range n).map fun i => V.int (i : Nat) := by
  unfold rgV
  rw [Int.sub_zero, Int.toNat_natCast]
  refine List.map_congr_left fun i _ => ?_
  rw [Int.zero_add]
theorem ok_steps {f : Addr} {fd : FuncData} (F : Fun K "steps_into" "steps_into" sSteps f fd) (mI : mg "isinstance" = none) (mL : mg "list" = none) (mD : mg "dict" = none) (mR : mg "range" = none) (mLen : mg "len" = none) (mS : mg "sorted" = none) : FnOk P w K mg base CX0 1 f fd ["datum"] spSteps := by
  refine F.ok scSt (fun vs H Q E h => ?_) (fun cdv A outer s H vs Q E hr h => ?_)
  · obtain ⟨v, n, d, rfl, _⟩ := h
    rfl
  · obtain ⟨v, n, d, rfl, hd, hpl, q⟩ := h
    refine ⟨_, pss_cons (ps_if (pt_val (pe_callB call_isi (by rfl) mI PyProof.Rows.boot_isinstance (pa_cons (pv 0) (pa_cons (pe_bltn (v := .ty "list") (by rfl) mL (by decide +kernel) rfl) pa_nil))))
        (pss_one (ps_ret (pe_listRg (by rfl) (by rfl) mL (prg_1 (by rfl) mR (pe_callB call_len_seq (by rfl) mLen PySem.boot_len (pa_cons (pv 0) pa_nil)))))) pss_nil)
      (pss_one (ps_ret (pe_ifExp (pt_val (pe_callB call_isi (by rfl) mI PyProof.Rows.boot_isinstance (pa_cons (pv 0) (pa_cons (pe_bltn (v := .ty "dict") (by rfl) mD (by decide +kernel) rfl) pa_nil)))) (pe_callB (call_sortedD rfl) (by rfl) mS (by decide +kernel) (pa_cons (pv 0) pa_nil)) (pe_lst pa_nil)))), ?_⟩
    have lens : ∀ {m : Nat} {us : List V} {ds : List D}, Paired (fun x d => Da m H x d) us ds → us.length = ds.length := fun p => p.length
    cases d with
    | non =>
      have ty : TyX K H v (.type "NoneType") := ty_of hd (by simp)
      exact ⟨_, rfl, _, _, _, _, false, rfl, .ty _, ty, kit_ty (by decide +kernel), _, rfl, iteF ⟨_, rfl, _, _, _, _, false, rfl, .ty _, ty, kit_ty (by decide +kernel), _, rfl, iteF ⟨Nat.zero_le _, fun R nR => q _ R (same_new (fun _ _ z => z) nR) nR upd_same⟩⟩⟩
    | bl b =>
      have ty : TyX K H v (.type "bool") := ty_of hd (by simp)
      exact ⟨_, rfl, _, _, _, _, false, rfl, .ty _, ty, kit_ty (by decide +kernel), _, rfl, iteF ⟨_, rfl, _, _, _, _, false, rfl, .ty _, ty, kit_ty (by decide +kernel), _, rfl, iteF ⟨Nat.zero_le _, fun R nR => q _ R (same_new (fun _ _ z => z) nR) nR upd_same⟩⟩⟩
    | int i =>
      have ty : TyX K H v (.type "int") := ty_of hd (by simp)
      exact ⟨_, rfl, _, _, _, _, false, rfl, .ty _, ty, kit_ty (by decide +kernel), _, rfl, iteF ⟨_, rfl, _, _, _, _, false, rfl, .ty _, ty, kit_ty (by decide +kernel), _, rfl, iteF ⟨Nat.zero_le _, fun R nR => q _ R (same_new (fun _ _ z => z) nR) nR upd_same⟩⟩⟩
    | str x =>
      have ty : TyX K H v (.type "str") := ty_of hd (by simp)
      exact ⟨_, rfl, _, _, _, _, false, rfl, .ty _, ty, kit_ty (by decide +kernel), _, rfl, iteF ⟨_, rfl, _, _, _, _, false, rfl, .ty _, ty, kit_ty (by decide +kernel), _, rfl, iteF ⟨Nat.zero_le _, fun R nR => q _ R (same_new (fun _ _ z => z) nR) nR upd_same⟩⟩⟩
    | lst ds =>
      have ty : TyX K H v (.type "list") := ty_of hd (by simp)
      cases n with
      | zero => simp only [Da] at hd
      | succ n =>
        simp only [Da] at hd
        obtain ⟨a, xs, rfl, h2, h3, h4⟩ := hd
        have e := lens h4
        refine ⟨_, rfl, _, _, _, _, true, rfl, .ty _, ty, kit_ty (by decide +kernel), _, rfl, iteT ⟨_, rfl, a, xs, rfl, .inl (SqL.of h2), _, rfl, RgOk.of_le (by omega) (by omega) (by omega) (by omega), fun R nR => q _ R (same_new (fun _ _ z => z) nR) nR ?_⟩⟩
        rw [upd_same, rg_nat, e]
        rfl
    | dct ks ds =>
      have ty : TyX K H v (.type "dict") := ty_of hd (by simp)
      cases n with
      | zero => simp only [Da] at hd
      | succ n =>
        simp only [Da] at hd
        obtain ⟨a, us, rfl, h2, h3, h4, h5, h6, h7⟩ := hd
        refine ⟨_, rfl, _, _, _, _, false, rfl, .ty _, ty, kit_ty (by decide +kernel), _, rfl, iteF ⟨_, rfl, _, _, _, _, true, rfl, .ty _, ty, kit_ty (by decide +kernel), _, rfl, iteT ⟨_, rfl, a, _, ks, rfl, .inl h2, kv_keys h4, by omega, fun ys R p1 p2 nR => q _ R (same_new (fun _ _ z => z) nR) nR ?_⟩⟩⟩
        rw [upd_same, skeys_uniq p1 p2]
        rfl
    | tup => exact False.elim hpl
    | odd => exact False.elim hpl
end
end Toy


namespace Toy
open PySem PySem.Spec L2 PyProof.Rows PySem.W
theorem Inn.mono {H H' : Hp} (s : Same H H') : ∀ {n : Nat} {us : List V} {ds : List D}, Inn n H us ds → Inn n H' us ds
  | 0, _, _, h => h
  | _ + 1, _, _, h => paired_mono s (Nat.le_refl _) h
theorem Inn.len {H : Hp} : ∀ {n : Nat} {us : List V} {ds : List D}, Inn n H us ds → us.length = ds.length
  | 0, _, _, h => by rw [h.1, h.2]; rfl
  | _ + 1, _, _, h => Paired.length h
/-- datum[step], step by step -/
def SubOk (K : PySem.W.Frag) (H : Hp) (v x u : V) : Prop := ∀ (H2 : Hp) (Q : VK), Same H H2 → Q u H2 → rIxL K v x H2 Q ∨ ∃ a z, v = .ref a ∧ DGet H2 a x (some z) ∧ Q z H2
theorem sub_read {K : PySem.W.Frag} {H : Hp} : ∀ {n : Nat} {v : V} {d : D}, Da n H v d → ∃ us : List V, Inn n H us (inner d) ∧ us.length = (stepsV d).length ∧ us.length ≤ 1000 ∧ ∀ (i : Nat) (x u : V), (stepsV d)[i]? = some x → us[i]? = some u → SubOk K H v x u := by
  intro n v d hd
  have none : stepsV d = [] → inner d = [] → ∃ us : List V, Inn n H us (inner d) ∧ us.length = (stepsV d).length ∧ us.length ≤ 1000 ∧ ∀ (i : Nat) (x u : V), (stepsV d)[i]? = some x → us[i]? = some u → SubOk K H v x u := fun e1 e2 => by
    refine ⟨[], ?_, by rw [e1], Nat.zero_le _, fun i x u h1 h2 => by simp at h2⟩
    rw [e2]
    cases n with
    | zero => exact ⟨rfl, rfl⟩
    | succ n => exact .nil
  cases d with
  | non => exact none rfl rfl
  | bl b => exact none rfl rfl
  | int i => exact none rfl rfl
  | str x => exact none rfl rfl
  | tup => exact none rfl rfl
  | odd => exact none rfl rfl
  | lst ds =>
    cases n with
    | zero => simp only [Da] at hd
    | succ n =>
      simp only [Da] at hd
      obtain ⟨a, xs, rfl, h2, h3, h4⟩ := hd
      have e : xs.length = ds.length := Paired.length h4
      refine ⟨xs, h4, by simp [stepsV, e], h3, fun i x u h1 h2' H2 Q s q => ?_⟩
      have hi : x = .int (i : Nat) := by
        simp only [stepsV, List.getElem?_map] at h1
        by_cases hl : i < ds.length
        · rw [List.getElem?_range hl] at h1
          exact (Option.some.inj h1).symm
        · rw [List.getElem?_eq_none (by rw [List.length_range]; omega)] at h1
          cases h1
      subst hi
      exact .inl ⟨a, xs, _, u, rfl, rfl, SqL.of (s _ _ h2), atI_nat h2', q⟩
  | dct ks ds =>
    cases n with
    | zero => simp only [Da] at hd
    | succ n =>
      simp only [Da] at hd
      obtain ⟨a, us, rfl, h2, h3, h4, h5, h6, h7⟩ := hd
      have lk := look_at h7 h4
      refine ⟨(skeys ks).map fun k => (valV (kvOf ks us) (Sum.inr k)).getD .non, ?_, by simp [stepsV], by rw [List.length_map, (skeys_perm ks).length_eq]; omega, fun i x u h1 h2' H2 Q s q => ?_⟩
      · refine paired_of (by simp [inner]) fun i u d' g1 g2 => ?_
        simp only [inner, List.getElem?_map] at g1 g2
        cases hk : (skeys ks)[i]? with
        | none => rw [hk] at g1; cases g1
        | some k =>
          rw [hk] at g1 g2
          have mk : k ∈ ks := (skeys_perm ks).mem_iff.mp (List.mem_of_getElem? hk)
          obtain ⟨u', e1, e2⟩ := lk k mk
          have g1' := Option.some.inj g1
          have g2' := Option.some.inj g2
          simp only [e1, Option.getD_some] at g1'
          rw [← g1', ← g2']
          exact e2
      · simp only [stepsV, List.getElem?_map] at h1 h2'
        cases hk : (skeys ks)[i]? with
        | none => rw [hk] at h1; cases h1
        | some k =>
          rw [hk] at h1 h2'
          have mk : k ∈ ks := (skeys_perm ks).mem_iff.mp (List.mem_of_getElem? hk)
          obtain ⟨u', e1, e2⟩ := lk k mk
          have h1' := Option.some.inj h1
          have h2'' := Option.some.inj h2'
          simp only [e1, Option.getD_some] at h2''
          subst h2''
          subst h1'
          have z := DGet.k (k := Sum.inr k) (s _ _ h2)
          rw [e1] at z
          exact .inr ⟨a, u', rfl, z, q⟩
section
variable {P : Program} {w : World} {K : PySem.W.Frag} {mg : Str → Option Value} {base : Heap}
theorem scIn : FnScope ["datum", "step"] ["datum"] (defScope sInner) := ⟨rfl, rfl, rfl, by decide +kernel, rfl, by decide +kernel, by decide +kernel⟩
theorem ok_inner {f fS : Addr} {fd fdS : FuncData} (F : Fun K "inner_of" "inner_of" sInner f fd) (GS : FnOk P w K mg base CX0 1 fS fdS ["datum"] spSteps) (mS : mg "steps_into" = some (.ref fS)) (kS : PySem.W.keepIn K (.ref fS) = true) (bS : Binds K fdS ["datum"] []) :
    FnOk P w K mg base CX0 2 f fd ["datum"] spInner := by
  refine F.ok scIn (fun vs H Q E h => ?_) (fun cdv A outer s H vs Q E hr h => ?_)
  · obtain ⟨G, v, n, d, rfl, _⟩ := h
    rfl
  · obtain ⟨G, v, n, d, rfl, sG, hd, hpl, q⟩ := h
    have hu := hu_of hr
    refine ⟨_, pss_one (ps_ret (pe_lc (own := [("step", 1)]) (g := gName 1) (te := tEither (tOp (rIxL K) (tVar 0) (tVar 1)) (tDGet (tVar 0) (tVar 1))) (by rfl) scIn.nd (pi_list (pe_call GS hr (by rfl) mS kS bS .nil pass0 (pa_cons (pv 0) pa_nil)))
            (blkOk_by (own := [("step", 1)]) (N := ["datum", "step"]) (sc := defScope sInner) (by decide +kernel)) (fun _ _ _ _ _ => pg_name (i := 1) scIn.nd rfl (Or.inl rfl)) (fun _ _ _ _ _ => pts_nil)
            (fun _ _ _ _ _ => pe_either (pe_ix ix_list (pv 0) (pv 1) (fun _ _ => rfl)) (pe_dget hu (pv 0) (pv 1) (fun _ _ => rfl))))), ?_⟩
    obtain ⟨us, inn, lus, l20, sub⟩ := sub_read (K := K) hd
    refine ⟨_, rfl, v, n, d, rfl, hd.mono sG (Nat.le_refl _), hpl, fun H1 R s1 nR hR => ⟨R, rfl, ⟨_, SqL.of hR⟩, fun D nD => ?_⟩⟩
    have nRD : R ≠ D := ne_of_none hR nD
    refine lc_list (K := K) (a := R) (xs := stepsV d) (fun i H' => Same H1 H' ∧ H' D = some (.lst (us.take i))) ⟨same_new (fun _ _ z => z) nD, by rw [upd_same]; rfl⟩ ?_ ?_ ?_
    · rintro i H' _ ⟨s2, _⟩
      exact SqL.of (s2 _ _ hR)
    · rintro i x H' hx ⟨s2, hD⟩
      have hi : i < us.length := by
        rcases Nat.lt_or_ge i us.length with z | z
        · exact z
        · rw [List.getElem?_eq_none (by omega)] at hx
          cases hx
      refine ⟨rfl, ?_⟩
      have fin : ∃ acc, H' D = some (.lst acc) ∧ acc.length < sizeLine ∧ Same H1 (upd H' D (.lst (acc ++ [us[i]]))) ∧ (upd H' D (.lst (acc ++ [us[i]]))) D = some (.lst (us.take (i + 1))) := by
        refine ⟨_, hD, small1000 (by rw [List.length_take]; omega), fun b o e => ?_, ?_⟩
        · rw [upd_ne (ne_of_none e nD)]
          exact s2 _ _ e
        · rw [upd_same, List.take_add_one, List.getElem?_eq_getElem hi]
          rfl
      rcases sub i x us[i] hx (List.getElem?_eq_getElem hi) H' (fun y H4 => ∃ acc, H4 D = some (.lst acc) ∧ acc.length < sizeLine ∧ Same H1 (upd H4 D (.lst (acc ++ [y]))) ∧ (upd H4 D (.lst (acc ++ [y]))) D = some (.lst (us.take (i + 1)))) (sG.trans (s1.trans s2)) fin with z | z
      · exact .inl ⟨_, rfl, _, rfl, z⟩
      · exact .inr ⟨_, rfl, _, rfl, z⟩
    · rintro H' ⟨s2, hD⟩
      rw [← lus, List.take_length] at hD
      exact q H' D us (s1.trans s2) (by
        by_cases z : H D = none
        · exact z
        · obtain ⟨o, ho⟩ : ∃ o, H D = some o := by
            cases e : H D with
            | none => exact absurd e z
            | some o => exact ⟨o, rfl⟩
          rw [s1 _ _ ho] at nD
          cases nD) hD l20 inn
end
end Toy


namespace Toy
open PySem PySem.Spec L2 PyProof.Rows PySem.W
abbrev sParts : Stmt := top 17
abbrev sDepth : Stmt := top 18
/-! ### which values are data -/
def sgn (c : Nat) : Bool := decide (32 ≤ c) && decide (c ≤ 126)
def lowC (c : Nat) : Bool := decide (97 ≤ c) && decide (c ≤ 122)
def txtOk (x : Str) : Bool := decide (x.length ≤ 200) && x.cps.toList.all sgn
def nameOk (k : Str) : Bool := (decide (1 ≤ k.length) && decide (k.length ≤ 8)) && k.cps.toList.all lowC
def okTop : D → Bool
  | .int i => decide (-(10 ^ 30) ≤ i) && decide (i ≤ 10 ^ 30)
  | .str x => txtOk x
  | .dct ks _ => ks.all nameOk
  | .tup => false
  | .odd => false
  | _ => true
def good : Nat → D → Bool
  | 0, d => okTop d
  | n + 1, d => okTop d && (inner d).all (good n)
theorem good_top {n : Nat} {d : D} (h : good n d = true) : okTop d = true := by
  cases n with
  | zero => exact h
  | succ n =>
    rw [good, Bool.and_eq_true] at h
    exact h.1
theorem top_plain {d : D} (h : okTop d = true) : plain d := by
  cases d with
  | tup => cases h
  | odd => cases h
  | _ => trivial
theorem good_plain {n : Nat} {d : D} (h : good n d = true) : plain d := top_plain (good_top h)
theorem good_in {n : Nat} {d : D} (h : good (n + 1) d = true) : ∀ x ∈ inner d, good n x = true := by
  rw [good, Bool.and_eq_true] at h
  exact List.all_eq_true.mp h.2
def mx : List Int → Int
  | [] => 0
  | x :: xs => if x ≤ mx xs then mx xs else x
def dep : Nat → D → Int
  | 0, _ => 1
  | n + 1, d => 1 + mx ((inner d).map (dep n))
theorem mx_0 : ∀ xs : List Int, 0 ≤ mx xs
  | [] => Int.le_refl _
  | x :: xs => by
    have := mx_0 xs
    unfold mx
    split <;> omega
theorem mx_ge : ∀ xs : List Int, ∀ y ∈ xs, y ≤ mx xs
  | x :: xs, y, h => by
    have z := mx_ge xs
    unfold mx
    rcases List.mem_cons.mp h with rfl | h
    · split <;> omega
    · have := z y h
      split <;> omega
theorem mx_in : ∀ xs : List Int, mx xs = 0 ∨ mx xs ∈ xs
  | [] => .inl rfl
  | x :: xs => by
    unfold mx
    split
    · rcases mx_in xs with h | h
      · exact .inl h
      · exact .inr (List.mem_cons_of_mem _ h)
    · exact .inr List.mem_cons_self
theorem mx_of {xs : List Int} {m : Int} (h0 : ∀ y ∈ xs, 0 ≤ y) (h1 : m ∈ xs) (h2 : ∀ y ∈ xs, y ≤ m) : m = mx xs := by
  have a := mx_ge xs m h1
  have b := h0 m h1
  rcases mx_in xs with h | h
  · omega
  · have := h2 _ h
    omega
theorem dep_pos : ∀ (n : Nat) (d : D), 1 ≤ dep n d
  | 0, _ => Int.le_refl _
  | n + 1, d => by
    have := mx_0 ((inner d).map (dep n))
    unfold dep
    omega
theorem fresh_of {H H1 : Hp} {p : Addr} (s : Same H H1) (n : H1 p = none) : H p = none := by
  cases e : H p with
  | none => rfl
  | some o =>
    rw [s _ _ e] at n
    cases n
def spParts (j : Nat) : Sp := fun vs H Q _ => ∃ (v : V) (n : Nat) (d : D), n < j ∧ vs = [v] ∧ Da n H v d ∧ good n d = true ∧ ∀ H', Same H H' → Q (.int (cnt n d)) H'
def spDepth (j : Nat) : Sp := fun vs H Q _ => ∃ (v : V) (n : Nat) (d : D), n < j ∧ vs = [v] ∧ Da n H v d ∧ good n d = true ∧ ∀ H', Same H H' → Q (.int (dep n d)) H'
section
variable {P : Program} {w : World} {K : PySem.W.Frag} {mg : Str → Option Value} {base : Heap}
theorem scPa : FnScope ["datum", "part"] ["datum"] (defScope sParts) := ⟨rfl, rfl, rfl, by decide +kernel, rfl, by decide +kernel, by decide +kernel⟩
theorem scDp : FnScope ["datum", "part"] ["datum"] (defScope sDepth) := ⟨rfl, rfl, rfl, by decide +kernel, rfl, by decide +kernel, by decide +kernel⟩
theorem ok_parts {f fI : Addr} {fd fdI : FuncData} (F : Fun K "parts_of" "parts_of" sParts f fd) (GI : FnOk P w K mg base CX0 2 fI fdI ["datum"] spInner) (mI : mg "inner_of" = some (.ref fI)) (kI : PySem.W.keepIn K (.ref fI) = true) (bI : Binds K fdI ["datum"] [])
    (mF : mg "parts_of" = some (.ref f)) (kF : PySem.W.keepIn K (.ref f) = true) (bF : Binds K fd ["datum"] []) (mS : mg "sum" = none) : ∀ j : Nat, FnOk P w K mg base CX0 (j + 3) f fd ["datum"] (spParts j) := by
  intro j
  induction j with
  | zero => exact F.ok (k := 2) scPa (fun vs H Q E h => by obtain ⟨v, n, d, h0, _⟩ := h; exact absurd h0 (Nat.not_lt_zero _)) (fun cdv A outer s H vs Q E hr h => by obtain ⟨v, n, d, h0, _⟩ := h; exact absurd h0 (Nat.not_lt_zero _))
  | succ j ih =>
    refine F.ok (k := j + 3) scPa (fun vs H Q E h => ?_) (fun cdv A outer s H vs Q E hr h => ?_)
    · obtain ⟨v, n, d, _, rfl, _⟩ := h
      rfl
    · obtain ⟨v, n, d, hnj, rfl, hd, hg, q⟩ := h
      have hr2 : Room 2 _ := hr.mono (show 2 ≤ j + 3 by omega)
      refine ⟨_, pss_one (ps_ret (pe_op op_add pe_int (pe_callB (cr_sum rfl) (by rfl) mS (by decide +kernel) (pa_cons (pe_lc (own := [("part", 1)]) (g := gName 1) (by rfl) scPa.nd (pi_list (pe_call GI hr2 (by rfl) mI kI bI .nil pass0 (pa_cons (pv 0) pa_nil)))
            (blkOk_by (own := [("part", 1)]) (N := ["datum", "part"]) (sc := defScope sParts) (by decide +kernel)) (fun _ _ _ _ _ => pg_name (i := 1) scPa.nd rfl (Or.inl rfl)) (fun _ _ _ _ _ => pts_nil)
            (fun _ _ _ _ _ => pe_call ih hr (by rfl) mF kF bF .nil pass0 (pa_cons (pv 1) pa_nil))) pa_nil)))), ?_⟩
      refine ⟨_, rfl, H, v, n, d, rfl, same_id, hd, good_plain hg, fun H1 R us s1 nR hR l20 inn => ⟨R, rfl, ⟨_, SqL.of hR⟩, fun D nD => ?_⟩⟩
      have lus := inn.len
      have fin : ∀ H', Same H1 H' → H' D = some (.lst (((inner d).map fun z => cnt (n - 1) z).map V.int)) → cnt n d = 1 + ((inner d).map fun z => cnt (n - 1) z).sum →
          ∃ (a : Addr) (ns : List Int), [V.ref D] = [V.ref a] ∧ SqL K H' a (ns.map V.int) ∧ ∃ i j, V.int 1 = .int i ∧ V.int ns.sum = .int j ∧ Q (.int (i + j)) H' := fun H' s2 h e => ⟨D, _, rfl, SqL.of h, _, _, rfl, rfl, by rw [← e]; exact q H' (s1.trans s2)⟩
      refine lc_list (K := K) (a := R) (xs := us) (fun i H' => Same H1 H' ∧ H' D = some (.lst ((((inner d).take i).map fun z => cnt (n - 1) z).map V.int))) ⟨same_new (fun _ _ z => z) nD, by rw [upd_same]; rfl⟩ ?_ ?_ ?_
      · rintro i H' _ ⟨s2, _⟩
        exact SqL.of (s2 _ _ hR)
      · rintro i x H' hx ⟨s2, hD⟩
        cases n with
        | zero =>
          rw [inn.1] at hx
          simp at hx
        | succ n =>
          obtain ⟨d', hd', hxd⟩ := paired_get (show Paired (fun x d => Da n H x d) us (inner d) from inn) i x hx
          refine ⟨rfl, _, rfl, x, n, d', by omega, rfl, hxd.mono (s1.trans s2) (Nat.le_refl _), good_in hg _ (List.mem_of_getElem? hd'), fun H'' s3 => ⟨_, s3 _ _ hD, small1000 (by rw [List.length_map, List.length_map, List.length_take]; omega), fun b o e => ?_, ?_⟩⟩
          · rw [upd_ne (ne_of_none e nD)]
            exact s3 _ _ (s2 _ _ e)
          · rw [upd_same, List.take_add_one, hd']
            simp
      · rintro H' ⟨s2, hD⟩
        rw [lus, List.take_length] at hD
        refine fin H' s2 hD ?_
        cases n with
        | zero =>
          rw [inn.2]
          rfl
        | succ n => rfl
theorem ok_depth {f fI : Addr} {fd fdI : FuncData} (F : Fun K "depth_of" "depth_of" sDepth f fd) (GI : FnOk P w K mg base CX0 2 fI fdI ["datum"] spInner) (mI : mg "inner_of" = some (.ref fI)) (kI : PySem.W.keepIn K (.ref fI) = true) (bI : Binds K fdI ["datum"] [])
    (mF : mg "depth_of" = some (.ref f)) (kF : PySem.W.keepIn K (.ref f) = true) (bF : Binds K fd ["datum"] []) (mM : mg "max" = none) : ∀ j : Nat, FnOk P w K mg base CX0 (j + 3) f fd ["datum"] (spDepth j) := by
  intro j
  induction j with
  | zero => exact F.ok (k := 2) scDp (fun vs H Q E h => by obtain ⟨v, n, d, h0, _⟩ := h; exact absurd h0 (Nat.not_lt_zero _)) (fun cdv A outer s H vs Q E hr h => by obtain ⟨v, n, d, h0, _⟩ := h; exact absurd h0 (Nat.not_lt_zero _))
  | succ j ih =>
    refine F.ok (k := j + 3) scDp (fun vs H Q E h => ?_) (fun cdv A outer s H vs Q E hr h => ?_)
    · obtain ⟨v, n, d, _, rfl, _⟩ := h
      rfl
    · obtain ⟨v, n, d, hnj, rfl, hd, hg, q⟩ := h
      have hr2 : Room 2 _ := hr.mono (show 2 ≤ j + 3 by omega)
      have hu := hu_of hr
      refine ⟨_, pss_one (ps_ret (pe_op op_add pe_int (pe_callBK (cr_maxDf rfl hu) (by rfl) mM (by decide +kernel) (pa_cons (pe_lc (own := [("part", 1)]) (g := gName 1) (by rfl) scDp.nd (pi_list (pe_call GI hr2 (by rfl) mI kI bI .nil pass0 (pa_cons (pv 0) pa_nil)))
            (blkOk_by (own := [("part", 1)]) (N := ["datum", "part"]) (sc := defScope sDepth) (by decide +kernel)) (fun _ _ _ _ _ => pg_name (i := 1) scDp.nd rfl (Or.inl rfl)) (fun _ _ _ _ _ => pts_nil)
            (fun _ _ _ _ _ => pe_call ih hr (by rfl) mF kF bF .nil pass0 (pa_cons (pv 1) pa_nil))) pa_nil) (pk_cons pe_int pk_nil)))), ?_⟩
      refine ⟨_, rfl, H, v, n, d, rfl, same_id, hd, good_plain hg, fun H1 R us s1 nR hR l20 inn => ⟨R, rfl, ⟨_, SqL.of hR⟩, fun D nD => ?_⟩⟩
      have lus := inn.len
      refine lc_list (K := K) (a := R) (xs := us) (fun i H' => Same H1 H' ∧ H' D = some (.lst ((((inner d).take i).map fun z => dep (n - 1) z).map V.int))) ⟨same_new (fun _ _ z => z) nD, by rw [upd_same]; rfl⟩ ?_ ?_ ?_
      · rintro i H' _ ⟨s2, _⟩
        exact SqL.of (s2 _ _ hR)
      · rintro i x H' hx ⟨s2, hD⟩
        cases n with
        | zero =>
          rw [inn.1] at hx
          simp at hx
        | succ n =>
          obtain ⟨d', hd', hxd⟩ := paired_get (show Paired (fun x d => Da n H x d) us (inner d) from inn) i x hx
          refine ⟨rfl, _, rfl, x, n, d', by omega, rfl, hxd.mono (s1.trans s2) (Nat.le_refl _), good_in hg _ (List.mem_of_getElem? hd'), fun H'' s3 => ⟨_, s3 _ _ hD, small1000 (by rw [List.length_map, List.length_map, List.length_take]; omega), fun b o e => ?_, ?_⟩⟩
          · rw [upd_ne (ne_of_none e nD)]
            exact s3 _ _ (s2 _ _ e)
          · rw [upd_same, List.take_add_one, hd']
            simp
      · rintro H' ⟨s2, hD⟩
        rw [lus, List.take_length] at hD
        refine ⟨D, _, 0, rfl, rfl, SqL.of hD, fun m m0 m1 => ⟨1, m, rfl, rfl, ?_⟩⟩
        have z := q H' (s1.trans s2)
        have e : dep n d = 1 + m := by
          have e0 : m = mx ((inner d).map fun z => dep (n - 1) z) := by
            by_cases hn : ((inner d).map fun z => dep (n - 1) z) = []
            · rw [hn, m0 hn]
              rfl
            · obtain ⟨h1, h2⟩ := m1 hn
              refine mx_of (fun y hy => ?_) h1 h2
              obtain ⟨x, _, rfl⟩ := List.mem_map.mp hy
              have := dep_pos (n - 1) x
              omega
          rw [e0]
          cases n with
          | zero =>
            rw [inn.2]
            rfl
          | succ n => rfl
        show Q (.int (1 + m)) H'
        rw [← e]
        exact z
end
end Toy


namespace Toy
open PySem PySem.Spec L2 PyProof.Rows PySem.W
abbrev sName : Stmt := top 2
/-- v is a key of a dict; b: it is a name -/
def KeyV (H : Hp) (v : V) (b : Bool) : Prop := (∃ k, v = .str k ∧ okK k = true ∧ b = nameOk k) ∨ (b = false ∧ (NoStr v ∨ ∃ t k, v = .ref t ∧ okK k = true ∧ H t = some (.tup [.str k])))
theorem KeyV.mono {H H' : Hp} {v : V} {b : Bool} (h : KeyV H v b) (s : Same H H') : KeyV H' v b := by
  rcases h with h | ⟨rfl, h | ⟨t, xs, rfl, ok, h⟩⟩
  · exact .inl h
  · exact .inr ⟨rfl, .inl h⟩
  · exact .inr ⟨rfl, .inr ⟨t, xs, rfl, ok, s _ _ h⟩⟩
def isS : V → Bool
  | .str _ => true
  | _ => false
/-- isinstance(key, str) -/
theorem key_str {K : PySem.W.Frag} {H : Hp} {v : V} {b : Bool} (h : KeyV H v b) : ∃ t, TyX K H v t ∧ PySem.W.kitOne K t (.type "str") = some (isS v) := by
  rcases h with ⟨k, rfl, _⟩ | ⟨_, (rfl | ⟨i, rfl⟩ | ⟨b, rfl⟩) | ⟨t, xs, rfl, ok, h⟩⟩
  · exact ⟨_, .base (.str k), kit_ty (a := "str") (b := "str") (r := true) (by decide +kernel)⟩
  · exact ⟨_, .base .non, kit_ty (a := "NoneType") (b := "str") (r := false) (by decide +kernel)⟩
  · exact ⟨_, .base (.int i), kit_ty (a := "int") (b := "str") (r := false) (by decide +kernel)⟩
  · exact ⟨_, .base (.bl b), kit_ty (a := "bool") (b := "str") (r := false) (by decide +kernel)⟩
  · exact ⟨_, .base (.tup h), kit_ty (a := "tuple") (b := "str") (r := false) (by decide +kernel)⟩
theorem le_sign (a c : Nat) : (!decide (([c] : List Nat) < [a])) = decide (a ≤ c) := by
  have : (([c] : List Nat) < [a]) ↔ c < a := by
    constructor
    · intro h
      cases h with
      | rel h => exact h
      | cons h => cases h
    · intro h
      exact .rel h
  by_cases h : a ≤ c
  · rw [decide_eq_true h, decide_eq_false (fun z => by have := this.mp z; omega)]
    rfl
  · rw [decide_eq_false h, decide_eq_true (this.mpr (by omega))]
    rfl
theorem same_put {H H1 : Hp} {D : Addr} {u : HO} (s : Same H H1) (n : H D = none) : Same H (upd H1 D u) := fun b o e => by
  rw [upd_ne (ne_of_none e n)]
  exact s _ _ e
def spName : Sp := fun vs H Q _ => ∃ (v : V) (b : Bool), vs = [v] ∧ KeyV H v b ∧ ∀ H', Same H H' → Q (.bl b) H'
theorem len_cps (x : Str) : x.length = x.cps.toList.length := by
  show x.cps.size = _
  rw [Array.length_toList]
theorem take_next {x : Str} {i c : Nat} (h : x.cps[i]? = some c) : x.cps.toList.take (i + 1) = x.cps.toList.take i ++ [c] := by
  have z : x.cps.toList[i]? = some c := by
    rw [Array.getElem?_toList]
    exact h
  rw [List.take_add_one, z]
  rfl
section
variable {P : Program} {w : World} {K : PySem.W.Frag} {mg : Str → Option Value} {base : Heap}
theorem scNm : FnScope ["value", "letter"] ["value"] (defScope sName) := ⟨rfl, rfl, rfl, by decide +kernel, rfl, by decide +kernel, by decide +kernel⟩
theorem ok_name {f : Addr} {fd : FuncData} {u8 : Value} (F : Fun K "is_name" "is_name" sName f fd) (m8 : mg "MOST_LETTERS_words" = some u8) (r8 : RelV (.int 8) u8) (mI : mg "isinstance" = none) (mS : mg "str" = none) (mLen : mg "len" = none) (mA : mg "all" = none) : FnOk P w K mg base CX0 1 f fd ["value"] spName := by
  refine F.ok scNm (fun vs H Q E h => ?_) (fun cdv A outer s H vs Q E hr h => ?_)
  · obtain ⟨v, b, rfl, _⟩ := h
    rfl
  · obtain ⟨v, b, rfl, hk, q⟩ := h
    refine ⟨_, pss_cons (ps_if (PW.pt (pw_or (pt_not (pt_val (pe_callB call_isi (by rfl) mI PyProof.Rows.boot_isinstance (pa_cons (pv 0) (pa_cons (pe_bltn (v := .ty "str") (by rfl) mS (by decide +kernel) rfl) pa_nil)))))
          (pw_or1 (pt_not (pt_chain op_le op_le pe_int (pe_callB call_len_str (by rfl) mLen PySem.boot_len (pa_cons (pv 0) pa_nil)) (pe_glob (v := .int 8) (by rfl) m8 r8)))))) (pss_one (ps_ret pe_bl)) pss_nil)
      (pss_one (ps_ret (pe_callB (cr_all rfl) (by rfl) mA (by decide +kernel) (pa_cons (pe_lc (own := [("letter", 1)]) (g := gName 1) (by rfl) scNm.nd (pi_str (pv 0))
            (blkOk_by (own := [("letter", 1)]) (N := ["value", "letter"]) (sc := defScope sName) (by decide +kernel)) (fun _ _ _ _ _ => pg_name (i := 1) scNm.nd rfl (Or.inl rfl)) (fun _ _ _ _ _ => pts_nil)
            (fun _ _ _ _ _ => pe_chain op_le_str op_le_str pe_str (pv 1) pe_str)) pa_nil)))), ?_⟩
    obtain ⟨t, ty, ek⟩ := key_str (K := K) hk
    refine ⟨_, rfl, v, _, t, _, _, rfl, .ty "str", ty, ek, _, rfl, ?_⟩
    rcases hk with ⟨k, rfl, hok, rfl⟩ | ⟨rfl, hk⟩
    · refine iteF ⟨_, rfl, k, rfl, few (okK_2 hok), 1, _, rfl, rfl, _, rfl, ite2 (fun c => ?_) (fun c => ?_)⟩
      · refine ⟨_, _, rfl, rfl, _, rfl, ?_⟩
        by_cases h8 : ((k.length : Nat) : Int) ≤ 8
        · rw [decide_eq_true h8]
          have h1 : (1 : Int) ≤ ((k.length : Nat) : Int) := of_decide_eq_true c
          refine iteF ⟨_, rfl, k, rfl, fun D nD => ?_⟩
          refine lc_it walk_str (fun i H' => Same H H' ∧ H' D = some (.lst ((((k.cps.toList.take i).map lowC)).map V.bl))) ⟨same_new same_id nD, by rw [upd_same]; rfl⟩ (fun _ _ _ _ => trivial) ?_ ?_
          · rintro i x H1 H' hi ⟨s2, hD⟩ ⟨rfl, c, hc, rfl⟩
            have lacc : ((((k.cps.toList.take i).map lowC)).map V.bl).length ≤ 1000 := by
              rw [List.length_map, List.length_map, List.length_take]
              have := len_cps k
              omega
            have step : ∃ acc, H' D = some (.lst acc) ∧ acc.length < sizeLine ∧ (Same H (upd H' D (.lst (acc ++ [V.bl (lowC c)]))) ∧ (upd H' D (.lst (acc ++ [V.bl (lowC c)]))) D = some (.lst ((((k.cps.toList.take (i + 1)).map lowC)).map V.bl))) := by
              refine ⟨_, hD, small1000 lacc, same_put s2 nD, ?_⟩
              rw [upd_same, take_next hc]
              simp
            refine ⟨rfl, _, rfl, _, _, rfl, rfl, _, rfl, ?_⟩
            rw [show (!decide ((⟨#[c]⟩ : Str).cps.toList < (("a" : Str)).cps.toList)) = decide (97 ≤ c) from le_sign 97 c]
            by_cases g : 97 ≤ c
            · rw [decide_eq_true g]
              refine iteT ⟨_, _, rfl, rfl, ?_⟩
              rw [show (!decide ((("z" : Str)).cps.toList < (⟨#[c]⟩ : Str).cps.toList)) = decide (c ≤ 122) from le_sign c 122]
              rw [show lowC c = decide (c ≤ 122) by unfold lowC; rw [decide_eq_true g]; rfl] at step
              exact step
            · rw [decide_eq_false g]
              rw [show lowC c = false by unfold lowC; rw [decide_eq_false g]; rfl] at step
              exact iteF step
          · rintro H' ⟨s2, hD⟩
            rw [show k.cps.size = k.cps.toList.length by simp, List.take_length] at hD
            refine ⟨D, _, rfl, SqL.of hD, ?_⟩
            have e : nameOk k = (k.cps.toList.map lowC).all id := by
              unfold nameOk
              rw [decide_eq_true (show 1 ≤ k.length by omega), decide_eq_true (show k.length ≤ 8 by omega), List.all_map]
              rfl
            rw [← e]
            exact q H' s2
        · rw [decide_eq_false h8]
          have e : nameOk k = false := by
            unfold nameOk
            rw [decide_eq_false (show ¬ k.length ≤ 8 by omega)]
            simp
          rw [e] at q
          exact iteT (q H same_id)
      · have c' : ¬ (1 : Int) ≤ ((k.length : Nat) : Int) := fun z => c (decide_eq_true z)
        have e : nameOk k = false := by
          unfold nameOk
          rw [decide_eq_false (show ¬ 1 ≤ k.length by omega)]
          simp
        rw [e] at q
        exact ⟨_, rfl, iteT (q H same_id)⟩
    · have e : isS v = false := by
        rcases hk with (rfl | ⟨i, rfl⟩ | ⟨b, rfl⟩) | ⟨t, xs, rfl, ok, h⟩ <;> rfl
      rw [e]
      exact iteT (iteT (q H same_id))
end
end Toy


namespace Toy
open PySem PySem.Spec L2 PyProof.Rows PySem.W
abbrev sIsKey : Stmt := top 30
/-- the signs of a text that are kept -/
def sg (f : Nat → Bool) (l : List Nat) : List Str := (l.filter f).map fun c => (⟨#[c]⟩ : Str)
theorem sg_next {f : Nat → Bool} {k : Str} {i c : Nat} (h : k.cps[i]? = some c) : sg f (k.cps.toList.take (i + 1)) = if f c = true then sg f (k.cps.toList.take i) ++ [⟨#[c]⟩] else sg f (k.cps.toList.take i) := by
  unfold sg
  rw [take_next h, List.filter_append]
  by_cases e : f c = true
  · rw [if_pos e, List.filter_cons_of_pos e]
    simp
  · rw [if_neg e, List.filter_cons_of_neg e]
    simp
theorem sg_len {f : Nat → Bool} {k : Str} {i : Nat} : (sg f (k.cps.toList.take i)).length ≤ k.length := by
  unfold sg
  rw [List.length_map, len_cps]
  refine Nat.le_trans (List.length_filter_le _ _) ?_
  rw [List.length_take]
  omega
theorem sg_ok {f : Nat → Bool} {k : Str} (h : PyData.strOk k = true) : ∀ x ∈ sg f k.cps.toList, PyData.strOk x = true := fun x hx => by
  obtain ⟨c, hc, rfl⟩ := List.mem_map.mp hx
  have hc' := (List.mem_filter.mp hc).1
  unfold PyData.strOk at h ⊢
  rw [Array.all_eq_true'] at h
  have := h c (Array.mem_toList_iff.mp hc')
  simpa using this
theorem sg_empty {f : Nat → Bool} {l : List Nat} : PyData.eqv (.list ((sg f l).map PyData.str)) (.list []) = l.all fun c => !f c := by
  have e : PyData.eqv (.list ((sg f l).map PyData.str)) (.list []) = (sg f l).isEmpty := by
    cases sg f l with
    | nil => rfl
    | cons x xs => simp [PyData.eqv, PyData.eqvAll]
  rw [e]
  clear e
  unfold sg
  induction l with
  | nil => rfl
  | cons c l ih =>
    by_cases h : f c = true
    · rw [List.filter_cons_of_pos h, List.all_cons, h]
      rfl
    · rw [List.filter_cons_of_neg h, List.all_cons, ih]
      simp [h]
/-- kept signs == [] -/
theorem sg_eqv {K : PySem.W.Frag} {H : Hp} {a e : Addr} {f : Nat → Bool} {k : Str} {Q : VK} (hk : PyData.strOk k = true) (h1 : H a = some (.lst ((sg f k.cps.toList).map V.str))) (h2 : H e = some (.lst [])) (q : Q (.bl (k.cps.toList.all fun c => !f c)) H) : rEqD K (.ref a) (.ref e) H Q := by
  refine ⟨.list ((sg f k.cps.toList).map PyData.str), .list [], .lst (SqL.of h1) (dpStrs _), .lst (SqL.of h2) .nil, shapedStrs (sg_ok hk), by decide +kernel, ?_⟩
  rw [sg_empty]
  exact q
theorem sg_neqv {K : PySem.W.Frag} {H : Hp} {a e : Addr} {f : Nat → Bool} {k : Str} {Q : VK} (hk : PyData.strOk k = true) (h1 : H a = some (.lst ((sg f k.cps.toList).map V.str))) (h2 : H e = some (.lst [])) (q : Q (.bl (!(k.cps.toList.all fun c => !f c))) H) : rNeD K (.ref a) (.ref e) H Q := by
  refine ⟨.list ((sg f k.cps.toList).map PyData.str), .list [], .lst (SqL.of h1) (dpStrs _), .lst (SqL.of h2) .nil, shapedStrs (sg_ok hk), by decide +kernel, ?_⟩
  rw [sg_empty]
  exact q
theorem in_abc (c : Nat) : (!decide (c ∈ (("abcdefghijklmnopqrstuvwxyz" : Str)).cps.toList)) = !lowC c := by
  have e : (("abcdefghijklmnopqrstuvwxyz" : Str)).cps.toList = List.range' 97 26 := by decide +kernel
  rw [e]
  have : c ∈ List.range' 97 26 ↔ (97 ≤ c ∧ c ≤ 122) := by
    rw [List.mem_range'_1]
    omega
  congr 1
  unfold lowC
  by_cases h : 97 ≤ c ∧ c ≤ 122
  · rw [decide_eq_true (this.mpr h), decide_eq_true h.1, decide_eq_true h.2]
    rfl
  · rw [decide_eq_false (fun z => h (this.mp z))]
    by_cases h1 : 97 ≤ c
    · rw [decide_eq_true h1, decide_eq_false (fun z => h ⟨h1, z⟩)]
      rfl
    · rw [decide_eq_false h1]
      rfl
section
variable {P : Program} {w : World} {K : PySem.W.Frag} {mg : Str → Option Value} {base : Heap}
theorem scIk : FnScope ["_law_x", "_law_sign"] ["_law_x"] (defScope sIsKey) := ⟨rfl, rfl, rfl, by decide +kernel, rfl, by decide +kernel, by decide +kernel⟩
theorem ok_isKey {f : Addr} {fd : FuncData} (F : Fun K "_law_is_key" "_law_is_key" sIsKey f fd) (mI : mg "isinstance" = none) (mS : mg "str" = none) (mLen : mg "len" = none) : FnOk P w K mg base CX0 1 f fd ["_law_x"] spName := by
  refine F.ok scIk (fun vs H Q E h => ?_) (fun cdv A outer s H vs Q E hr h => ?_)
  · obtain ⟨v, b, rfl, _⟩ := h
    rfl
  · obtain ⟨v, b, rfl, hk, q⟩ := h
    refine ⟨_, pss_cons (ps_if (PW.pt (pw_or (pt_not (pt_val (pe_callB call_isi (by rfl) mI PyProof.Rows.boot_isinstance (pa_cons (pv 0) (pa_cons (pe_bltn (v := .ty "str") (by rfl) mS (by decide +kernel) rfl) pa_nil)))))
          (pw_or1 (pt_not (pt_chain op_le op_le pe_int (pe_callB call_len_str (by rfl) mLen PySem.boot_len (pa_cons (pv 0) pa_nil)) pe_int))))) (pss_one (ps_ret pe_bl)) pss_nil)
      (pss_one (ps_ret (pe_cmpR (op_eqD hr.units) (pe_lc (own := [("_law_sign", 1)]) (g := gName 1) (by rfl) scIk.nd (pi_str (pv 0))
            (blkOk_by (own := [("_law_sign", 1)]) (N := ["_law_x", "_law_sign"]) (sc := defScope sIsKey) (by decide +kernel)) (fun _ _ _ _ _ => pg_name (i := 1) scIk.nd rfl (Or.inl rfl)) (fun _ _ _ _ _ => pts_one (pt_cmpR op_notInS (pv 1) pe_str (by rfl)))
            (fun _ _ _ _ _ => pv 1)) (pe_lst pa_nil) (nomark _)))), ?_⟩
    obtain ⟨t, ty, ek⟩ := key_str (K := K) hk
    refine ⟨_, rfl, v, _, t, _, _, rfl, .ty "str", ty, ek, _, rfl, ?_⟩
    rcases hk with ⟨k, rfl, hok, rfl⟩ | ⟨rfl, hk⟩
    · refine iteF ⟨_, rfl, k, rfl, few (okK_2 hok), 1, _, rfl, rfl, _, rfl, ite2 (fun c => ?_) (fun c => ?_)⟩
      · refine ⟨_, _, rfl, rfl, _, rfl, ?_⟩
        by_cases h8 : ((k.length : Nat) : Int) ≤ 8
        · rw [decide_eq_true h8]
          have h1 : (1 : Int) ≤ ((k.length : Nat) : Int) := of_decide_eq_true c
          refine iteF ⟨_, rfl, k, rfl, fun D nD => ?_⟩
          refine lc_it walk_str (fun i H' => Same H H' ∧ H' D = some (.lst ((sg (fun c => !lowC c) (k.cps.toList.take i)).map V.str))) ⟨same_new same_id nD, by rw [upd_same]; rfl⟩ (fun _ _ _ _ => trivial) ?_ ?_
          · rintro i x H1 H' hi ⟨s2, hD⟩ ⟨rfl, c, hc, rfl⟩
            have lacc : ((sg (fun c => !lowC c) (k.cps.toList.take i)).map V.str).length ≤ 1000 := by
              rw [List.length_map]
              have := sg_len (f := fun c => !lowC c) (k := k) (i := i)
              omega
            refine ⟨rfl, _, rfl, c, _, rfl, rfl, _, rfl, ?_⟩
            rw [in_abc]
            by_cases g : (!lowC c) = true
            · refine (if_pos g).symm.mp ?_
              refine ⟨_, rfl, _, hD, small1000 lacc, same_put s2 nD, ?_⟩
              rw [upd_same, sg_next hc, if_pos g]
              simp
            · refine (if_neg g).symm.mp ⟨s2, ?_⟩
              rw [sg_next hc, if_neg g]
              exact hD
          · rintro H' ⟨s2, hD⟩
            rw [show k.cps.size = k.cps.toList.length by simp, List.take_length] at hD
            refine ⟨Nat.zero_le _, fun e ne => ?_⟩
            refine sg_eqv (okK_1 hok) ((upd_ne (ne_of_none hD ne)).trans hD) upd_same ?_
            have e2 : nameOk k = k.cps.toList.all fun c => !(!lowC c) := by
              unfold nameOk
              rw [decide_eq_true (show 1 ≤ k.length by omega), decide_eq_true (show k.length ≤ 8 by omega)]
              simp
            rw [← e2]
            exact q _ (same_new s2 ne)
        · rw [decide_eq_false h8]
          have e : nameOk k = false := by
            unfold nameOk
            rw [decide_eq_false (show ¬ k.length ≤ 8 by omega)]
            simp
          rw [e] at q
          exact iteT (q H same_id)
      · have c' : ¬ (1 : Int) ≤ ((k.length : Nat) : Int) := fun z => c (decide_eq_true z)
        have e : nameOk k = false := by
          unfold nameOk
          rw [decide_eq_false (show ¬ 1 ≤ k.length by omega)]
          simp
        rw [e] at q
        exact ⟨_, rfl, iteT (q H same_id)⟩
    · have e : isS v = false := by
        rcases hk with (rfl | ⟨i, rfl⟩ | ⟨b, rfl⟩) | ⟨t, xs, rfl, ok, h⟩ <;> rfl
      rw [e]
      exact iteT (iteT (q H same_id))
end
end Toy


namespace Toy
open PySem PySem.Spec L2 PyProof.Rows PySem.W
abbrev sTxt : Stmt := top 10
def spTxt : Sp := fun vs H Q _ => ∃ (x : Str), vs = [.str x] ∧ x.length ≤ 1000 ∧ 37 ∉ x.cps.toList ∧ ∀ H', Same H H' → Q (.bl (txtOk x)) H'
abbrev NTx : List Str := ["text", "codes", "letter", "code"]
section
variable {P : Program} {w : World} {K : PySem.W.Frag} {mg : Str → Option Value} {base : Heap}
theorem scTx : FnScope NTx ["text"] (defScope sTxt) := ⟨rfl, rfl, rfl, by decide +kernel, rfl, by decide +kernel, by decide +kernel⟩
theorem ok_txt {f : Addr} {fd : FuncData} {u2 u3 : Value} (F : Fun K "_is_text" "_is_text" sTxt f fd) (m2 : mg "MOST_LETTERS_data" = some u2) (r2 : RelV (.int 200) u2) (m3 : mg "PERCENT_SIGN" = some u3) (r3 : RelV (.int 37) u3) (mLen : mg "len" = none) (mO : mg "ord" = none) (mA : mg "all" = none) : FnOk P w K mg base CX0 1 f fd ["text"] spTxt := by
  refine F.ok scTx (fun vs H Q E h => ?_) (fun cdv A outer s H vs Q E hr h => ?_)
  · obtain ⟨x, rfl, _⟩ := h
    rfl
  · obtain ⟨x, rfl, hx, h37, q⟩ := h
    refine ⟨_, pss_cons (ps_if (pt_cmpR op_gt (pe_callB call_len_str (by rfl) mLen PySem.boot_len (pa_cons (pv 0) pa_nil)) (pe_glob (v := .int 200) (by rfl) m2 r2) (nomark _)) (pss_one (ps_ret pe_bl)) pss_nil)
      (pss_cons (ps_setLc (i := 1) (own := [("letter", 2)]) (g := gName 2) (by rfl) scTx.nd rfl rfl (sw_true rfl rfl rfl (by decide +kernel)) (pi_str (pv 0))
            (blkOk_by (own := [("letter", 2)]) (N := NTx) (sc := defScope sTxt) (by decide +kernel)) (fun _ _ _ _ _ => pg_name (i := 2) scTx.nd rfl (Or.inl rfl)) (fun _ _ _ _ _ => pts_nil)
            (fun _ _ _ _ _ => pe_callB call_ord (by rfl) mO (by decide +kernel) (pa_cons (pv 2) pa_nil)))
      (pss_one (ps_ret (pe_callB (cr_all rfl) (by rfl) mA (by decide +kernel) (pa_cons (pe_lc (own := [("code", 3)]) (g := gName 3) (by rfl) scTx.nd (pi_list (pv 1))
            (blkOk_by (own := [("code", 3)]) (N := NTx) (sc := defScope sTxt) (by decide +kernel)) (fun _ _ _ _ _ => pg_name (i := 3) scTx.nd rfl (Or.inl rfl)) (fun _ _ _ _ _ => pts_nil)
            (fun _ _ _ _ _ => pe_and (pe_chain op_le op_le pe_int (pv 3) pe_int) (pe_one (pe_cmpR op_ne (pv 3) (pe_glob (v := .int 37) (by rfl) m3 r3) (nomark _))))) pa_nil))))), ?_⟩
    refine ⟨_, rfl, x, rfl, few hx, _, _, rfl, rfl, _, rfl, ite2 (fun c => ?_) (fun c => ?_)⟩
    · have c' : ((x.length : Nat) : Int) > 200 := of_decide_eq_true c
      have e : txtOk x = false := by
        unfold txtOk
        rw [decide_eq_false (by omega)]
        rfl
      rw [e] at q
      exact q H same_id
    · have c' : ¬ ((x.length : Nat) : Int) > 200 := fun z => c (decide_eq_true z)
      refine ⟨_, rfl, x, rfl, fun D nD => ?_⟩
      refine lc_it walk_str (fun i H' => Same H H' ∧ H' D = some (.lst ((x.cps.toList.take i).map fun (c : Nat) => V.int (c : Nat)))) ⟨same_new same_id nD, by rw [upd_same]; rfl⟩ (fun _ _ _ _ => trivial) ?_ ?_
      · rintro i y H1 H' hi ⟨s2, hD⟩ ⟨rfl, c, hc, rfl⟩
        have lacc : ((x.cps.toList.take i).map fun (c : Nat) => V.int (c : Nat)).length ≤ 1000 := by
          rw [List.length_map, List.length_take]
          have := len_cps x
          omega
        refine ⟨rfl, _, rfl, _, rfl, rfl, _, hD, small1000 lacc, same_put s2 nD, ?_⟩
        rw [upd_same, take_next hc]
        simp
      · rintro H1 ⟨s1, hD⟩
        rw [show x.cps.size = x.cps.toList.length by simp, List.take_length] at hD
        refine ⟨_, rfl, D, rfl, ⟨_, SqL.of hD⟩, fun L nL => ?_⟩
        have ll : (x.cps.toList.map fun (c : Nat) => V.int (c : Nat)).length = x.cps.toList.length := List.length_map ..
        refine lc_list (K := K) (a := D) (xs := x.cps.toList.map fun (c : Nat) => V.int (c : Nat)) (fun i H' => Same H1 H' ∧ H' L = some (.lst (((x.cps.toList.take i).map sgn).map V.bl))) ⟨same_new same_id nL, by rw [upd_same]; rfl⟩ ?_ ?_ ?_
        · rintro i H' _ ⟨s2, _⟩
          exact SqL.of (s2 _ _ hD)
        · rintro i y H' hy ⟨s2, hL⟩
          obtain ⟨c, hc, rfl⟩ : ∃ c, x.cps.toList[i]? = some c ∧ V.int ((c : Nat) : Int) = y := by simpa using hy
          have hc37 : c ≠ 37 := fun z => h37 (by rw [← z]; exact List.mem_of_getElem? hc)
          have lacc : (((x.cps.toList.take i).map sgn).map V.bl).length ≤ 1000 := by
            rw [List.length_map, List.length_map, List.length_take]
            have := len_cps x
            omega
          have step : ∃ acc, H' L = some (.lst acc) ∧ acc.length < sizeLine ∧ (Same H1 (upd H' L (.lst (acc ++ [V.bl (sgn c)]))) ∧ (upd H' L (.lst (acc ++ [V.bl (sgn c)]))) L = some (.lst (((x.cps.toList.take (i + 1)).map sgn).map V.bl))) := by
            refine ⟨_, hL, small1000 lacc, same_put s2 nL, ?_⟩
            rw [upd_same, List.take_add_one, hc]
            simp
          have n37 : (!decide (V.int ((c : Nat) : Int) = V.int 37)) = true := by
            rw [decide_eq_false (fun z => hc37 (by injection z with z; omega))]
            rfl
          refine ⟨rfl, _, rfl, _, _, rfl, rfl, _, rfl, ?_⟩
          by_cases g : 32 ≤ c
          · rw [decide_eq_true (show (32 : Int) ≤ (c : Nat) by omega)]
            refine iteT ⟨_, _, rfl, rfl, _, rfl, ?_⟩
            by_cases g2 : c ≤ 126
            · rw [decide_eq_true (show ((c : Nat) : Int) ≤ 126 by omega)]
              rw [show sgn c = true by unfold sgn; rw [decide_eq_true g, decide_eq_true g2]; rfl] at step
              refine iteT ⟨_, rfl, rfl, ?_⟩
              rw [n37]
              exact step
            · rw [decide_eq_false (show ¬ ((c : Nat) : Int) ≤ 126 by omega)]
              rw [show sgn c = false by unfold sgn; rw [decide_eq_true g, decide_eq_false g2]; rfl] at step
              exact iteF step
          · rw [decide_eq_false (show ¬ (32 : Int) ≤ (c : Nat) by omega)]
            rw [show sgn c = false by unfold sgn; rw [decide_eq_false g]; rfl] at step
            exact iteF ⟨_, rfl, iteF step⟩
        · rintro H' ⟨s2, hL⟩
          rw [ll, List.take_length] at hL
          refine ⟨L, _, rfl, SqL.of hL, ?_⟩
          have e : txtOk x = (x.cps.toList.map sgn).all id := by
            unfold txtOk
            rw [decide_eq_true (show x.length ≤ 200 by omega), List.all_map]
            rfl
          rw [← e]
          exact q H' (s1.trans s2)
end
end Toy


namespace Toy
open PySem PySem.Spec L2 PyProof.Rows PySem.W
def isDict : D → Bool
  | .dct _ _ => true
  | .odd => true
  | _ => false
/-- the sort of any value that is drawn -/
theorem ty_O {K : PySem.W.Frag} {H : Hp} {n : Nat} {v : V} {d : D} (h : Da n H v d) : TyO K H v (.type (tyS d)) := by
  by_cases e : d = .odd
  · subst e
    obtain ⟨p, rfl, ⟨i, u, h⟩ | ⟨ks, u, ok, h⟩ | ⟨k, h⟩⟩ := (show OddAt H v from by cases n <;> simpa only [Da] using h)
    · exact .tyx (.base (.dK h))
    · exact .tyx (.base (.dT h))
    · exact .odd h
  · exact .tyx (ty_of h e)
/-- one key that was walked to: kept in f (j + 1), or not -/
def KStep (g : TG) (tt : TT) (te : TE) (vs : List Nat) (σ : L2.St) (bs : List Bool) (f : Nat → List V) : Prop := ∀ (j : Nat) (b : Bool) (x : V) (H0 H' : Hp) (D : Addr), bs[j]? = some b → KeyV H' x b → H0 D = none → Same H0 H' → H' D = some (.lst (f j)) →
  g x (wipe σ vs) H' fun σ2 H2 => wipe σ2 vs = wipe σ vs ∧ tt σ2 H2 fun c H3 =>
    if c = true then te σ2 H3 fun y H4 => ∃ acc, H4 D = some (.lst acc) ∧ acc.length < sizeLine ∧ (Same H0 (upd H4 D (.lst (acc ++ [y]))) ∧ (upd H4 D (.lst (acc ++ [y]))) D = some (.lst (f (j + 1)))) else (Same H0 H3 ∧ H3 D = some (.lst (f (j + 1))))
theorem unlock {H H' : Hp} {a : Addr} {u v : HO} (h : H a = some u) (s : Same (upd H a v) H') : Same H (upd H' a u) := fun b o e => by
  by_cases hb : b = a
  · subst hb
    rw [h] at e
    rw [upd_same]
    exact e
  · rw [upd_ne hb]
    exact s _ _ ((upd_ne hb).trans e)
theorem comp_keys {H : Hp} {v : V} {d : D} {n : Nat} (hd : Da n H v d) (hi : isDict d = true) : ∃ bs : List Bool, bs.all id = okTop d ∧ bs.length ≤ 20 ∧ ∀ {i : Nat} {σ : L2.St} {g : TG} {tt : TT} {te : TE} {vs : List Nat} {Q : VK} (f : Nat → List V), σ[i]? = some (some v) → f 0 = [] → KStep g tt te vs σ bs f →
    (∀ H' D, Same H H' → H D = none → H' D = some (.lst (f bs.length)) → Q (.ref D) H') → tEither (tLockE (tLc (iKeys (tVar i)) g tt te vs)) (tLc (iOdd (tVar i)) g tt te vs) σ H Q := by
  cases d with
  | dct ks ds =>
    cases n with
    | zero => simp only [Da] at hd
    | succ n =>
      simp only [Da] at hd
      obtain ⟨a, us, rfl, h2, h3, h4, h5, h6, h7⟩ := hd
      refine ⟨ks.map nameOk, by rw [List.all_map]; rfl, by rw [List.length_map]; exact h3, fun {i σ g tt te vs Q} f hσ f0 hs hq => ?_⟩
      refine .inl ⟨a, _, h2, True.intro, fun od => ⟨_, hσ, a, od, rfl, .inl ⟨_, upd_same, fun D nD => ?_⟩⟩⟩
      have nDa : D ≠ a := fun e => by rw [e, upd_same] at nD; cases nD
      have lk : (kvOf ks us).length = ks.length := by
        have := congrArg List.length (kv_keys h4)
        simpa using this
      refine lc_it walk_keys (fun j H' => Same (upd H a (.frz od (.dK (kvOf ks us)))) H' ∧ H' D = some (.lst (f j))) ⟨same_new same_id nD, by rw [upd_same, f0]⟩ (fun j H' _ q => q.1 _ _ upd_same) ?_ ?_
      · rintro j x H1 H' hj ⟨s2, hD⟩ ⟨rfl, k, u, hk, rfl⟩
        have hkj : (kvOf ks us)[j]?.map (·.1) = (ks.map (Sum.inr : Str → Key))[j]? := by rw [← kv_keys h4, List.getElem?_map]
        rw [hk, List.getElem?_map] at hkj
        cases hq' : ks[j]? with
        | none => rw [hq'] at hkj; cases hkj
        | some key =>
          rw [hq'] at hkj
          obtain rfl : k = Sum.inr key := Option.some.inj hkj
          exact hs j (nameOk key) _ _ _ D (by rw [List.getElem?_map, hq']; rfl) (.inl ⟨key, rfl, h6 _ (List.mem_of_getElem? hq'), rfl⟩) nD s2 hD
      · rintro H' ⟨s2, hD⟩
        refine ⟨s2 _ _ upd_same, hq _ D (unlock h2 s2) ((upd_ne nDa).symm.trans nD) ?_⟩
        rw [upd_ne nDa, List.length_map, ← lk]
        exact hD
  | odd =>
    refine ⟨[false], rfl, by decide, fun {i σ g tt te vs Q} f hσ f0 hs hq => ?_⟩
    obtain ⟨p, rfl, ⟨i0, u, h2⟩ | ⟨ks, u, ok, h2⟩ | ⟨k, o, h2, ho, hn, hsys⟩⟩ := (show OddAt H v from by cases n <;> simpa only [Da] using hd)
    · refine .inl ⟨p, _, h2, True.intro, fun od => ⟨_, hσ, p, od, rfl, .inl ⟨_, upd_same, fun D nD => ?_⟩⟩⟩
      have nDa : D ≠ p := fun e => by rw [e, upd_same] at nD; cases nD
      refine lc_it walk_keys (fun j H' => Same (upd H p (.frz od (.dK [(Sum.inl i0, u)]))) H' ∧ H' D = some (.lst (f j))) ⟨same_new same_id nD, by rw [upd_same, f0]⟩ (fun j H' _ q => q.1 _ _ upd_same) ?_ ?_
      · rintro j x H1 H' hj ⟨s2, hD⟩ ⟨rfl, k, u, hk, rfl⟩
        obtain rfl : j = 0 := by simp only [List.length_singleton] at hj; omega
        cases hk
        exact hs 0 false _ _ _ D rfl (.inr ⟨rfl, .inl (.inr (.inl ⟨i0, rfl⟩))⟩) nD s2 hD
      · rintro H' ⟨s2, hD⟩
        refine ⟨s2 _ _ upd_same, hq _ D (unlock h2 s2) ((upd_ne nDa).symm.trans nD) ?_⟩
        rw [upd_ne nDa]
        exact hD
    · refine .inl ⟨p, _, h2, True.intro, fun od => ⟨_, hσ, p, od, rfl, .inr ⟨_, upd_same, fun D nD => ?_⟩⟩⟩
      have nDa : D ≠ p := fun e => by rw [e, upd_same] at nD; cases nD
      refine lc_it walk_keysT (fun j H' => Same (upd H p (.frz od (.dT [([Sum.inr ks], u)]))) H' ∧ H' D = some (.lst (f j))) ⟨same_new same_id nD, by rw [upd_same, f0]⟩ (fun j H' _ q => q.1 _ _ upd_same) ?_ ?_
      · rintro j x H1 H' hj ⟨s2, hD⟩ ⟨rfl, k, u, q, hk, rfl, hq⟩
        obtain rfl : j = 0 := by simp only [List.length_singleton] at hj; omega
        cases hk
        exact hs 0 false _ _ _ D rfl (.inr ⟨rfl, .inr ⟨_, ks, rfl, ok, hq⟩⟩) nD s2 hD
      · rintro H' ⟨s2, hD⟩
        refine ⟨s2 _ _ upd_same, hq _ D (unlock h2 s2) ((upd_ne nDa).symm.trans nD) ?_⟩
        rw [upd_ne nDa]
        exact hD
    · refine .inr ⟨_, hσ, p, o, k, rfl, h2, ho, hsys, fun D nD => ?_⟩
      refine lc_it walk_odd (fun j H' => Same H H' ∧ H' D = some (.lst (f j))) ⟨same_new same_id nD, by rw [upd_same, f0]⟩ (fun j H' _ q => q.1 _ _ h2) ?_ ?_
      · rintro j x H1 H' hj ⟨s2, hD⟩ ⟨rfl, rfl⟩
        obtain rfl : j = 0 := by omega
        exact hs 0 false _ _ _ D rfl (.inr ⟨rfl, .inl hn⟩) nD s2 hD
      · rintro H' ⟨s2, hD⟩
        exact hq _ D s2 nD hD
  | _ => cases hi
end Toy


namespace Toy
open PySem PySem.Spec L2 PyProof.Rows PySem.W
abbrev sLeafV : Stmt := top 9
abbrev sMay : Stmt := top 13
def isNest : D → Bool
  | .lst _ => true
  | .dct _ _ => true
  | .odd => true
  | _ => false
def spLeafV : Sp := fun vs H Q _ => ∃ (v : V) (n : Nat) (d : D), vs = [v] ∧ Da n H v d ∧ isNest d = false ∧ ∀ H', Same H H' → Q (.bl (okTop d)) H'
def spMay : Sp := fun vs H Q _ => ∃ (v : V) (n : Nat) (d : D), vs = [v] ∧ Da n H v d ∧ ∀ H', Same H H' → Q (.bl (okTop d)) H'
section
variable {P : Program} {w : World} {K : PySem.W.Frag} {mg : Str → Option Value} {base : Heap}
theorem scLv : FnScope ["value"] ["value"] (defScope sLeafV) := ⟨rfl, rfl, rfl, by decide +kernel, rfl, by decide +kernel, by decide +kernel⟩
theorem scMy : FnScope ["value", "key"] ["value"] (defScope sMay) := ⟨rfl, rfl, rfl, by decide +kernel, rfl, by decide +kernel, by decide +kernel⟩
theorem ok_leafV {f fT : Addr} {fd fdT : FuncData} {u1 : Value} (F : Fun K "is_leaf" "is_leaf" sLeafV f fd) (GT : FnOk P w K mg base CX0 1 fT fdT ["text"] spTxt) (mT : mg "_is_text" = some (.ref fT)) (kT : PySem.W.keepIn K (.ref fT) = true) (bT : Binds K fdT ["text"] [])
    (m1 : mg "GREATEST" = some u1) (r1 : RelV (.int (10 ^ 30)) u1) (mI : mg "isinstance" = none) (mB : mg "bool" = none) (mN : mg "int" = none) (mS : mg "str" = none) : FnOk P w K mg base CX0 2 f fd ["value"] spLeafV := by
  refine F.ok scLv (fun vs H Q E h => ?_) (fun cdv A outer s H vs Q E hr h => ?_)
  · obtain ⟨v, n, d, rfl, _⟩ := h
    rfl
  · obtain ⟨v, n, d, rfl, hd, hnest, q⟩ := h
    refine ⟨_, pss_cons (ps_if (PW.pt (pw_or (pt_cmpR op_isN (pv 0) pe_non (nomark _)) (pw_or1 (pt_val (pe_callB call_isi (by rfl) mI PyProof.Rows.boot_isinstance (pa_cons (pv 0) (pa_cons (pe_bltn (v := .ty "bool") (by rfl) mB (by decide +kernel) rfl) pa_nil))))))) (pss_one (ps_ret pe_bl)) pss_nil)
      (pss_cons (ps_if (pt_val (pe_callB call_isi (by rfl) mI PyProof.Rows.boot_isinstance (pa_cons (pv 0) (pa_cons (pe_bltn (v := .ty "int") (by rfl) mN (by decide +kernel) rfl) pa_nil)))) (pss_one (ps_ret (pe_chain op_le op_le (pe_un un_neg (pe_glob (v := .int (10 ^ 30)) (by rfl) m1 r1)) (pv 0) (pe_glob (v := .int (10 ^ 30)) (by rfl) m1 r1)))) pss_nil)
      (pss_one (ps_ret (pe_and (pe_callB call_isi (by rfl) mI PyProof.Rows.boot_isinstance (pa_cons (pv 0) (pa_cons (pe_bltn (v := .ty "str") (by rfl) mS (by decide +kernel) rfl) pa_nil))) (pe_one (pe_call GT hr (by rfl) mT kT bT .nil pass0 (pa_cons (pv 0) pa_nil))))))), ?_⟩
    have nn := non_iff hd
    refine ⟨_, rfl, rfl, _, rfl, ?_⟩
    rw [nn]
    cases d with
    | non => exact iteT (iteT (q H same_id))
    | bl b =>
      have ty : TyX K H v (.type "bool") := ty_of hd (by simp)
      exact iteF ⟨_, rfl, _, _, _, _, true, rfl, .ty _, ty, kit_ty (by decide +kernel), _, rfl, iteT (q H same_id)⟩
    | int i =>
      have ty : TyX K H v (.type "int") := ty_of hd (by simp)
      have hv : v = .int i := by cases n <;> simpa only [Da] using hd
      subst hv
      refine iteF ⟨_, rfl, _, _, _, _, false, rfl, .ty _, ty, kit_ty (by decide +kernel), _, rfl, iteF ⟨_, rfl, _, _, _, _, true, rfl, .ty _, ty, kit_ty (by decide +kernel), _, rfl, iteT ⟨_, rfl, _, rfl, _, _, rfl, rfl, _, rfl, ?_⟩⟩⟩
      have z := q H same_id
      by_cases g : -(10 ^ 30) ≤ i
      · rw [decide_eq_true g]
        refine iteT ⟨_, _, rfl, rfl, ?_⟩
        rw [show okTop (.int i) = decide (i ≤ 10 ^ 30) by show (decide (-(10 ^ 30) ≤ i) && decide (i ≤ 10 ^ 30)) = _; rw [decide_eq_true g]; rfl] at z
        exact z
      · rw [decide_eq_false g]
        rw [show okTop (.int i) = false by show (decide (-(10 ^ 30) ≤ i) && decide (i ≤ 10 ^ 30)) = _; rw [decide_eq_false g]; rfl] at z
        exact iteF z
    | str x =>
      have ty : TyX K H v (.type "str") := ty_of hd (by simp)
      obtain ⟨rfl, h1, h2, h3⟩ := (show v = .str x ∧ PyData.strOk x = true ∧ x.length ≤ 1000 ∧ 37 ∉ x.cps.toList from by cases n <;> simpa only [Da] using hd)
      exact iteF ⟨_, rfl, _, _, _, _, false, rfl, .ty _, ty, kit_ty (by decide +kernel), _, rfl, iteF ⟨_, rfl, _, _, _, _, false, rfl, .ty _, ty, kit_ty (by decide +kernel), _, rfl, iteF ⟨_, rfl, _, _, _, _, true, rfl, .ty _, ty, kit_ty (by decide +kernel), _, rfl, iteT ⟨_, rfl, x, rfl, h2, h3, q⟩⟩⟩⟩
    | tup =>
      have ty : TyX K H v (.type "tuple") := ty_of hd (by simp)
      exact iteF ⟨_, rfl, _, _, _, _, false, rfl, .ty _, ty, kit_ty (by decide +kernel), _, rfl, iteF ⟨_, rfl, _, _, _, _, false, rfl, .ty _, ty, kit_ty (by decide +kernel), _, rfl, iteF ⟨_, rfl, _, _, _, _, false, rfl, .ty _, ty, kit_ty (by decide +kernel), _, rfl, iteF (q H same_id)⟩⟩⟩
    | lst ds => cases hnest
    | dct ks ds => cases hnest
    | odd => cases hnest
theorem ok_may {f fN fL : Addr} {fd fdN fdL : FuncData} (F : Fun K "_may_be_part" "_may_be_part" sMay f fd) (GN : FnOk P w K mg base CX0 1 fN fdN ["value"] spName) (mN : mg "is_name" = some (.ref fN)) (kN : PySem.W.keepIn K (.ref fN) = true) (bN : Binds K fdN ["value"] [])
    (GL : FnOk P w K mg base CX0 2 fL fdL ["value"] spLeafV) (mLf : mg "is_leaf" = some (.ref fL)) (kL : PySem.W.keepIn K (.ref fL) = true) (bL : Binds K fdL ["value"] []) (mI : mg "isinstance" = none) (mD : mg "dict" = none) (mLi : mg "list" = none) (mA : mg "all" = none) : FnOk P w K mg base CX0 3 f fd ["value"] spMay := by
  refine F.ok scMy (fun vs H Q E h => ?_) (fun cdv A outer s H vs Q E hr h => ?_)
  · obtain ⟨v, n, d, rfl, _⟩ := h
    rfl
  · obtain ⟨v, n, d, rfl, hd, q⟩ := h
    have hr1 : Room 1 _ := hr.mono (show 1 ≤ 2 by omega)
    refine ⟨_, pss_cons (ps_if (pt_val (pe_callB call_isiO (by rfl) mI PyProof.Rows.boot_isinstance (pa_cons (pv 0) (pa_cons (pe_bltn (v := .ty "dict") (by rfl) mD (by decide +kernel) rfl) pa_nil))))
        (pss_one (ps_ret (pe_callB (cr_all rfl) (by rfl) mA (by decide +kernel) (pa_cons (pe_either
          (pe_lock (pe_lc (own := [("key", 1)]) (g := gName 1) (tt := tYes) (te := tCall spName [] E0 (tCons (tVar 1) tNil)) (by rfl) scMy.nd (pi_keys (pv 0)) (blkOk_by (own := [("key", 1)]) (N := ["value", "key"]) (sc := defScope sMay) (by decide +kernel)) (fun _ _ _ _ _ => pg_name (i := 1) scMy.nd rfl (Or.inl rfl)) (fun _ _ _ _ _ => pts_nil)
            (fun _ _ _ _ _ => pe_call GN hr1 (by rfl) mN kN bN .nil pass0 (pa_cons (pv 1) pa_nil))))
          (pe_lc (own := [("key", 1)]) (g := gName 1) (tt := tYes) (te := tCall spName [] E0 (tCons (tVar 1) tNil)) (by rfl) scMy.nd (pi_odd (pv 0)) (blkOk_by (own := [("key", 1)]) (N := ["value", "key"]) (sc := defScope sMay) (by decide +kernel)) (fun _ _ _ _ _ => pg_name (i := 1) scMy.nd rfl (Or.inl rfl)) (fun _ _ _ _ _ => pts_nil)
            (fun _ _ _ _ _ => pe_call GN hr1 (by rfl) mN kN bN .nil pass0 (pa_cons (pv 1) pa_nil)))) pa_nil)))) pss_nil)
      (pss_one (ps_ret (pe_or (pe_callB call_isiO (by rfl) mI PyProof.Rows.boot_isinstance (pa_cons (pv 0) (pa_cons (pe_bltn (v := .ty "list") (by rfl) mLi (by decide +kernel) rfl) pa_nil))) (pe_one (pe_call GL hr (by rfl) mLf kL bL .nil pass0 (pa_cons (pv 0) pa_nil)))))), ?_⟩
    have tyo := ty_O (K := K) hd
    by_cases hi : isDict d = true
    · have kt : PySem.W.kitOne K (.type (tyS d)) (.type "dict") = some true := by
        cases d with
        | dct ks ds => exact kit_ty (a := "dict") (b := "dict") (by decide +kernel)
        | odd => exact kit_ty (a := "dict") (b := "dict") (by decide +kernel)
        | _ => cases hi
      refine ⟨_, rfl, v, _, _, _, true, rfl, .ty _, tyo, kt, _, rfl, iteT ?_⟩
      obtain ⟨bs, e1, e2, walk⟩ := comp_keys hd hi
      refine walk (fun j => (bs.take j).map V.bl) rfl rfl (fun j b x H0 H' D hb hk nD s2 hD => ?_) fun H' D s2 nD hD => ?_
      · refine ⟨rfl, _, rfl, x, b, rfl, hk, fun H2 s3 => ⟨_, s3 _ _ hD, small1000 (by show ((bs.take j).map V.bl).length ≤ 1000; rw [List.length_map, List.length_take]; omega), same_put (s2.trans s3) nD, ?_⟩⟩
        rw [upd_same]
        show some (HO.lst ((bs.take j).map V.bl ++ [V.bl b])) = some (HO.lst ((bs.take (j + 1)).map V.bl))
        rw [List.take_add_one, hb]
        simp
      · replace hD : H' D = some (.lst ((bs.take bs.length).map V.bl)) := hD
        rw [List.take_length] at hD
        refine ⟨D, _, rfl, SqL.of hD, ?_⟩
        rw [e1]
        exact q _ s2
    · have kt : PySem.W.kitOne K (.type (tyS d)) (.type "dict") = some false := by
        cases d with
        | non => exact kit_ty (a := "NoneType") (b := "dict") (by decide +kernel)
        | bl b => exact kit_ty (a := "bool") (b := "dict") (by decide +kernel)
        | int i => exact kit_ty (a := "int") (b := "dict") (by decide +kernel)
        | str x => exact kit_ty (a := "str") (b := "dict") (by decide +kernel)
        | lst ds => exact kit_ty (a := "list") (b := "dict") (by decide +kernel)
        | tup => exact kit_ty (a := "tuple") (b := "dict") (by decide +kernel)
        | _ => exact absurd rfl hi
      refine ⟨_, rfl, v, _, _, _, false, rfl, .ty _, tyo, kt, _, rfl, iteF ?_⟩
      by_cases hl : ∃ ds, d = .lst ds
      · obtain ⟨ds, rfl⟩ := hl
        exact ⟨_, rfl, v, _, _, _, true, rfl, .ty _, tyo, kit_ty (a := "list") (b := "list") (by decide +kernel), _, rfl, iteT (q H same_id)⟩
      · have kt2 : PySem.W.kitOne K (.type (tyS d)) (.type "list") = some false := by
          cases d with
          | non => exact kit_ty (a := "NoneType") (b := "list") (by decide +kernel)
          | bl b => exact kit_ty (a := "bool") (b := "list") (by decide +kernel)
          | int i => exact kit_ty (a := "int") (b := "list") (by decide +kernel)
          | str x => exact kit_ty (a := "str") (b := "list") (by decide +kernel)
          | tup => exact kit_ty (a := "tuple") (b := "list") (by decide +kernel)
          | lst ds => exact absurd ⟨ds, rfl⟩ hl
          | _ => exact absurd rfl hi
        have hnest : isNest d = false := by
          cases d with
          | lst ds => exact absurd ⟨ds, rfl⟩ hl
          | dct ks ds => exact absurd rfl hi
          | odd => exact absurd rfl hi
          | _ => rfl
        exact ⟨_, rfl, v, _, _, _, false, rfl, .ty _, tyo, kt2, _, rfl, iteF ⟨_, rfl, v, n, d, rfl, hd, hnest, q⟩⟩
end
end Toy


namespace Toy
open PySem PySem.Spec L2 PyProof.Rows PySem.W
/-! ### the bounds, part by part -/
theorem sum_ge (f : D → Int) (h : ∀ x, 1 ≤ f x) : ∀ ds : List D, ((ds.length : Nat) : Int) ≤ (ds.map f).sum
  | [] => by simp
  | d :: ds => by
    have := sum_ge f h ds
    have := h d
    simp only [List.length_cons, List.map_cons, List.sum_cons]
    omega
theorem cnt_pos : ∀ (n : Nat) (d : D), 1 ≤ cnt n d
  | 0, _ => Int.le_refl _
  | n + 1, d => by
    have := sum_ge (cnt n) (cnt_pos n) (inner d)
    rw [cnt]
    omega
/-- a part that waits: its level of fuel, itself, how deep it stands -/
abbrev Wt := Nat × D × Int
def ok1 (p : Wt) : Prop := good p.1 p.2.1 = true ∧ p.2.2 + dep p.1 p.2.1 ≤ 61
/-- all that is in what waits -/
def lss (ws : List Wt) : Int := (ws.map fun p => cnt p.1 p.2.1).sum
def rb (ws : List Wt) (many : Int) : Prop := (∀ p ∈ ws, ok1 p) ∧ many + lss ws - ((ws.length : Nat) : Int) ≤ 1000
def kids : Wt → List Wt
  | (0, _, _) => []
  | (n + 1, d, lv) => (inner d).map fun x => (n, x, lv + 1)
theorem lss_app (a b : List Wt) : lss (a ++ b) = lss a + lss b := by
  unfold lss
  rw [List.map_append, List.sum_append]
theorem lss_len : ∀ ws : List Wt, ((ws.length : Nat) : Int) ≤ lss ws
  | [] => by simp [lss]
  | p :: ws => by
    have := lss_len ws
    have := cnt_pos p.1 p.2.1
    unfold lss at *
    simp only [List.length_cons, List.map_cons, List.sum_cons]
    omega
theorem kids_len {n : Nat} {d : D} {lv : Int} (h : n = 0 → inner d = []) : (kids (n, d, lv)).length = (inner d).length := by
  cases n with
  | zero => rw [h rfl]; rfl
  | succ n => simp [kids]
theorem kids_lss {n : Nat} {d : D} {lv : Int} (h : n = 0 → inner d = []) : lss (kids (n, d, lv)) = cnt n d - 1 := by
  cases n with
  | zero => rfl
  | succ n =>
    unfold kids lss
    rw [List.map_map, cnt]
    have : ((fun p : Wt => cnt p.1 p.2.1) ∘ fun x => (n, x, lv + 1)) = cnt n := rfl
    rw [this]
    omega
theorem mx_le {xs : List Int} {b : Int} (h0 : 0 ≤ b) : mx xs ≤ b ↔ ∀ y ∈ xs, y ≤ b := by
  constructor
  · intro h y hy
    have := mx_ge xs y hy
    omega
  · intro h
    rcases mx_in xs with e | e
    · omega
    · exact h _ e
theorem kids_ok {n : Nat} {d : D} {lv : Int} (h : n = 0 → inner d = []) (ht : okTop d = true) (hl : lv ≤ 60) : ok1 (n, d, lv) ↔ ∀ p ∈ kids (n, d, lv), ok1 p := by
  cases n with
  | zero =>
    constructor
    · intro _ p hp
      simp [kids] at hp
    · intro _
      refine ⟨ht, ?_⟩
      show lv + 1 ≤ 61
      omega
  | succ n =>
    unfold ok1 kids
    show (good (n + 1) d = true ∧ lv + dep (n + 1) d ≤ 61) ↔ _
    rw [good, ht, Bool.true_and, List.all_eq_true, dep]
    have hm := mx_le (xs := (inner d).map (dep n)) (b := 60 - lv) (by omega)
    constructor
    · rintro ⟨h1, h2⟩ p hp
      obtain ⟨x, hx, rfl⟩ := List.mem_map.mp hp
      refine ⟨h1 x hx, ?_⟩
      have := hm.mp (by omega) (dep n x) (List.mem_map.mpr ⟨x, hx, rfl⟩)
      show lv + 1 + dep n x ≤ 61
      omega
    · intro h'
      refine ⟨fun x hx => (h' _ (List.mem_map.mpr ⟨x, hx, rfl⟩)).1, ?_⟩
      have := hm.mpr fun y hy => by
        obtain ⟨x, hx, rfl⟩ := List.mem_map.mp hy
        have z : lv + 1 + dep n x ≤ 61 := (h' _ (List.mem_map.mpr ⟨x, hx, rfl⟩)).2
        omega
      omega
theorem rb_top {ws : List Wt} {n : Nat} {d : D} {lv many : Int} (h : okTop d = false) : ¬ rb (ws ++ [(n, d, lv)]) many := fun z => by
  have := good_top (z.1 (n, d, lv) (by simp)).1
  rw [show okTop (n, d, lv).2.1 = okTop d from rfl, h] at this
  cases this
theorem rb_lev {ws : List Wt} {n : Nat} {d : D} {lv many : Int} (h : lv > 60) : ¬ rb (ws ++ [(n, d, lv)]) many := fun z => by
  have h1 : lv + dep n d ≤ 61 := (z.1 (n, d, lv) (by simp)).2
  have := dep_pos n d
  omega
theorem rb_step {ws : List Wt} {n : Nat} {d : D} {lv many : Int} (h : n = 0 → inner d = []) (ht : okTop d = true) (hl : lv ≤ 60) : rb (ws ++ [(n, d, lv)]) many ↔ rb (ws ++ kids (n, d, lv)) (many + ((inner d).length : Nat)) := by
  unfold rb
  rw [lss_app, lss_app, kids_lss h, List.length_append, List.length_append, kids_len h]
  have e1 : lss [(n, d, lv)] = cnt n d := by simp [lss]
  have e2 : (∀ p ∈ ws ++ [(n, d, lv)], ok1 p) ↔ ∀ p ∈ ws ++ kids (n, d, lv), ok1 p := by
    constructor
    · intro h' p hp
      rcases List.mem_append.mp hp with q | q
      · exact h' p (List.mem_append_left _ q)
      · exact (kids_ok h ht hl).mp (h' _ (by simp)) p q
    · intro h' p hp
      rcases List.mem_append.mp hp with q | q
      · exact h' p (List.mem_append_left _ q)
      · rw [List.mem_singleton.mp q]
        exact (kids_ok h ht hl).mpr fun p hp => h' p (List.mem_append_right _ hp)
  rw [e2, e1]
  simp only [List.length_singleton]
  constructor
  · rintro ⟨a, b⟩
    exact ⟨a, by push_cast; push_cast at b; omega⟩
  · rintro ⟨a, b⟩
    exact ⟨a, by push_cast; push_cast at b; omega⟩
theorem rb_many {ws : List Wt} {many : Int} (h : many > 1000) : ¬ rb ws many := fun z => by
  have := lss_len ws
  have := z.2
  omega
def bnd (n : Nat) (d : D) : Bool := good n d && (decide (dep n d ≤ 60) && decide (cnt n d ≤ 1000))
theorem rb_one {n : Nat} {d : D} : rb [(n, d, 1)] 1 ↔ bnd n d = true := by
  unfold rb bnd ok1
  simp only [List.mem_singleton, forall_eq, Bool.and_eq_true, decide_eq_true_eq, lss, List.map_cons, List.map_nil, List.sum_cons, List.sum_nil, List.length_singleton]
  constructor
  · rintro ⟨⟨a, b⟩, c⟩
    exact ⟨a, by omega, by push_cast at c; omega⟩
  · rintro ⟨a, b, c⟩
    exact ⟨⟨a, by omega⟩, by push_cast; omega⟩
theorem paired_last {α β : Type} {R : α → β → Prop} : ∀ {xs : List α} {x : α} {ys : List β}, Paired R (xs ++ [x]) ys → ∃ zs z, ys = zs ++ [z] ∧ Paired R xs zs ∧ R x z
  | [], _, _, .cons r .nil => ⟨[], _, rfl, .nil, r⟩
  | _ :: xs, _, _, .cons r t => by
    obtain ⟨zs, z, e, p, q⟩ := paired_last t
    exact ⟨_ :: zs, z, by rw [e]; rfl, .cons r p, q⟩
end Toy


namespace Toy
open PySem PySem.Spec L2 PyProof.Rows PySem.W
abbrev sBnd : Stmt := top 12
abbrev sIsD : Stmt := top 11
/-- a tuple that waits; the datum stands in H -/
def Item (H H' : Hp) (y : V) (p : Wt) : Prop := ∃ t u, y = .ref t ∧ H' t = some (.tup [u, .int p.2.2]) ∧ Da p.1 H u p.2.1
theorem Item.same {H H1 H2 : Hp} {y : V} {p : Wt} (h : Item H H1 y p) (s : Same H1 H2) : Item H H2 y p := by
  obtain ⟨t, u, h1, h2, h3⟩ := h
  exact ⟨t, u, h1, s _ _ h2, h3⟩
theorem Item.put {H H1 : Hp} {y : V} {p : Wt} {L : Addr} {xs : List V} {o : HO} (h : Item H H1 y p) (hL : H1 L = some (.lst xs)) : Item H (upd H1 L o) y p := by
  obtain ⟨t, u, h1, h2, h3⟩ := h
  exact ⟨t, u, h1, (upd_ne (ne_of h2 hL (by intro z; cases z))).trans h2, h3⟩
theorem inn_none {n : Nat} {H : Hp} {us : List V} {ds : List D} (h : Inn n H us ds) : n = 0 → ds = [] := fun e => by
  subst e
  exact h.2
def spBnd : Sp := fun vs H Q _ => ∃ (v : V) (n : Nat) (d : D), vs = [v, .bl true] ∧ Da n H v d ∧ ∀ H', Same H H' → Q (.bl (bnd n d)) H'
def spIsD : Sp := fun vs H Q _ => ∃ (v : V) (n : Nat) (d : D), vs = [v] ∧ Da n H v d ∧ ∀ H', Same H H' → Q (.bl (bnd n d)) H'
abbrev NBd : List Str := ["value", "may_be_any", "waiting", "many", "part", "level", "inner", "below"]
def BdW (H : Hp) (v : V) (L : Addr) (n : Nat) (d : D) : Nat → L2.St → Hp → Prop := fun m σ H' => ∃ (o4 o5 o6 o7 : Option V) (ys : List V) (ws : List Wt) (many : Int), σ = [some v, some (.bl true), some (.ref L), some (.int many), o4, o5, o6, o7] ∧ Same H H' ∧ H' L = some (.lst ys) ∧ Paired (Item H H') ys ws ∧ many ≤ 1000 ∧ ((ws.length : Nat) : Int) ≤ many ∧ (rb ws many ↔ bnd n d = true) ∧ m = (lss ws).toNat
section
variable {P : Program} {w : World} {K : PySem.W.Frag} {mg : Str → Option Value} {base : Heap}
theorem scBd : FnScope NBd ["value", "may_be_any"] (defScope sBnd) := ⟨rfl, rfl, rfl, by decide +kernel, rfl, by decide +kernel, by decide +kernel⟩
theorem scId : FnScope ["value"] ["value"] (defScope sIsD) := ⟨rfl, rfl, rfl, by decide +kernel, rfl, by decide +kernel, by decide +kernel⟩
theorem ok_bnd {f fM fI : Addr} {fd fdM fdI : FuncData} {u1 u2 : Value} (F : Fun K "_is_bounded" "_is_bounded" sBnd f fd) (GM : FnOk P w K mg base CX0 3 fM fdM ["value"] spMay) (mM : mg "_may_be_part" = some (.ref fM)) (kM : PySem.W.keepIn K (.ref fM) = true) (bM : Binds K fdM ["value"] [])
    (GI : FnOk P w K mg base CX0 2 fI fdI ["datum"] spInner) (mI : mg "inner_of" = some (.ref fI)) (kI : PySem.W.keepIn K (.ref fI) = true) (bI : Binds K fdI ["datum"] []) (m1 : mg "MOST_LEVELS" = some u1) (r1 : RelV (.int 60) u1) (m2 : mg "MOST_PARTS" = some u2) (r2 : RelV (.int 1000) u2) (mLen : mg "len" = none) :
    FnOk P w K mg base CX0 4 f fd ["value", "may_be_any"] spBnd := by
  refine F.ok scBd (fun vs H Q E h => ?_) (fun cdv A outer s H vs Q E hr h => ?_)
  · obtain ⟨v, n, d, rfl, _⟩ := h
    rfl
  · obtain ⟨v, n, d, rfl, hd, q⟩ := h
    have hr2 : Room 2 _ := hr.mono (show 2 ≤ 3 by omega)
    refine ⟨_, pss_cons (ps_set (i := 2) scBd.nd rfl (Or.inl rfl) (pe_lst (pa_cons (pe_tup (pa_cons (pv 0) (pa_cons pe_int pa_nil))) pa_nil)))
      (pss_cons (ps_set (i := 3) scBd.nd rfl (Or.inl rfl) pe_int)
      (pss_cons (ps_while PassesOwn.never (pt_truth (pv 2) (by intro _; rfl))
        (pss_cons (ps_asg (pe_bm0 PySem.F.plainAttrs_list PySem.F.slot_list_pop PySem.F.type_list_pop mt_pop (pv 2)) (pg_tup (by rfl) (pgs_cons (pg_name (i := 4) scBd.nd rfl (.inl rfl)) (pgs_cons (pg_name (i := 5) scBd.nd rfl (.inr rfl)) pgs_nil))))
        (pss_cons (ps_if (PW.pt (pw_or (pt_cmpR op_gt (pv 5) (pe_glob (v := .int 60) (by rfl) m1 r1) (nomark _)) (pw_or1 (PW.pt (pw_and (pt_val (pv 1)) (pw_and1 (pt_not (pt_val (pe_call GM hr (by rfl) mM kM bM .nil pass0 (pa_cons (pv 4) pa_nil)))))))))) (pss_one (ps_ret pe_bl)) pss_nil)
        (pss_cons (ps_set (i := 6) scBd.nd rfl (Or.inl rfl) (pe_call GI hr2 (by rfl) mI kI bI .nil pass0 (pa_cons (pv 4) pa_nil)))
        (pss_cons (ps_aug (i := 3) scBd.nd rfl (Or.inl rfl) (pe_callB call_len_seq (by rfl) mLen PySem.boot_len (pa_cons (pv 6) pa_nil)) ip_add)
        (pss_cons (ps_if (pt_cmpR op_gt (pv 3) (pe_glob (v := .int 1000) (by rfl) m2 r2) (nomark _)) (pss_one (ps_ret pe_bl)) pss_nil)
        (pss_one (ps_expr (pe_bm PySem.F.plainAttrs_list PySem.F.slot_list_extend PySem.F.type_list_extend mt_extend (pv 2) (pa_cons (pe_lc (own := [("below", 7)]) (g := gName 7) (by rfl) scBd.nd (pi_list (pv 6))
            (blkOk_by (own := [("below", 7)]) (N := NBd) (sc := defScope sBnd) (by decide +kernel)) (fun _ _ _ _ _ => pg_name (i := 7) scBd.nd rfl (Or.inl rfl)) (fun _ _ _ _ _ => pts_nil)
            (fun _ _ _ _ _ => pe_tup (pa_cons (pv 7) (pa_cons (pe_op op_add (pv 5) pe_int) pa_nil)))) pa_nil))))))))))
      (pss_one (ps_ret pe_bl)))), ?_⟩
    refine ⟨_, rfl, few (by show 2 ≤ 1000; decide), fun t0 nt0 => ⟨few (by show 1 ≤ 1000; decide), fun L nL => ?_⟩⟩
    have sT : Same H (upd H t0 (.tup [v, .int 1])) := same_new same_id nt0
    have sL : Same H (upd (upd H t0 (.tup [v, .int 1])) L (.lst [.ref t0])) := same_new sT nL
    have nL0 : H L = none := fresh_of sT nL
    have nt0L : t0 ≠ L := ne_of_none upd_same nL
    refine ⟨BdW H v L n d, ⟨_, none, none, none, none, [.ref t0], [(n, d, 1)], 1, rfl, sL, upd_same, .cons ⟨t0, v, rfl, (upd_ne nt0L).trans upd_same, hd⟩ .nil, by decide, Int.le_refl _, rb_one, rfl⟩, ?_⟩
    rintro mm σ H1 ⟨o4, o5, o6, o7, ys, ws, many, rfl, s1, hL, pt, h1000, hlen, hrb, rfl⟩
    refine ⟨_, rfl, _, .inl ⟨ys, SqL.of hL, rfl⟩, ?_⟩
    rcases List.eq_nil_or_concat ys with rfl | ⟨xi, x, rfl⟩
    · cases pt
      have e : bnd n d = true := hrb.mp ⟨fun p hp => by simp at hp, by simp [lss]; exact h1000⟩
      rw [e] at q
      exact iteF (q H1 s1)
    rw [List.concat_eq_append] at hL pt ⊢
    have et : (!(xi ++ [x]).isEmpty) = true := by
      cases xi <;> rfl
    rw [et]
    obtain ⟨wi, ⟨m, e, lv⟩, rfl, pi, t, u, rfl, ht, hu⟩ := paired_last pt
    have ht : H1 t = some (.tup [u, .int lv]) := ht
    have hu : Da m H u e := hu
    have ntL : t ≠ L := ne_of ht hL (by intro z; cases z)
    refine iteT ⟨fun σ' H' => ∃ m', m' < (lss (wi ++ [(m, e, lv)])).toNat ∧ BdW H v L n d m' σ' H', fun _ _ h => h, ?_⟩
    refine ⟨_, rfl, .inl ⟨rfl, _, SqL.of hL⟩, L, _, .ref t, rfl, rfl, hL, by simp, t, [u, .int lv], rfl, SqT.of ((upd_ne ntL).trans ht), rfl, ?_⟩
    rw [List.dropLast_concat]
    have s2 : Same H (upd H1 L (.lst xi)) := same_put s1 nL0
    have pi2 : Paired (Item H (upd H1 L (.lst xi))) xi wi := L2.Paired.mapP pi fun _ _ z => z.put hL
    have hL2 : (upd H1 L (.lst xi)) L = some (.lst xi) := upd_same
    generalize upd H1 L (.lst xi) = H2 at s2 pi2 hL2 ⊢
    refine ⟨_, _, rfl, _, _, rfl, rfl, _, rfl, _, _, rfl, rfl, _, rfl, ite2 (fun c => ?_) (fun c => ?_)⟩
    · have c' : lv > 60 := of_decide_eq_true c
      have z : bnd n d = false := by
        cases hb : bnd n d with
        | false => rfl
        | true => exact absurd (hrb.mpr hb) (rb_lev c')
      rw [z] at q
      exact iteT (q H2 s2)
    have hlv : lv ≤ 60 := by
      have : ¬ lv > 60 := fun z => c (decide_eq_true z)
      omega
    refine ⟨_, rfl, _, rfl, iteT ⟨_, rfl, u, m, e, rfl, hu.mono s2 (Nat.le_refl _), fun H3 s3 => ⟨_, rfl, ?_⟩⟩⟩
    cases ht' : okTop e with
    | false =>
      have z : bnd n d = false := by
        cases hb : bnd n d with
        | false => rfl
        | true => exact absurd (hrb.mpr hb) (rb_top ht')
      rw [z] at q
      exact iteT (q H3 (s2.trans s3))
    | true =>
    have s23 : Same H H3 := s2.trans s3
    refine iteF ⟨_, rfl, H, u, m, e, rfl, s23, hu, top_plain ht', fun H4 R us s4 nR hR l1000 inn => ?_⟩
    have s34 : Same H H4 := s23.trans s4
    have sH24 : Same H2 H4 := s3.trans s4
    have lus : us.length = (inner e).length := inn.len
    have hn0 := inn_none inn
    refine ⟨_, rfl, _, rfl, R, us, rfl, .inl (SqL.of hR), _, _, rfl, rfl, ?_⟩
    have hstep := rb_step (ws := wi) (many := many) hn0 ht' hlv
    rw [← lus] at hstep
    refine ⟨_, rfl, _, _, rfl, rfl, _, rfl, ite2 (fun c2 => ?_) (fun c2 => ?_)⟩
    · have c' : many + ((us.length : Nat) : Int) > 1000 := of_decide_eq_true c2
      have z : bnd n d = false := by
        cases hb : bnd n d with
        | false => rfl
        | true => exact absurd (hstep.mp (hrb.mpr hb)) (rb_many c')
      rw [z] at q
      exact q H4 s34
    have hmany : many + ((us.length : Nat) : Int) ≤ 1000 := by
      have : ¬ many + ((us.length : Nat) : Int) > 1000 := fun z => c2 (decide_eq_true z)
      omega
    have hxi : xi.length = wi.length := Paired.length pi
    have hL4 := sH24 _ _ hL2
    refine ⟨_, rfl, .inl ⟨rfl, _, SqL.of hL4⟩, _, rfl, R, rfl, ⟨_, SqL.of hR⟩, fun D nD => ?_⟩
    have nDL : L ≠ D := ne_of_none hL4 nD
    have lkids : (kids (m, e, lv)).length = us.length := by rw [kids_len hn0, lus]
    refine lc_list (K := K) (a := R) (xs := us) (fun i H' => ∃ acc, Same H4 H' ∧ H' D = some (.lst acc) ∧ Paired (Item H H') acc ((kids (m, e, lv)).take i)) ⟨[], same_new same_id nD, upd_same, .nil⟩ ?_ ?_ ?_
    · rintro i H' _ ⟨acc, s5, _⟩
      exact SqL.of (s5 _ _ hR)
    · rintro i x H' hx ⟨acc, s5, hD, pa⟩
      cases m with
      | zero =>
        rw [inn.1] at hx
        simp at hx
      | succ m =>
        obtain ⟨d', hd', hxd⟩ := paired_get (show Paired (fun x d => Da m H x d) us (inner e) from inn) i x hx
        have lacc : acc.length ≤ 1000 := by
          have := Paired.length pa
          rw [List.length_take] at this
          omega
        refine ⟨rfl, _, rfl, _, rfl, _, _, rfl, rfl, few (by show 2 ≤ 1000; decide), fun T nT => ?_⟩
        have nDT : D ≠ T := ne_of_none hD nT
        refine ⟨acc, (upd_ne nDT).trans hD, small1000 lacc, acc ++ [.ref T], fun b o ho => ?_, upd_same, ?_⟩
        · rw [upd_ne (ne_of_none ho nD), upd_ne (ne_of_none (s5 _ _ ho) nT)]
          exact s5 _ _ ho
        · have ek : (kids (m + 1, e, lv))[i]? = some (m, d', lv + 1) := by
            unfold kids
            rw [List.getElem?_map, hd']
            rfl
          rw [List.take_add_one, ek]
          refine Paired.snoc (L2.Paired.mapP pa fun _ _ z => (z.same (same_new same_id nT)).put ((upd_ne nDT).trans hD)) ⟨T, x, rfl, ?_, hxd⟩
          rw [upd_ne nDT.symm, upd_same]
    · rintro H' ⟨acc, s5, hD, pa⟩
      rw [← lkids, List.take_length] at pa
      have lacc : acc.length = us.length := (Paired.length pa).trans lkids
      have hL5 := s5 _ _ hL4
      refine ⟨L, D, xi, acc, rfl, rfl, hL5, hD, ?_, ?_⟩
      · rw [List.length_append, List.length_singleton] at hlen
        exact few (by push_cast at hlen; omega)
      · have lw : lss (wi ++ [(m, e, lv)]) = lss wi + cnt m e := by
          rw [lss_app]
          simp [lss]
        have lw2 : lss (wi ++ kids (m, e, lv)) = lss wi + (cnt m e - 1) := by rw [lss_app, kids_lss hn0]
        have p1 := lss_len wi
        have p2 := cnt_pos m e
        refine ⟨_, ?_, some u, some (.int lv), some (.ref R), _, xi ++ acc, wi ++ kids (m, e, lv), _, rfl, same_put (s34.trans s5) nL0, upd_same, paired_app (L2.Paired.mapP pi2 fun _ _ z => ((z.same sH24).same s5).put hL5) (L2.Paired.mapP pa fun _ _ z => z.put hL5), hmany, ?_, hstep.symm.trans hrb, rfl⟩
        · rw [lw, lw2]
          omega
        · rw [List.length_append, lkids]
          rw [List.length_append, List.length_singleton] at hlen
          push_cast at hlen ⊢
          omega
theorem ok_isD {f fB : Addr} {fd fdB : FuncData} (F : Fun K "is_datum" "is_datum" sIsD f fd) (GB : FnOk P w K mg base CX0 4 fB fdB ["value", "may_be_any"] spBnd) (mB : mg "_is_bounded" = some (.ref fB)) (kB : PySem.W.keepIn K (.ref fB) = true) (bB : Binds K fdB ["value", "may_be_any"] []) : FnOk P w K mg base CX0 5 f fd ["value"] spIsD := by
  refine F.ok scId (fun vs H Q E h => ?_) (fun cdv A outer s H vs Q E hr h => ?_)
  · obtain ⟨v, n, d, rfl, _⟩ := h
    rfl
  · obtain ⟨v, n, d, rfl, hd, q⟩ := h
    refine ⟨_, pss_one (ps_ret (pe_call GB hr (by rfl) mB kB bB .nil pass0 (pa_cons (pv 0) (pa_cons pe_bl pa_nil)))), ?_⟩
    exact ⟨_, rfl, v, n, d, rfl, hd, q⟩
end
end Toy


namespace Toy
open PySem PySem.Spec L2 PyProof.Rows PySem.W
abbrev sLSort : Stmt := top 27
abbrev sLKeys : Stmt := top 28
def spLSort : Sp := fun vs H Q _ => ∃ (v : V) (n : Nat) (d : D), vs = [v] ∧ Da n H v d ∧ plain d ∧ ∀ H', Same H H' → Q (.str (sortS d)) H'
section
variable {P : Program} {w : World} {K : PySem.W.Frag} {mg : Str → Option Value} {base : Heap}
theorem kit_none {t : Value} : PySem.W.kitAny K t [] = some false := rfl
theorem kit_2 {t a b : Value} {x y r : Bool} (h1 : PySem.W.kitOne K t a = some x) (h2 : PySem.W.kitOne K t b = some y) (hr : r = (x || y)) : PySem.W.kitAny K t [a, b] = some r := by
  subst hr
  refine kitAny_cons h1 (fun e => ?_) (fun e => by rw [e]; rfl)
  rw [e]
  refine kitAny_cons h2 (fun e2 => ?_) (fun e2 => by rw [e2]; rfl)
  rw [e2]
  exact kit_none
theorem scLS : FnScope ["_law_datum_here"] ["_law_datum_here"] (defScope sLSort) := ⟨rfl, rfl, rfl, by decide +kernel, rfl, by decide +kernel, by decide +kernel⟩
theorem scLK : FnScope ["_law_datum_here"] ["_law_datum_here"] (defScope sLKeys) := ⟨rfl, rfl, rfl, by decide +kernel, rfl, by decide +kernel, by decide +kernel⟩
theorem ok_lsort {f : Addr} {fd : FuncData} (F : Fun K "_law_sort" "_law_sort" sLSort f fd) (mI : mg "isinstance" = none) (mB : mg "bool" = none) (mN : mg "int" = none) (mS : mg "str" = none) (mL : mg "list" = none) : FnOk P w K mg base CX0 1 f fd ["_law_datum_here"] spLSort := by
  refine F.ok scLS (fun vs H Q E h => ?_) (fun cdv A outer s H vs Q E hr h => ?_)
  · obtain ⟨v, n, d, rfl, _⟩ := h
    rfl
  · obtain ⟨v, n, d, rfl, hd, hpl, q⟩ := h
    refine ⟨_, pss_cons (ps_if (pt_cmpR op_isN (pv 0) pe_non (nomark _)) (pss_one (ps_ret pe_str)) pss_nil)
      (pss_cons (ps_if (pt_val (pe_callB call_isi (by rfl) mI PyProof.Rows.boot_isinstance (pa_cons (pv 0) (pa_cons (pe_bltn (v := .ty "bool") (by rfl) mB (by decide +kernel) rfl) pa_nil)))) (pss_one (ps_ret (pe_ifExp (pt_val (pv 0)) pe_str pe_str))) pss_nil)
      (pss_cons (ps_if (pt_val (pe_callB call_isiT (by rfl) mI PyProof.Rows.boot_isinstance (pa_cons (pv 0) (pa_cons (pe_tup (pa_cons (pe_bltn (v := .ty "int") (by rfl) mN (by decide +kernel) rfl) (pa_cons (pe_bltn (v := .ty "str") (by rfl) mS (by decide +kernel) rfl) pa_nil))) pa_nil)))) 
          (pss_one (ps_ret (pe_ifExp (pt_val (pe_callB call_isi (by rfl) mI PyProof.Rows.boot_isinstance (pa_cons (pv 0) (pa_cons (pe_bltn (v := .ty "int") (by rfl) mN (by decide +kernel) rfl) pa_nil)))) pe_str pe_str))) pss_nil)
      (pss_one (ps_ret (pe_ifExp (pt_val (pe_callB call_isi (by rfl) mI PyProof.Rows.boot_isinstance (pa_cons (pv 0) (pa_cons (pe_bltn (v := .ty "list") (by rfl) mL (by decide +kernel) rfl) pa_nil)))) pe_str pe_str))))), ?_⟩
    have nn := non_iff hd
    refine ⟨_, rfl, rfl, _, rfl, ?_⟩
    rw [nn]
    have s0 : Same H H := fun _ _ z => z
    cases d with
    | non => exact iteT (q H s0)
    | bl b =>
      have ty : TyX K H v (.type "bool") := ty_of hd (by simp)
      have hv : v = .bl b := by cases n <;> simpa only [Da] using hd
      subst hv
      refine iteF ⟨_, rfl, _, _, _, _, true, rfl, .ty _, ty, kit_ty (by decide +kernel), _, rfl, iteT ⟨_, rfl, b, rfl, ?_⟩⟩
      cases b with
      | true => exact iteT (q H s0)
      | false => exact iteF (q H s0)
    | int i =>
      have ty : TyX K H v (.type "int") := ty_of hd (by simp)
      refine iteF ⟨_, rfl, _, _, _, _, false, rfl, .ty _, ty, kit_ty (by decide +kernel), _, rfl, iteF ⟨_, rfl, few (by show 2 ≤ 1000; decide), fun t nt => ?_⟩⟩
      have s1 := same_new (u := .tup [.ty "int", .ty "str"]) s0 nt
      have ty1 : TyX K (upd H t (.tup [.ty "int", .ty "str"])) v (.type "int") := ty_of (hd.mono s1 (Nat.le_refl _)) (by simp)
      exact ⟨_, t, _, _, [.type "int", .type "str"], true, rfl, upd_same, .cons (.ty _) (.cons (.ty _) .nil), ty1, kit_2 (x := true) (y := false) (kit_ty (by decide +kernel)) (kit_ty (by decide +kernel)) rfl, _, rfl, iteT ⟨_, rfl, _, _, _, _, true, rfl, .ty _, ty1, kit_ty (by decide +kernel), _, rfl, iteT (q _ s1)⟩⟩
    | str x =>
      have ty : TyX K H v (.type "str") := ty_of hd (by simp)
      refine iteF ⟨_, rfl, _, _, _, _, false, rfl, .ty _, ty, kit_ty (by decide +kernel), _, rfl, iteF ⟨_, rfl, few (by show 2 ≤ 1000; decide), fun t nt => ?_⟩⟩
      have s1 := same_new (u := .tup [.ty "int", .ty "str"]) s0 nt
      have ty1 : TyX K (upd H t (.tup [.ty "int", .ty "str"])) v (.type "str") := ty_of (hd.mono s1 (Nat.le_refl _)) (by simp)
      exact ⟨_, t, _, _, [.type "int", .type "str"], true, rfl, upd_same, .cons (.ty _) (.cons (.ty _) .nil), ty1, kit_2 (x := false) (y := true) (kit_ty (by decide +kernel)) (kit_ty (by decide +kernel)) rfl, _, rfl, iteT ⟨_, rfl, _, _, _, _, false, rfl, .ty _, ty1, kit_ty (by decide +kernel), _, rfl, iteF (q _ s1)⟩⟩
    | lst ds =>
      have ty : TyX K H v (.type "list") := ty_of hd (by simp)
      refine iteF ⟨_, rfl, _, _, _, _, false, rfl, .ty _, ty, kit_ty (by decide +kernel), _, rfl, iteF ⟨_, rfl, few (by show 2 ≤ 1000; decide), fun t nt => ?_⟩⟩
      have s1 := same_new (u := .tup [.ty "int", .ty "str"]) s0 nt
      have ty1 : TyX K (upd H t (.tup [.ty "int", .ty "str"])) v (.type "list") := ty_of (hd.mono s1 (Nat.le_refl _)) (by simp)
      exact ⟨_, t, _, _, [.type "int", .type "str"], false, rfl, upd_same, .cons (.ty _) (.cons (.ty _) .nil), ty1, kit_2 (x := false) (y := false) (kit_ty (by decide +kernel)) (kit_ty (by decide +kernel)) rfl, _, rfl, iteF ⟨_, rfl, _, _, _, _, true, rfl, .ty _, ty1, kit_ty (by decide +kernel), _, rfl, iteT (q _ s1)⟩⟩
    | dct ks ds =>
      have ty : TyX K H v (.type "dict") := ty_of hd (by simp)
      refine iteF ⟨_, rfl, _, _, _, _, false, rfl, .ty _, ty, kit_ty (by decide +kernel), _, rfl, iteF ⟨_, rfl, few (by show 2 ≤ 1000; decide), fun t nt => ?_⟩⟩
      have s1 := same_new (u := .tup [.ty "int", .ty "str"]) s0 nt
      have ty1 : TyX K (upd H t (.tup [.ty "int", .ty "str"])) v (.type "dict") := ty_of (hd.mono s1 (Nat.le_refl _)) (by simp)
      exact ⟨_, t, _, _, [.type "int", .type "str"], false, rfl, upd_same, .cons (.ty _) (.cons (.ty _) .nil), ty1, kit_2 (x := false) (y := false) (kit_ty (by decide +kernel)) (kit_ty (by decide +kernel)) rfl, _, rfl, iteF ⟨_, rfl, _, _, _, _, false, rfl, .ty _, ty1, kit_ty (by decide +kernel), _, rfl, iteF (q _ s1)⟩⟩
    | tup => exact False.elim hpl
    | odd => exact False.elim hpl
theorem ok_lkeys {f : Addr} {fd : FuncData} (F : Fun K "_law_keys" "_law_keys" sLKeys f fd) (mI : mg "isinstance" = none) (mL : mg "list" = none) (mD : mg "dict" = none) (mR : mg "range" = none) (mLen : mg "len" = none) (mS : mg "sorted" = none) : FnOk P w K mg base CX0 1 f fd ["_law_datum_here"] spSteps := by
  refine F.ok scLK (fun vs H Q E h => ?_) (fun cdv A outer s H vs Q E hr h => ?_)
  · obtain ⟨v, n, d, rfl, _⟩ := h
    rfl
  · obtain ⟨v, n, d, rfl, hd, hpl, q⟩ := h
    refine ⟨_, pss_cons (ps_if (pt_val (pe_callB call_isi (by rfl) mI PyProof.Rows.boot_isinstance (pa_cons (pv 0) (pa_cons (pe_bltn (v := .ty "dict") (by rfl) mD (by decide +kernel) rfl) pa_nil))))
        (pss_one (ps_ret (pe_callB (call_sortedD rfl) (by rfl) mS (by decide +kernel) (pa_cons (pv 0) pa_nil)))) pss_nil)
      (pss_one (ps_ret (pe_ifExp (pt_val (pe_callB call_isi (by rfl) mI PyProof.Rows.boot_isinstance (pa_cons (pv 0) (pa_cons (pe_bltn (v := .ty "list") (by rfl) mL (by decide +kernel) rfl) pa_nil)))) (pe_listRg (by rfl) (by rfl) mL (prg_1 (by rfl) mR (pe_callB call_len_seq (by rfl) mLen PySem.boot_len (pa_cons (pv 0) pa_nil)))) (pe_lst pa_nil)))), ?_⟩
    have lens : ∀ {m : Nat} {us : List V} {ds : List D}, Paired (fun x d => Da m H x d) us ds → us.length = ds.length := fun p => p.length
    cases d with
    | non =>
      have ty : TyX K H v (.type "NoneType") := ty_of hd (by simp)
      exact ⟨_, rfl, _, _, _, _, false, rfl, .ty _, ty, kit_ty (by decide +kernel), _, rfl, iteF ⟨_, rfl, _, _, _, _, false, rfl, .ty _, ty, kit_ty (by decide +kernel), _, rfl, iteF ⟨Nat.zero_le _, fun R nR => q _ R (same_new (fun _ _ z => z) nR) nR upd_same⟩⟩⟩
    | bl b =>
      have ty : TyX K H v (.type "bool") := ty_of hd (by simp)
      exact ⟨_, rfl, _, _, _, _, false, rfl, .ty _, ty, kit_ty (by decide +kernel), _, rfl, iteF ⟨_, rfl, _, _, _, _, false, rfl, .ty _, ty, kit_ty (by decide +kernel), _, rfl, iteF ⟨Nat.zero_le _, fun R nR => q _ R (same_new (fun _ _ z => z) nR) nR upd_same⟩⟩⟩
    | int i =>
      have ty : TyX K H v (.type "int") := ty_of hd (by simp)
      exact ⟨_, rfl, _, _, _, _, false, rfl, .ty _, ty, kit_ty (by decide +kernel), _, rfl, iteF ⟨_, rfl, _, _, _, _, false, rfl, .ty _, ty, kit_ty (by decide +kernel), _, rfl, iteF ⟨Nat.zero_le _, fun R nR => q _ R (same_new (fun _ _ z => z) nR) nR upd_same⟩⟩⟩
    | str x =>
      have ty : TyX K H v (.type "str") := ty_of hd (by simp)
      exact ⟨_, rfl, _, _, _, _, false, rfl, .ty _, ty, kit_ty (by decide +kernel), _, rfl, iteF ⟨_, rfl, _, _, _, _, false, rfl, .ty _, ty, kit_ty (by decide +kernel), _, rfl, iteF ⟨Nat.zero_le _, fun R nR => q _ R (same_new (fun _ _ z => z) nR) nR upd_same⟩⟩⟩
    | lst ds =>
      have ty : TyX K H v (.type "list") := ty_of hd (by simp)
      cases n with
      | zero => simp only [Da] at hd
      | succ n =>
        simp only [Da] at hd
        obtain ⟨a, xs, rfl, h2, h3, h4⟩ := hd
        have e := lens h4
        refine ⟨_, rfl, _, _, _, _, false, rfl, .ty _, ty, kit_ty (by decide +kernel), _, rfl, iteF ⟨_, rfl, _, _, _, _, true, rfl, .ty _, ty, kit_ty (by decide +kernel), _, rfl, iteT ⟨_, rfl, a, xs, rfl, .inl (SqL.of h2), _, rfl, RgOk.of_le (by omega) (by omega) (by omega) (by omega), fun R nR => q _ R (same_new (fun _ _ z => z) nR) nR ?_⟩⟩⟩
        rw [upd_same, rg_nat, e]
        rfl
    | dct ks ds =>
      have ty : TyX K H v (.type "dict") := ty_of hd (by simp)
      cases n with
      | zero => simp only [Da] at hd
      | succ n =>
        simp only [Da] at hd
        obtain ⟨a, us, rfl, h2, h3, h4, h5, h6, h7⟩ := hd
        refine ⟨_, rfl, _, _, _, _, true, rfl, .ty _, ty, kit_ty (by decide +kernel), _, rfl, iteT ⟨_, rfl, a, _, ks, rfl, .inl h2, kv_keys h4, by omega, fun ys R p1 p2 nR => q _ R (same_new (fun _ _ z => z) nR) nR ?_⟩⟩
        rw [upd_same, skeys_uniq p1 p2]
        rfl
    | tup => exact False.elim hpl
    | odd => exact False.elim hpl
end
end Toy


namespace Toy
open PySem PySem.Spec L2 PyProof.Rows PySem.W
/-! ### keys that are no names, kept -/
def Bad (bs : List Bool) (j : Nat) (H : Hp) (acc : List V) : Prop := acc.length = ((bs.take j).filter fun b => !b).length ∧ ∀ x ∈ acc, KeyV H x false
theorem Bad.same {bs : List Bool} {j : Nat} {H H' : Hp} {acc : List V} (h : Bad bs j H acc) (s : Same H H') : Bad bs j H' acc := ⟨h.1, fun x hx => (h.2 x hx).mono s⟩
theorem KeyV.put {H : Hp} {v : V} {b : Bool} {a : Addr} {u : HO} (h : KeyV H v b) (na : ∀ xs, H a ≠ some (.tup xs)) : KeyV (upd H a u) v b := by
  rcases h with h | ⟨rfl, h | ⟨t, k, rfl, ok, h⟩⟩
  · exact .inl h
  · exact .inr ⟨rfl, .inl h⟩
  · exact .inr ⟨rfl, .inr ⟨t, k, rfl, ok, (upd_ne (fun e => na _ (by rw [← e]; exact h))).trans h⟩⟩
theorem Bad.put {bs : List Bool} {j : Nat} {H : Hp} {acc : List V} {a : Addr} {u : HO} (h : Bad bs j H acc) (na : ∀ xs, H a ≠ some (.tup xs)) : Bad bs j (upd H a u) acc := ⟨h.1, fun x hx => (h.2 x hx).put na⟩
theorem Bad.next {bs : List Bool} {j : Nat} {H : Hp} {acc : List V} {x : V} {b : Bool} (h : Bad bs j H acc) (hb : bs[j]? = some b) (hx : b = false → KeyV H x false) : Bad bs (j + 1) H (if b = true then acc else acc ++ [x]) := by
  unfold Bad
  rw [List.take_add_one, hb, Option.toList_some, List.filter_append, List.length_append]
  cases b with
  | true => exact ⟨by simpa using h.1, h.2⟩
  | false =>
    refine ⟨by simp [h.1], fun y hy => ?_⟩
    rcases List.mem_append.mp hy with q | q
    · exact h.2 y q
    · rw [List.mem_singleton.mp q]
      exact hx rfl
/-- one key that was walked to -/
def BStep (g : TG) (tt : TT) (te : TE) (vs : List Nat) (σ : L2.St) (bs : List Bool) : Prop := ∀ (j : Nat) (b : Bool) (x : V) (H0 H' : Hp) (D : Addr) (acc : List V), bs[j]? = some b → KeyV H' x b → H0 D = none → Same H0 H' → H' D = some (.lst acc) → Bad bs j H' acc →
  g x (wipe σ vs) H' fun σ2 H2 => wipe σ2 vs = wipe σ vs ∧ tt σ2 H2 fun c H3 =>
    if c = true then te σ2 H3 fun y H4 => ∃ acc, H4 D = some (.lst acc) ∧ acc.length < sizeLine ∧ (Same H0 (upd H4 D (.lst (acc ++ [y]))) ∧ ∃ acc2, (upd H4 D (.lst (acc ++ [y]))) D = some (.lst acc2) ∧ Bad bs (j + 1) (upd H4 D (.lst (acc ++ [y]))) acc2) else (Same H0 H3 ∧ ∃ acc2, H3 D = some (.lst acc2) ∧ Bad bs (j + 1) H3 acc2)
theorem bad0 {bs : List Bool} {H : Hp} : Bad bs 0 H [] := ⟨by simp, fun x hx => by simp at hx⟩
theorem comp_bad {H : Hp} {v : V} {d : D} {n : Nat} (hd : Da n H v d) (hi : isDict d = true) : ∃ bs : List Bool, bs.all id = okTop d ∧ bs.length ≤ 20 ∧ ∀ {i : Nat} {σ : L2.St} {g : TG} {tt : TT} {te : TE} {vs : List Nat} {Q : VK}, σ[i]? = some (some v) → BStep g tt te vs σ bs →
    (∀ H' D acc, Same H H' → H D = none → H' D = some (.lst acc) → Bad bs bs.length H' acc → Q (.ref D) H') → tEither (tLockE (tLc (iKeys (tVar i)) g tt te vs)) (tLc (iOdd (tVar i)) g tt te vs) σ H Q := by
  cases d with
  | dct ks ds =>
    cases n with
    | zero => simp only [Da] at hd
    | succ n =>
      simp only [Da] at hd
      obtain ⟨a, us, rfl, h2, h3, h4, h5, h6, h7⟩ := hd
      refine ⟨ks.map nameOk, by rw [List.all_map]; rfl, by rw [List.length_map]; exact h3, fun {i σ g tt te vs Q} hσ hs hq => ?_⟩
      refine .inl ⟨a, _, h2, True.intro, fun od => ⟨_, hσ, a, od, rfl, .inl ⟨_, upd_same, fun D nD => ?_⟩⟩⟩
      have nDa : D ≠ a := fun e => by rw [e, upd_same] at nD; cases nD
      have lk : (kvOf ks us).length = ks.length := by
        have := congrArg List.length (kv_keys h4)
        simpa using this
      refine lc_it walk_keys (fun j H' => Same (upd H a (.frz od (.dK (kvOf ks us)))) H' ∧ ∃ acc, H' D = some (.lst acc) ∧ Bad (ks.map nameOk) j H' acc) ⟨same_new same_id nD, [], upd_same, bad0⟩ (fun j H' _ q => q.1 _ _ upd_same) ?_ ?_
      · rintro j x H1 H' hj ⟨s2, acc, hD, hb⟩ ⟨rfl, k, u, hk, rfl⟩
        have hkj : (kvOf ks us)[j]?.map (·.1) = (ks.map (Sum.inr : Str → Key))[j]? := by rw [← kv_keys h4, List.getElem?_map]
        rw [hk, List.getElem?_map] at hkj
        cases hq' : ks[j]? with
        | none => rw [hq'] at hkj; cases hkj
        | some key =>
          rw [hq'] at hkj
          obtain rfl : k = Sum.inr key := Option.some.inj hkj
          exact hs j (nameOk key) _ _ _ D acc (by rw [List.getElem?_map, hq']; rfl) (.inl ⟨key, rfl, h6 _ (List.mem_of_getElem? hq'), rfl⟩) nD s2 hD hb
      · rintro H' ⟨s2, acc, hD, hb⟩
        have ha := s2 _ _ upd_same
        refine ⟨ha, hq _ D acc (unlock h2 s2) ((upd_ne nDa).symm.trans nD) ((upd_ne nDa).trans hD) ?_⟩
        rw [List.length_map, ← lk]
        exact hb.put fun xs e => by rw [ha] at e; cases e
  | odd =>
    refine ⟨[false], rfl, by decide, fun {i σ g tt te vs Q} hσ hs hq => ?_⟩
    obtain ⟨p, rfl, ⟨i0, u, h2⟩ | ⟨ks, u, ok, h2⟩ | ⟨k, o, h2, ho, hn, hsys⟩⟩ := (show OddAt H v from by cases n <;> simpa only [Da] using hd)
    · refine .inl ⟨p, _, h2, True.intro, fun od => ⟨_, hσ, p, od, rfl, .inl ⟨_, upd_same, fun D nD => ?_⟩⟩⟩
      have nDa : D ≠ p := fun e => by rw [e, upd_same] at nD; cases nD
      refine lc_it walk_keys (fun j H' => Same (upd H p (.frz od (.dK [(Sum.inl i0, u)]))) H' ∧ ∃ acc, H' D = some (.lst acc) ∧ Bad [false] j H' acc) ⟨same_new same_id nD, [], upd_same, bad0⟩ (fun j H' _ q => q.1 _ _ upd_same) ?_ ?_
      · rintro j x H1 H' hj ⟨s2, acc, hD, hb⟩ ⟨rfl, k, u, hk, rfl⟩
        obtain rfl : j = 0 := by simp only [List.length_singleton] at hj; omega
        cases hk
        exact hs 0 false _ _ _ D acc rfl (.inr ⟨rfl, .inl (.inr (.inl ⟨i0, rfl⟩))⟩) nD s2 hD hb
      · rintro H' ⟨s2, acc, hD, hb⟩
        have ha := s2 _ _ upd_same
        exact ⟨ha, hq _ D acc (unlock h2 s2) ((upd_ne nDa).symm.trans nD) ((upd_ne nDa).trans hD) (hb.put fun xs e => by rw [ha] at e; cases e)⟩
    · refine .inl ⟨p, _, h2, True.intro, fun od => ⟨_, hσ, p, od, rfl, .inr ⟨_, upd_same, fun D nD => ?_⟩⟩⟩
      have nDa : D ≠ p := fun e => by rw [e, upd_same] at nD; cases nD
      refine lc_it walk_keysT (fun j H' => Same (upd H p (.frz od (.dT [([Sum.inr ks], u)]))) H' ∧ ∃ acc, H' D = some (.lst acc) ∧ Bad [false] j H' acc) ⟨same_new same_id nD, [], upd_same, bad0⟩ (fun j H' _ q => q.1 _ _ upd_same) ?_ ?_
      · rintro j x H1 H' hj ⟨s2, acc, hD, hb⟩ ⟨rfl, k, u, q, hk, rfl, hq⟩
        obtain rfl : j = 0 := by simp only [List.length_singleton] at hj; omega
        cases hk
        exact hs 0 false _ _ _ D acc rfl (.inr ⟨rfl, .inr ⟨_, ks, rfl, ok, hq⟩⟩) nD s2 hD hb
      · rintro H' ⟨s2, acc, hD, hb⟩
        have ha := s2 _ _ upd_same
        exact ⟨ha, hq _ D acc (unlock h2 s2) ((upd_ne nDa).symm.trans nD) ((upd_ne nDa).trans hD) (hb.put fun xs e => by rw [ha] at e; cases e)⟩
    · refine .inr ⟨_, hσ, p, o, k, rfl, h2, ho, hsys, fun D nD => ?_⟩
      refine lc_it walk_odd (fun j H' => Same H H' ∧ ∃ acc, H' D = some (.lst acc) ∧ Bad [false] j H' acc) ⟨same_new same_id nD, [], upd_same, bad0⟩ (fun j H' _ q => q.1 _ _ h2) ?_ ?_
      · rintro j x H1 H' hj ⟨s2, acc, hD, hb⟩ ⟨rfl, rfl⟩
        obtain rfl : j = 0 := by omega
        exact hs 0 false _ _ _ D acc rfl (.inr ⟨rfl, .inl hn⟩) nD s2 hD hb
      · rintro H' ⟨s2, acc, hD, hb⟩
        exact hq _ D acc s2 nD hD hb
  | _ => cases hi
theorem key_dp {K : PySem.W.Frag} {H : Hp} {v : V} {b : Bool} (h : KeyV H v b) : ∃ p, Dp K H v p ∧ p.canLay0 = true ∧ p.depth ≤ 1 := by
  rcases h with ⟨k, rfl, ok, _⟩ | ⟨_, (rfl | ⟨i, rfl⟩ | ⟨b, rfl⟩) | ⟨t, k, rfl, ok, h⟩⟩
  · exact ⟨_, .str k, by simp only [PyData.canLay0]; exact okK_1 ok, by simp [PyData.depth]⟩
  · exact ⟨_, .non, rfl, by simp [PyData.depth]⟩
  · exact ⟨_, .int i, rfl, by simp [PyData.depth]⟩
  · exact ⟨_, .bl b, rfl, by simp [PyData.depth]⟩
  · exact ⟨_, .tup (SqT.of h) (.cons (.str k) .nil), by simp only [PyData.canLay0, PyData.canLayAll0]; rw [okK_1 ok]; rfl, by simp [PyData.depth, PyData.depthAll]⟩
theorem keys_dp {K : PySem.W.Frag} {H : Hp} : ∀ {acc : List V}, (∀ x ∈ acc, KeyV H x false) → ∃ ps, DpAll K H acc ps ∧ PyData.canLayAll0 ps = true ∧ PyData.depthAll ps ≤ 2
  | [], _ => ⟨[], .nil, rfl, by simp [PyData.depthAll]⟩
  | x :: acc, h => by
    obtain ⟨ps, h1, h2, h3⟩ := keys_dp (K := K) fun y hy => h y (List.mem_cons_of_mem _ hy)
    obtain ⟨p, g1, g2, g3⟩ := key_dp (K := K) (h x List.mem_cons_self)
    exact ⟨p :: ps, .cons g1 h1, by simp only [PyData.canLayAll0]; rw [g2, h2]; rfl, by simp only [PyData.depthAll]; omega⟩
theorem dpAll_len {K : PySem.W.Frag} {H : Hp} : ∀ {vs : List V} {ds : List PyData}, DpAll K H vs ds → vs.length = ds.length
  | _, _, .nil => rfl
  | _, _, .cons _ t => congrArg Nat.succ (dpAll_len t)
theorem eqv_nil : ∀ ps : List PyData, PyData.eqv (.list ps) (.list []) = ps.isEmpty
  | [] => rfl
  | p :: ps => by simp [PyData.eqv, PyData.eqvAll]
theorem bad_ne {K : PySem.W.Frag} {H : Hp} {a e : Addr} {bs : List Bool} {acc : List V} {Q : VK} (hb : Bad bs bs.length H acc) (h1 : H a = some (.lst acc)) (h2 : H e = some (.lst [])) (q : Q (.bl (!bs.all id)) H) : rNeD K (.ref a) (.ref e) H Q := by
  obtain ⟨ps, g1, g2, g3⟩ := keys_dp (K := K) hb.2
  refine ⟨.list ps, .list [], .lst (SqL.of h1) g1, .lst (SqL.of h2) .nil, ?_, by decide +kernel, ?_⟩
  · unfold SeqAt.shaped
    rw [show (PyData.list ps).canLay0 = true by simp only [PyData.canLay0]; exact g2, Bool.true_and]
    exact decide_eq_true (by simp only [PyData.depth]; omega)
  · rw [eqv_nil]
    have l := hb.1
    rw [List.take_length] at l
    have lp := dpAll_len g1
    have e2 : ps.isEmpty = bs.all id := by
      by_cases hall : bs.all id = true
      · rw [hall]
        have : (bs.filter fun b => !b) = [] := by
          rw [List.filter_eq_nil_iff]
          intro b hb'
          have := List.all_eq_true.mp hall b hb'
          simp only [id] at this
          simp [this]
        rw [this] at l
        rw [List.isEmpty_iff, ← List.length_eq_zero_iff]
        simp only [List.length_nil] at l
        omega
      · rw [Bool.eq_false_iff.mpr hall]
        have : 0 < (bs.filter fun b => !b).length := by
          rw [List.length_pos_iff]
          intro e
          rw [List.filter_eq_nil_iff] at e
          exact hall (List.all_eq_true.mpr fun b hb' => by
            have := e b hb'
            simpa using this)
        cases ps with
        | nil => simp only [List.length_nil] at lp; omega
        | cons => rfl
    rw [e2]
    exact q
end Toy


namespace Toy
open PySem PySem.Spec L2 PyProof.Rows PySem.W
abbrev sMeas : Stmt := top 31
theorem room65 {k : Nat} {A : Around} (r : Room k A) : A.units + 65 < cLine := by have := r.un; omega
def spMeas (j : Nat) : Sp := fun vs H Q _ => ∃ (v : V) (n : Nat) (d : D), n < j ∧ vs = [v] ∧ Da n H v d ∧ (good n d = false → ∀ H', Same H H' → Q .non H') ∧ (good n d = true → ∀ H' t, Same H H' → H' t = some (.tup [.int (cnt n d), .int (dep n d)]) → Q (.ref t) H')
abbrev NMe : List Str := ["_law_x", "_law_key", "_law_rows", "_law_step", "_law_row", "_law_sign", "_law_is_number"]
/-- what is told of a part -/
def rowD (n : Nat) (x : D) : PyData := if good n x = true then .tuple [.int (cnt n x), .int (dep n x)] else .none
def MRow (n : Nat) (H : Hp) (v : V) (x : D) : Prop := (good n x = true ∧ ∃ t, v = .ref t ∧ H t = some (.tup [.int (cnt n x), .int (dep n x)])) ∨ (good n x = false ∧ v = .non)
theorem MRow.same {n : Nat} {H H' : Hp} {v : V} {x : D} (h : MRow n H v x) (s : Same H H') : MRow n H' v x := by
  rcases h with ⟨g, t, rfl, h⟩ | h
  · exact .inl ⟨g, t, rfl, s _ _ h⟩
  · exact .inr h
theorem MRow.put {n : Nat} {H : Hp} {v : V} {x : D} {a : Addr} {xs : List V} {o : HO} (h : MRow n H v x) (ha : H a = some (.lst xs)) : MRow n (upd H a o) v x := by
  rcases h with ⟨g, t, rfl, h⟩ | h
  · exact .inl ⟨g, t, rfl, (upd_ne (ne_of h ha (by intro z; cases z))).trans h⟩
  · exact .inr h
theorem row_dp {K : PySem.W.Frag} {n : Nat} {H : Hp} {v : V} {x : D} (h : MRow n H v x) : Dp K H v (rowD n x) := by
  unfold rowD
  rcases h with ⟨g, t, rfl, h⟩ | ⟨g, rfl⟩
  · rw [if_pos g]
    exact .tup (SqT.of h) (.cons (.int _) (.cons (.int _) .nil))
  · rw [g, if_neg Bool.false_ne_true]
    exact .non
theorem rows_dp {K : PySem.W.Frag} {n : Nat} {H : Hp} : ∀ {vs : List V} {ds : List D}, Paired (MRow n H) vs ds → DpAll K H vs (ds.map (rowD n))
  | _, _, .nil => .nil
  | _, _, .cons r t => .cons (row_dp r) (rows_dp t)
theorem rows_lay (n : Nat) : ∀ ds : List D, PyData.canLayAll0 (ds.map (rowD n)) = true ∧ PyData.depthAll (ds.map (rowD n)) ≤ 3
  | [] => ⟨rfl, by simp [PyData.depthAll]⟩
  | d :: ds => by
    obtain ⟨h1, h2⟩ := rows_lay n ds
    have h3 : (rowD n d).canLay0 = true ∧ (rowD n d).depth ≤ 2 := by
      unfold rowD
      split
      · exact ⟨by simp [PyData.canLay0, PyData.canLayAll0], by simp [PyData.depth, PyData.depthAll]⟩
      · exact ⟨rfl, by simp [PyData.depth]⟩
    exact ⟨by simp only [List.map_cons, PyData.canLayAll0]; rw [h3.1, h1]; rfl, by simp only [List.map_cons, PyData.depthAll]; omega⟩
theorem rows_none (n : Nat) : ∀ ds : List D, ((ds.map (rowD n)).any fun z => PyData.eqv z .none) = !ds.all (good n)
  | [] => rfl
  | d :: ds => by
    rw [List.map_cons, List.any_cons, rows_none n ds, List.all_cons]
    unfold rowD
    cases good n d with
    | true => simp [PyData.eqv]
    | false => simp [PyData.eqv]
theorem good_leaf {n : Nat} {d : D} (h : inner d = []) : good n d = okTop d := by
  cases n with
  | zero => rfl
  | succ n => rw [good, h]; simp
theorem cnt_leaf {n : Nat} {d : D} (h : inner d = []) : cnt n d = 1 := by
  cases n with
  | zero => rfl
  | succ n => rw [cnt, h]; rfl
theorem dep_leaf {n : Nat} {d : D} (h : inner d = []) : dep n d = 1 := by
  cases n with
  | zero => rfl
  | succ n => rw [dep, h]; rfl
abbrev tBadT : TT := tNot (tB (tCall spName [] E0 (tCons (tVar 1) tNil)))
abbrev tBadC : TE := tEither (tLockE (tLc (iKeys (tVar 0)) (gName 1) tBadT (tVar 1) [1])) (tLc (iOdd (tVar 0)) (gName 1) tBadT (tVar 1) [1])
theorem cond_keys {K : PySem.W.Frag} {H : Hp} {v : V} {n : Nat} {d : D} {Q : VK} (hd : Da n H v d) (hi : isDict d = true) (q : ∀ H', Same H H' → Q (.bl (!okTop d)) H') :
    tOp (rNeD K) tBadC (tLst tNil) [some v, none, none, none, none, none, none] H Q := by
  obtain ⟨bs, e1, e2, walk⟩ := comp_bad hd hi
  refine walk rfl (fun j b x H0 H' D acc hb hk nD s2 hD hB => ?_) fun H' D acc s2 nD hD hB => ?_
  · refine ⟨rfl, _, rfl, x, b, rfl, hk, fun H2 s3 => ⟨_, rfl, ?_⟩⟩
    have lacc : acc.length ≤ 1000 := by
      have := hB.1
      have h2 := List.length_filter_le (fun b => !b) (bs.take j)
      rw [List.length_take] at h2
      omega
    have hD2 := s3 _ _ hD
    have nx := (hB.same s3).next hb (x := x) fun e => by rw [← e]; exact hk.mono s3
    cases b with
    | true =>
      refine (if_neg (by decide)).symm.mp ⟨s2.trans s3, acc, hD2, ?_⟩
      rw [if_pos rfl] at nx
      exact nx
    | false =>
      rw [if_neg Bool.false_ne_true] at nx
      refine (if_pos rfl).symm.mp ⟨_, rfl, acc, hD2, small1000 lacc, same_put (s2.trans s3) nD, acc ++ [x], upd_same, nx.put fun xs e => by rw [hD2] at e; cases e⟩
  · refine ⟨Nat.zero_le _, fun e ne => ?_⟩
    have s3 : Same H' (upd H' e (.lst [])) := same_new same_id ne
    refine bad_ne (hB.same s3) (s3 _ _ hD) upd_same ?_
    rw [e1]
    exact q _ (s2.trans s3)
end Toy


namespace Toy
open PySem PySem.Spec L2 PyProof.Rows PySem.W
section
variable {P : Program} {w : World} {K : PySem.W.Frag} {mg : Str → Option Value} {base : Heap}
theorem scMe : FnScope NMe ["_law_x"] (defScope sMeas) := ⟨rfl, rfl, rfl, by decide +kernel, rfl, by decide +kernel, by decide +kernel⟩
theorem kit_of2 {t : Value} {x y : Bool} {a b : Value} (h1 : PySem.W.kitOne K t a = some x) (h2 : PySem.W.kitOne K t b = some y) : PySem.W.kitAny K t [a, b] = some (x || y) := kit_2 h1 h2 rfl
theorem kitL (d : D) : PySem.W.kitOne K (.type (tyS d)) (.type "list") = some (match d with | .lst _ => true | _ => false) := by
  cases d with
  | non => exact kit_ty (a := "NoneType") (b := "list") (r := false) (by decide +kernel)
  | bl b => exact kit_ty (a := "bool") (b := "list") (r := false) (by decide +kernel)
  | int i => exact kit_ty (a := "int") (b := "list") (r := false) (by decide +kernel)
  | str x => exact kit_ty (a := "str") (b := "list") (r := false) (by decide +kernel)
  | lst ds => exact kit_ty (a := "list") (b := "list") (r := true) (by decide +kernel)
  | dct ks ds => exact kit_ty (a := "dict") (b := "list") (r := false) (by decide +kernel)
  | tup => exact kit_ty (a := "tuple") (b := "list") (r := false) (by decide +kernel)
  | odd => exact kit_ty (a := "dict") (b := "list") (r := false) (by decide +kernel)
theorem kitD (d : D) : PySem.W.kitOne K (.type (tyS d)) (.type "dict") = some (isDict d) := by
  cases d with
  | non => exact kit_ty (a := "NoneType") (b := "dict") (r := false) (by decide +kernel)
  | bl b => exact kit_ty (a := "bool") (b := "dict") (r := false) (by decide +kernel)
  | int i => exact kit_ty (a := "int") (b := "dict") (r := false) (by decide +kernel)
  | str x => exact kit_ty (a := "str") (b := "dict") (r := false) (by decide +kernel)
  | lst ds => exact kit_ty (a := "list") (b := "dict") (r := false) (by decide +kernel)
  | dct ks ds => exact kit_ty (a := "dict") (b := "dict") (r := true) (by decide +kernel)
  | tup => exact kit_ty (a := "tuple") (b := "dict") (r := false) (by decide +kernel)
  | odd => exact kit_ty (a := "dict") (b := "dict") (r := true) (by decide +kernel)
theorem cnt_eq {n : Nat} {d : D} (h : n = 0 → inner d = []) : cnt n d = 1 + ((inner d).map (cnt (n - 1))).sum := by
  cases n with
  | zero => rw [h rfl]; rfl
  | succ n => rfl
theorem dep_eq {n : Nat} {d : D} (h : n = 0 → inner d = []) : dep n d = 1 + mx ((inner d).map (dep (n - 1))) := by
  cases n with
  | zero => rw [h rfl]; rfl
  | succ n => rfl
theorem good_eq {n : Nat} {d : D} (h : n = 0 → inner d = []) (ht : okTop d = true) : good n d = (inner d).all (good (n - 1)) := by
  cases n with
  | zero => rw [h rfl]; exact ht
  | succ n => rw [good, ht]; rfl
theorem rows_shaped (n : Nat) (ds : List D) : SeqAt.shaped (.list (ds.map (rowD n))) = true := by
  obtain ⟨h1, h2⟩ := rows_lay n ds
  unfold SeqAt.shaped
  rw [show (PyData.list (ds.map (rowD n))).canLay0 = true by simp only [PyData.canLay0]; exact h1, Bool.true_and]
  exact decide_eq_true (by simp only [PyData.depth]; omega)
theorem MRow.tup {n : Nat} {H : Hp} {v : V} {x : D} (h : MRow n H v x) (g : good n x = true) : ∃ t, v = .ref t ∧ H t = some (.tup [.int (cnt n x), .int (dep n x)]) := by
  rcases h with ⟨_, h⟩ | ⟨g', _⟩
  · exact h
  · rw [g] at g'
    cases g'
theorem cond_all {H : Hp} {v : V} {n : Nat} {d : D} {QQ : Bool → Hp → Prop} (hd : Da n H v d) (hn : isNest d = true) (q : ∀ H', Same H H' → QQ (!okTop d) H') :
    tAnd (tB (tCB (rIsiO K) (tCons (tVar 0) (tCons (tC (.ty "dict")) tNil)))) (tTest (tOp (rNeD K) tBadC (tLst tNil))) [some v, none, none, none, none, none, none] H QQ := by
  refine ⟨_, rfl, v, _, _, _, isDict d, rfl, .ty _, ty_O hd, kitD d, _, rfl, ?_⟩
  by_cases hi : isDict d = true
  · exact (if_pos hi).symm.mp (cond_keys hd hi fun H2 s2 => ⟨_, rfl, q H2 s2⟩)
  · refine (if_neg hi).symm.mp ?_
    have e : okTop d = true := by
      cases d with
      | lst ds => rfl
      | dct ks ds => exact absurd rfl hi
      | odd => exact absurd rfl hi
      | _ => cases hn
    have z := q H same_id
    rw [e] at z
    exact z
theorem abs_ok (i : Int) : decide ((if i < 0 then -i else i) ≤ (10 : Int) ^ (30 : Int).toNat) = okTop (.int i) := by
  show _ = (decide (-(10 ^ 30) ≤ i) && decide (i ≤ 10 ^ 30))
  have e : (10 : Int) ^ (30 : Int).toNat = 10 ^ 30 := rfl
  rw [e, ← Bool.decide_and]
  refine decide_eq_decide.mpr ?_
  generalize (10 : Int) ^ 30 = M
  split <;> omega
theorem kitN (d : D) : isNest d = ((match d with | .lst _ => true | _ => false) || isDict d) := by cases d <;> rfl
theorem ok_meas {f fK fL : Addr} {fd fdK fdL : FuncData} (F : Fun K "_law_measure" "_law_measure" sMeas f fd) (GK : FnOk P w K mg base CX0 1 fK fdK ["_law_x"] spName) (mK : mg "_law_is_key" = some (.ref fK)) (kK : PySem.W.keepIn K (.ref fK) = true) (bK : Binds K fdK ["_law_x"] [])
    (GL : FnOk P w K mg base CX0 1 fL fdL ["_law_datum_here"] spSteps) (mL : mg "_law_keys" = some (.ref fL)) (kL : PySem.W.keepIn K (.ref fL) = true) (bL : Binds K fdL ["_law_datum_here"] []) (mF : mg "_law_measure" = some (.ref f)) (kF : PySem.W.keepIn K (.ref f) = true) (bF : Binds K fd ["_law_x"] [])
    (mI : mg "isinstance" = none) (mB : mg "bool" = none) (mN : mg "int" = none) (mSt : mg "str" = none) (mLi : mg "list" = none) (mD : mg "dict" = none) (mLen : mg "len" = none) (mAb : mg "abs" = none) (mSum : mg "sum" = none) (mMax : mg "max" = none) : ∀ j : Nat, FnOk P w K mg base CX0 (j + 2) f fd ["_law_x"] (spMeas j) := by
  intro j
  induction j with
  | zero => exact F.ok (k := 1) scMe (fun vs H Q E h => by obtain ⟨v, n, d, h0, _⟩ := h; exact absurd h0 (Nat.not_lt_zero _)) (fun cdv A outer s H vs Q E hr h => by obtain ⟨v, n, d, h0, _⟩ := h; exact absurd h0 (Nat.not_lt_zero _))
  | succ j ih =>
    refine F.ok (k := j + 2) scMe (fun vs H Q E h => ?_) (fun cdv A outer s H vs Q E hr h => ?_)
    · obtain ⟨v, n, d, _, rfl, _⟩ := h
      rfl
    · obtain ⟨v, n, d, hnj, rfl, hd, q0, q1⟩ := h
      have hr1 : Room 1 _ := hr.mono (show 1 ≤ j + 2 by omega)
      have hu := hu_of hr
      refine ⟨_, pss_cons (ps_if (pt_val (pe_callB call_isiTO (by rfl) mI PyProof.Rows.boot_isinstance (pa_cons (pv 0) (pa_cons (pe_tup (pa_cons (pe_bltn (v := .ty "list") (by rfl) mLi (by decide +kernel) rfl) (pa_cons (pe_bltn (v := .ty "dict") (by rfl) mD (by decide +kernel) rfl) pa_nil))) pa_nil))))
          (pss_cons (ps_if (PW.pt (pw_and (pt_val (pe_callB call_isiO (by rfl) mI PyProof.Rows.boot_isinstance (pa_cons (pv 0) (pa_cons (pe_bltn (v := .ty "dict") (by rfl) mD (by decide +kernel) rfl) pa_nil)))) (pw_and1 (pt_cmpR (op_neD hr.units) (pe_either
              (pe_lock (pe_lc (own := [("_law_key", 1)]) (g := gName 1) (tt := tBadT) (te := tVar 1) (by rfl) scMe.nd (pi_keys (pv 0)) (blkOk_by (own := [("_law_key", 1)]) (N := NMe) (sc := defScope sMeas) (by decide +kernel)) (fun _ _ _ _ _ => pg_name (i := 1) scMe.nd rfl (Or.inl rfl)) (fun _ _ _ _ _ => pts_one (pt_not (pt_val (pe_call GK hr1 (by rfl) mK kK bK .nil pass0 (pa_cons (pv 1) pa_nil))))) (fun _ _ _ _ _ => pv 1)))
              (pe_lc (own := [("_law_key", 1)]) (g := gName 1) (tt := tBadT) (te := tVar 1) (by rfl) scMe.nd (pi_odd (pv 0)) (blkOk_by (own := [("_law_key", 1)]) (N := NMe) (sc := defScope sMeas) (by decide +kernel)) (fun _ _ _ _ _ => pg_name (i := 1) scMe.nd rfl (Or.inl rfl)) (fun _ _ _ _ _ => pts_one (pt_not (pt_val (pe_call GK hr1 (by rfl) mK kK bK .nil pass0 (pa_cons (pv 1) pa_nil))))) (fun _ _ _ _ _ => pv 1)))
              (pe_lst pa_nil) (nomark _))))) (pss_one (ps_ret pe_non)) pss_nil)
          (pss_cons (ps_setLc (i := 2) (own := [("_law_step", 3)]) (g := gName 3) (te := tCall (spMeas j) [] E0 (tCons (tEither (tOp (rIxL K) (tVar 0) (tVar 3)) (tDGet (tVar 0) (tVar 3))) tNil)) (by rfl) scMe.nd rfl rfl (sw_true rfl rfl rfl (by decide +kernel)) (pi_list (pe_call GL hr1 (by rfl) mL kL bL .nil pass0 (pa_cons (pv 0) pa_nil)))
              (blkOk_by (own := [("_law_step", 3)]) (N := NMe) (sc := defScope sMeas) (by decide +kernel)) (fun _ _ _ _ _ => pg_name (i := 3) scMe.nd rfl (Or.inl rfl)) (fun _ _ _ _ _ => pts_nil)
              (fun _ _ _ _ _ => pe_call ih hr (by rfl) mF kF bF .nil pass0 (pa_cons (pe_either (pe_ix ix_list (pv 0) (pv 3) (fun _ _ => rfl)) (pe_dget hu (pv 0) (pv 3) (fun _ _ => rfl))) pa_nil)))
          (pss_cons (ps_if (pt_cmpR (op_inD (room65 hr)) pe_non (pv 2) (by rfl)) (pss_one (ps_ret pe_non)) pss_nil)
          (pss_one (ps_ret (pe_tup (pa_cons (pe_op op_add pe_int (pe_callB (cr_sum rfl) (by rfl) mSum (by decide +kernel) (pa_cons (pe_lc (own := [("_law_row", 4)]) (g := gName 4) (te := tOp (rIxT K) (tVar 4) (tC (.int 0))) (by rfl) scMe.nd (pi_list (pv 2)) (blkOk_by (own := [("_law_row", 4)]) (N := NMe) (sc := defScope sMeas) (by decide +kernel)) (fun _ _ _ _ _ => pg_name (i := 4) scMe.nd rfl (Or.inl rfl)) (fun _ _ _ _ _ => pts_nil)
              (fun _ _ _ _ _ => pe_ix ix_tup (pv 4) pe_int (fun _ _ => rfl))) pa_nil)))
            (pa_cons (pe_op op_add pe_int (pe_callB (cr_max rfl) (by rfl) mMax (by decide +kernel) (pa_cons (pe_op op_cat (pe_lst (pa_cons pe_int pa_nil)) (pe_lc (own := [("_law_row", 4)]) (g := gName 4) (te := tOp (rIxT K) (tVar 4) (tC (.int 1))) (by rfl) scMe.nd (pi_list (pv 2)) (blkOk_by (own := [("_law_row", 4)]) (N := NMe) (sc := defScope sMeas) (by decide +kernel)) (fun _ _ _ _ _ => pg_name (i := 4) scMe.nd rfl (Or.inl rfl)) (fun _ _ _ _ _ => pts_nil)
              (fun _ _ _ _ _ => pe_ix ix_tup (pv 4) pe_int (fun _ _ => rfl)))) pa_nil))) pa_nil))))))))
          pss_nil)
        (pss_cons (ps_if (pt_val (pe_callB call_isi (by rfl) mI PyProof.Rows.boot_isinstance (pa_cons (pv 0) (pa_cons (pe_bltn (v := .ty "str") (by rfl) mSt (by decide +kernel) rfl) pa_nil))))
            (pss_one (ps_ret (pe_ifExp (PW.pt (pw_and (pt_cmpR op_le (pe_callB call_len_str (by rfl) mLen PySem.boot_len (pa_cons (pv 0) pa_nil)) pe_int (nomark _)) (pw_and1 (pt_cmpR (op_eqD hr.units) (pe_lc (own := [("_law_sign", 5)]) (g := gName 5) (by rfl) scMe.nd (pi_str (pv 0)) (blkOk_by (own := [("_law_sign", 5)]) (N := NMe) (sc := defScope sMeas) (by decide +kernel)) (fun _ _ _ _ _ => pg_name (i := 5) scMe.nd rfl (Or.inl rfl))
                (fun _ _ _ _ _ => pts_one (pt_not (pt_chain op_le_str op_le_str pe_str (pv 5) pe_str))) (fun _ _ _ _ _ => pv 5)) (pe_lst pa_nil) (nomark _))))) (pe_tup (pa_cons pe_int (pa_cons pe_int pa_nil))) pe_non))) pss_nil)
        (pss_cons (ps_set (i := 6) scMe.nd rfl (Or.inl rfl) (pe_and (pe_callB call_isi (by rfl) mI PyProof.Rows.boot_isinstance (pa_cons (pv 0) (pa_cons (pe_bltn (v := .ty "int") (by rfl) mN (by decide +kernel) rfl) pa_nil))) (pe_one (pe_cmpR op_le (pe_callB call_absB (by rfl) mAb PyProof.Rows.boot_abs (pa_cons (pv 0) pa_nil)) (pe_op op_pow pe_int pe_int) (nomark _)))))
        (pss_one (ps_ret (pe_ifExp (PW.pt (pw_or (pt_cmpR op_isN (pv 0) pe_non (nomark _)) (pw_or (pt_val (pe_callB call_isi (by rfl) mI PyProof.Rows.boot_isinstance (pa_cons (pv 0) (pa_cons (pe_bltn (v := .ty "bool") (by rfl) mB (by decide +kernel) rfl) pa_nil)))) (pw_or1 (pt_val (pv 6)))))) (pe_tup (pa_cons pe_int (pa_cons pe_int pa_nil))) pe_non))))), ?_⟩
      refine ⟨_, rfl, few (by show 2 ≤ 1000; decide), fun t nt => ?_⟩
      have s1 : Same H (upd H t (.tup [.ty "list", .ty "dict"])) := same_new same_id nt
      have ht1 : (upd H t (.tup [.ty "list", .ty "dict"])) t = some (.tup [.ty "list", .ty "dict"]) := upd_same
      generalize upd H t (.tup [.ty "list", .ty "dict"]) = H1 at s1 ht1 ⊢
      have hd1 := hd.mono s1 (Nat.le_refl _)
      have tyo := ty_O (K := K) hd1
      refine ⟨_, t, _, _, [.type "list", .type "dict"], isNest d, rfl, ht1, .cons (.ty _) (.cons (.ty _) .nil), tyo, (kit_of2 (kitL d) (kitD d)).trans (by rw [kitN]), _, rfl, ?_⟩
      have leafT : inner d = [] → okTop d = true → ∀ H2 p, Same H H2 → H2 p = some (.tup [.int 1, .int 1]) → Q (.ref p) H2 := fun e h H2 p s2 hp => q1 (by rw [good_leaf e]; exact h) H2 p s2 (by rw [cnt_leaf e, dep_leaf e]; exact hp)
      have leafF : inner d = [] → okTop d = false → ∀ H2, Same H H2 → Q .non H2 := fun e h H2 s2 => q0 (by rw [good_leaf e]; exact h) H2 s2
      cases hnest : isNest d with
      | false =>
        refine iteF ?_
        cases d with
        | non =>
          have ty : TyX K H1 v (.type "NoneType") := ty_of hd1 (by simp)
          have hv : v = .non := by cases n <;> simpa only [Da] using hd
          subst hv
          exact ⟨_, rfl, _, _, _, _, false, rfl, .ty _, ty, kit_ty (by decide +kernel), _, rfl, iteF ⟨_, rfl, _, _, _, _, false, rfl, .ty _, ty, kit_ty (by decide +kernel), _, rfl, iteF ⟨_, rfl, rfl, _, rfl, iteT (iteT ⟨few (by show 2 ≤ 1000; decide), fun p np => leafT rfl rfl _ p (same_new s1 np) upd_same⟩)⟩⟩⟩
        | bl b =>
          have ty : TyX K H1 v (.type "bool") := ty_of hd1 (by simp)
          have hv : v = .bl b := by cases n <;> simpa only [Da] using hd
          subst hv
          refine ⟨_, rfl, _, _, _, _, false, rfl, .ty _, ty, kit_ty (by decide +kernel), _, rfl, iteF ⟨_, rfl, _, _, _, _, true, rfl, .ty _, ty, kit_ty (by decide +kernel), _, rfl, iteT ⟨_, rfl, _, rfl, .inr ⟨b, rfl, _, _, rfl, rfl, ⟨by decide, by decide, by decide⟩, _, _, rfl, rfl, ?_⟩⟩⟩⟩
          exact ⟨_, rfl, rfl, _, rfl, iteF ⟨_, rfl, _, _, _, _, true, rfl, .ty _, ty, kit_ty (by decide +kernel), _, rfl, iteT (iteT ⟨few (by show 2 ≤ 1000; decide), fun p np => leafT rfl rfl _ p (same_new s1 np) upd_same⟩)⟩⟩
        | int i =>
          have ty : TyX K H1 v (.type "int") := ty_of hd1 (by simp)
          have hv : v = .int i := by cases n <;> simpa only [Da] using hd
          subst hv
          refine ⟨_, rfl, _, _, _, _, false, rfl, .ty _, ty, kit_ty (by decide +kernel), _, rfl, iteF ⟨_, rfl, _, _, _, _, true, rfl, .ty _, ty, kit_ty (by decide +kernel), _, rfl, iteT ⟨_, rfl, _, rfl, .inl ⟨i, rfl, _, _, rfl, rfl, ⟨by decide, by decide, by decide⟩, _, _, rfl, rfl, ?_⟩⟩⟩⟩
          show gName 6 (V.bl (decide ((if i < 0 then -i else i) ≤ (10 : Int) ^ (30 : Int).toNat))) (L2.start NMe [V.int i]) H1 _
          rw [abs_ok]
          refine ⟨_, rfl, rfl, _, rfl, iteF ⟨_, rfl, _, _, _, _, false, rfl, .ty _, ty, kit_ty (by decide +kernel), _, rfl, iteF ⟨_, rfl, _, rfl, ?_⟩⟩⟩
          cases ho : okTop (.int i) with
          | true => exact iteT ⟨few (by show 2 ≤ 1000; decide), fun p np => leafT rfl ho _ p (same_new s1 np) upd_same⟩
          | false => exact iteF (leafF rfl ho _ s1)
        | str x =>
          have ty : TyX K H1 v (.type "str") := ty_of hd1 (by simp)
          obtain ⟨rfl, h1, h2, h3⟩ := (show v = .str x ∧ PyData.strOk x = true ∧ x.length ≤ 1000 ∧ 37 ∉ x.cps.toList from by cases n <;> simpa only [Da] using hd)
          refine ⟨_, rfl, _, _, _, _, true, rfl, .ty _, ty, kit_ty (by decide +kernel), _, rfl, iteT ⟨_, rfl, x, rfl, few h2, _, _, rfl, rfl, _, rfl, ite2 (fun c => ?_) (fun c => ?_)⟩⟩
          · have c' : ((x.length : Nat) : Int) ≤ 200 := of_decide_eq_true c
            refine ⟨_, rfl, x, rfl, fun D nD => ?_⟩
            refine lc_it walk_str (fun i H' => Same H1 H' ∧ H' D = some (.lst ((sg (fun c => !sgn c) (x.cps.toList.take i)).map V.str))) ⟨same_new same_id nD, by rw [upd_same]; rfl⟩ (fun _ _ _ _ => trivial) ?_ ?_
            · rintro i y H2 H' hi ⟨s2, hD⟩ ⟨rfl, c, hc, rfl⟩
              have lacc : ((sg (fun c => !sgn c) (x.cps.toList.take i)).map V.str).length ≤ 1000 := by
                rw [List.length_map]
                have := sg_len (f := fun c => !sgn c) (k := x) (i := i)
                omega
              have fin : ∀ b : Bool, b = sgn c → (if (!b) = true then ∃ y, (some (some (V.str ⟨#[c]⟩)) : Option (Option V)) = some (some y) ∧ ∃ acc, H' D = some (.lst acc) ∧ acc.length < sizeLine ∧ (Same H1 (upd H' D (.lst (acc ++ [y]))) ∧ (upd H' D (.lst (acc ++ [y]))) D = some (.lst ((sg (fun c => !sgn c) (x.cps.toList.take (i + 1))).map V.str))) else (Same H1 H' ∧ H' D = some (.lst ((sg (fun c => !sgn c) (x.cps.toList.take (i + 1))).map V.str)))) := by
                rintro b rfl
                by_cases g : (!sgn c) = true
                · refine (if_pos g).symm.mp ⟨_, rfl, _, hD, small1000 lacc, same_put s2 nD, ?_⟩
                  rw [upd_same, sg_next hc, if_pos g]
                  simp
                · refine (if_neg g).symm.mp ⟨s2, ?_⟩
                  rw [sg_next hc, if_neg g]
                  exact hD
              refine ⟨rfl, _, rfl, _, _, rfl, rfl, _, rfl, ?_⟩
              rw [show (!decide ((⟨#[c]⟩ : Str).cps.toList < ((" " : Str)).cps.toList)) = decide (32 ≤ c) from le_sign 32 c]
              by_cases g : 32 ≤ c
              · rw [decide_eq_true g]
                refine iteT ⟨_, _, rfl, rfl, _, rfl, ?_⟩
                rw [show (!decide ((("~" : Str)).cps.toList < (⟨#[c]⟩ : Str).cps.toList)) = decide (c ≤ 126) from le_sign c 126]
                exact fin (decide (c ≤ 126)) (by unfold sgn; rw [decide_eq_true g, Bool.true_and])
              · rw [decide_eq_false g]
                exact iteF ⟨_, rfl, fin false (by unfold sgn; rw [decide_eq_false g, Bool.false_and])⟩
            · rintro H' ⟨s2, hD⟩
              rw [show x.cps.size = x.cps.toList.length by simp, List.take_length] at hD
              refine ⟨Nat.zero_le _, fun e ne => ?_⟩
              refine sg_eqv h1 ((upd_ne (ne_of_none hD ne)).trans hD) upd_same ⟨_, rfl, ?_⟩
              have s3 := same_new (u := .lst []) (s1.trans s2) ne
              have e2 : (x.cps.toList.all fun c => !(!sgn c)) = okTop (.str x) := by
                show _ = txtOk x
                unfold txtOk
                rw [decide_eq_true (show x.length ≤ 200 by omega)]
                simp
              rw [e2]
              cases ho : okTop (.str x) with
              | true => exact iteT ⟨few (by show 2 ≤ 1000; decide), fun p np => leafT rfl ho _ p (same_new s3 np) upd_same⟩
              | false => exact iteF (leafF rfl ho _ s3)
          · have c' : ¬ ((x.length : Nat) : Int) ≤ 200 := fun z => c (decide_eq_true z)
            have ho : okTop (.str x) = false := by
              show txtOk x = false
              unfold txtOk
              rw [decide_eq_false (by omega)]
              rfl
            exact iteF (leafF rfl ho _ s1)
        | tup =>
          have ty : TyX K H1 v (.type "tuple") := ty_of hd1 (by simp)
          have nn := non_iff hd1
          refine ⟨_, rfl, _, _, _, _, false, rfl, .ty _, ty, kit_ty (by decide +kernel), _, rfl, iteF ⟨_, rfl, _, _, _, _, false, rfl, .ty _, ty, kit_ty (by decide +kernel), _, rfl, iteF ⟨_, rfl, rfl, _, rfl, ?_⟩⟩⟩
          rw [nn]
          exact iteF ⟨_, rfl, _, _, _, _, false, rfl, .ty _, ty, kit_ty (by decide +kernel), _, rfl, iteF ⟨_, rfl, _, rfl, iteF (leafF rfl rfl _ s1)⟩⟩
        | lst ds => cases hnest
        | dct ks ds => cases hnest
        | odd => cases hnest
      | true =>
        refine iteT (cond_all hd1 hnest fun H2 s2 => ?_)
        cases ht : okTop d with
        | false =>
          refine iteT (q0 ?_ H2 (s1.trans s2))
          cases hg : good n d with
          | false => rfl
          | true => rw [good_top hg] at ht; cases ht
        | true =>
        refine iteF ?_
        have s12 : Same H H2 := s1.trans s2
        have hd2 := hd.mono s12 (Nat.le_refl _)
        obtain ⟨us, inn, lus, l1000, sub⟩ := sub_read (K := K) hd
        have hn0 := inn_none inn
        have linn : us.length = (inner d).length := inn.len
        refine ⟨_, rfl, v, n, d, rfl, hd2, top_plain ht, fun H3 R s3 nR hR => ⟨R, rfl, ⟨_, SqL.of hR⟩, fun D nD => ?_⟩⟩
        have s13 : Same H H3 := s12.trans s3
        refine lc_list (K := K) (a := R) (xs := stepsV d) (fun i H' => Same H3 H' ∧ ∃ acc, H' D = some (.lst acc) ∧ Paired (MRow (n - 1) H') acc ((inner d).take i)) ⟨same_new same_id nD, [], upd_same, .nil⟩ ?_ ?_ ?_
        · rintro i H' _ ⟨s4, _⟩
          exact SqL.of (s4 _ _ hR)
        · rintro i x H' hx ⟨s4, acc, hD, pr⟩
          have hi : i < us.length := by
            rcases Nat.lt_or_ge i us.length with z | z
            · exact z
            · rw [List.getElem?_eq_none (by omega)] at hx
              cases hx
          have hus : us[i]? = some us[i] := List.getElem?_eq_getElem hi
          have lacc : acc.length ≤ 1000 := by
            have := Paired.length pr
            rw [List.length_take] at this
            omega
          cases n with
          | zero =>
            rw [inn.1] at hi
            simp at hi
          | succ m =>
          obtain ⟨d', hd', hxd⟩ := paired_get (show Paired (fun x d => Da m H x d) us (inner d) from inn) i us[i] hus
          refine ⟨rfl, ?_⟩
          have sH : Same H H' := s13.trans s4
          have put : ∀ H'' y, Same H' H'' → MRow m H'' y d' → ∃ acc, H'' D = some (.lst acc) ∧ acc.length < sizeLine ∧ (Same H3 (upd H'' D (.lst (acc ++ [y]))) ∧ ∃ acc2, (upd H'' D (.lst (acc ++ [y]))) D = some (.lst acc2) ∧ Paired (MRow (m + 1 - 1) (upd H'' D (.lst (acc ++ [y])))) acc2 ((inner d).take (i + 1))) := fun H'' y s5 hy => by
            have hD5 := s5 _ _ hD
            refine ⟨acc, hD5, small1000 lacc, same_put (s4.trans s5) nD, acc ++ [y], upd_same, ?_⟩
            rw [List.take_add_one, hd']
            exact Paired.snoc (L2.Paired.mapP pr fun _ _ z => (MRow.same z s5).put hD5) (hy.put hD5)
          have fin : spMeas j [us[i]] H' (fun y H4 => ∃ acc, H4 D = some (.lst acc) ∧ acc.length < sizeLine ∧ (Same H3 (upd H4 D (.lst (acc ++ [y]))) ∧ ∃ acc2, (upd H4 D (.lst (acc ++ [y]))) D = some (.lst acc2) ∧ Paired (MRow (m + 1 - 1) (upd H4 D (.lst (acc ++ [y])))) acc2 ((inner d).take (i + 1)))) E0 :=
            ⟨us[i], m, d', by omega, rfl, hxd.mono sH (Nat.le_refl _), fun hg H'' s5 => put H'' .non s5 (.inr ⟨hg, rfl⟩), fun hg H'' t s5 ht => put H'' (.ref t) s5 (.inl ⟨hg, t, rfl, ht⟩)⟩
          rcases sub i x us[i] hx hus H' (fun y H4 => spMeas j [y] H4 (fun y H4 => ∃ acc, H4 D = some (.lst acc) ∧ acc.length < sizeLine ∧ (Same H3 (upd H4 D (.lst (acc ++ [y]))) ∧ ∃ acc2, (upd H4 D (.lst (acc ++ [y]))) D = some (.lst acc2) ∧ Paired (MRow (m + 1 - 1) (upd H4 D (.lst (acc ++ [y])))) acc2 ((inner d).take (i + 1)))) E0) sH fin with z | z
          · exact .inl ⟨_, rfl, _, rfl, z⟩
          · exact .inr ⟨_, rfl, _, rfl, z⟩
        · rintro H4 ⟨s4, acc, hD, pr⟩
          rw [← lus, linn, List.take_length] at pr
          have s14 : Same H H4 := s13.trans s4
          refine ⟨_, rfl, .none, (inner d).map (rowD (n - 1)), .non, .lst (SqL.of hD) (rows_dp pr), by decide +kernel, rows_shaped _ _, _, rfl, ?_⟩
          rw [rows_none]
          have ge := good_eq hn0 ht
          cases hall : (inner d).all (good (n - 1)) with
          | false => exact iteT (q0 (ge.trans hall) _ s14)
          | true =>
          have hg : ∀ x ∈ inner d, good (n - 1) x = true := List.all_eq_true.mp hall
          have lacc : acc.length = (inner d).length := Paired.length pr
          have l1 : (inner d).length ≤ 1000 := by omega
          refine iteF ⟨_, rfl, D, rfl, ⟨_, SqL.of hD⟩, fun D2 nD2 => ?_⟩
          refine lc_list (K := K) (a := D) (xs := acc) (fun i H' => Same H4 H' ∧ H' D2 = some (.lst ((((inner d).take i).map (cnt (n - 1))).map V.int))) ⟨same_new same_id nD2, by rw [upd_same]; rfl⟩ ?_ ?_ ?_
          · rintro i H' _ ⟨s5, _⟩
            exact SqL.of (s5 _ _ hD)
          · rintro i y H' hy ⟨s5, hD2⟩
            obtain ⟨x, hx, hr⟩ := paired_get pr i y hy
            obtain ⟨t, rfl, ht⟩ := hr.tup (hg x (List.mem_of_getElem? hx))
            refine ⟨rfl, _, rfl, t, _, 0, _, rfl, rfl, SqT.of (s5 _ _ ht), rfl, _, hD2, small1000 (by rw [List.length_map, List.length_map, List.length_take]; omega), same_put s5 nD2, ?_⟩
            rw [upd_same, List.take_add_one, hx]
            simp
          · rintro H5 ⟨s5, hD2⟩
            rw [lacc, List.take_length] at hD2
            have hD5 := s5 _ _ hD
            refine ⟨D2, _, rfl, SqL.of hD2, _, _, rfl, rfl, ?_⟩
            refine ⟨few (by show 1 ≤ 1000; decide), fun z nz => ⟨_, rfl, D, rfl, ⟨_, SqL.of ((upd_ne (ne_of_none hD5 nz)).trans hD5)⟩, fun D3 nD3 => ?_⟩⟩
            have s6 : Same H5 (upd H5 z (.lst [.int 0])) := same_new same_id nz
            have hz6 : (upd H5 z (.lst [.int 0])) z = some (.lst [.int 0]) := upd_same
            generalize upd H5 z (.lst [.int 0]) = H6 at s6 hz6 nD3 ⊢
            have s46 : Same H4 H6 := s5.trans s6
            refine lc_list (K := K) (a := D) (xs := acc) (fun i H' => Same H6 H' ∧ H' D3 = some (.lst ((((inner d).take i).map (dep (n - 1))).map V.int))) ⟨same_new same_id nD3, by rw [upd_same]; rfl⟩ ?_ ?_ ?_
            · rintro i H' _ ⟨s7, _⟩
              exact SqL.of (s7 _ _ (s46 _ _ hD))
            · rintro i y H' hy ⟨s7, hD3⟩
              obtain ⟨x, hx, hr⟩ := paired_get pr i y hy
              obtain ⟨t, rfl, ht⟩ := hr.tup (hg x (List.mem_of_getElem? hx))
              refine ⟨rfl, _, rfl, t, _, 1, _, rfl, rfl, SqT.of (s7 _ _ (s46 _ _ ht)), rfl, _, hD3, small1000 (by rw [List.length_map, List.length_map, List.length_take]; omega), same_put s7 nD3, ?_⟩
              rw [upd_same, List.take_add_one, hx]
              simp
            · rintro H7 ⟨s7, hD3⟩
              rw [lacc, List.take_length] at hD3
              refine ⟨z, D3, _, _, rfl, rfl, s7 _ _ hz6, hD3, (by have := small1000 l1; simp only [List.length_map, List.length_cons, List.length_nil]; omega), fun p np => ?_⟩
              have s8 := same_new (u := .lst ([.int 0] ++ ((inner d).map (dep (n - 1))).map V.int)) ((s14.trans s46).trans s7) np
              refine ⟨p, 0 :: (inner d).map (dep (n - 1)), rfl, SqL.of upd_same, by simp, fun m hm hle => ⟨_, _, rfl, rfl, few (by show 2 ≤ 1000; decide), fun t' nt' => ?_⟩⟩
              have em : m = mx ((inner d).map (dep (n - 1))) := by
                have z := mx_of (xs := 0 :: (inner d).map (dep (n - 1))) (fun y hy => ?_) hm hle
                · rw [z]
                  show (if 0 ≤ mx _ then _ else _) = _
                  rw [if_pos (mx_0 _)]
                · rcases List.mem_cons.mp hy with rfl | hy
                  · exact Int.le_refl _
                  · obtain ⟨x, _, rfl⟩ := List.mem_map.mp hy
                    have := dep_pos (n - 1) x
                    omega
              refine q1 (ge.trans hall) _ t' (same_new s8 nt') ?_
              rw [upd_same, cnt_eq hn0, dep_eq hn0, ← em]
end
end Toy


namespace Toy
open PySem PySem.Spec L2 PyProof.Rows PySem.W
/-! ### how many parts -/
def CB (c : Int) (d : D) : Prop := ∀ j, cnt j d ≤ c
theorem CB.mono {c e : Int} {d : D} (h : CB c d) (k : c ≤ e) : CB e d := fun j => Int.le_trans (h j) k
theorem cb_leaf {d : D} (h : inner d = []) : CB 1 d := fun j => by rw [cnt_leaf h]; exact Int.le_refl _
theorem cb_of {d : D} {c : Int} (h0 : 0 ≤ c) (h : ∀ j, ((inner d).map (cnt j)).sum ≤ c) : CB (1 + c) d := fun j => by
  cases j with
  | zero =>
    show (1 : Int) ≤ 1 + c
    omega
  | succ j =>
    have := h j
    rw [cnt]
    omega
theorem perm_sum {f : D → Int} {as bs : List D} (h : as.Perm bs) : (as.map f).sum = (bs.map f).sum := by
  induction h with
  | nil => rfl
  | cons x _ ih => simp only [List.map_cons, List.sum_cons, ih]
  | swap x y l => simp only [List.map_cons, List.sum_cons]; omega
  | trans _ _ a b => exact a.trans b
theorem map_look : ∀ {ks : List Str} {ds : List D}, ks.Nodup → ds.length = ks.length → ks.map (look ks ds) = ds
  | [], [], _, _ => rfl
  | [], _ :: _, _, h => by simp at h
  | _ :: _, [], _, h => by simp at h
  | k :: ks, d :: ds, nd, h => by
    have nd' := List.nodup_cons.mp nd
    have ih := map_look (ks := ks) (ds := ds) nd'.2 (by simpa using h)
    rw [List.map_cons, look, if_pos rfl]
    refine congrArg (d :: ·) (Eq.trans (List.map_congr_left fun x hx => ?_) ih)
    rw [look, if_neg (fun e => nd'.1 (by rw [e]; exact hx))]
theorem inner_perm {ks : List Str} {ds : List D} (nd : ks.Nodup) (hl : ds.length = ks.length) : (inner (.dct ks ds)).Perm ds := by
  have h := (skeys_perm ks).map (look ks ds)
  rw [map_look nd hl] at h
  exact h
theorem sum_le {c : Int} (h0 : 0 ≤ c) : ∀ {n : Nat} {l : List Int}, l.length ≤ n → (∀ x ∈ l, x ≤ c) → l.sum ≤ (n : Int) * c
  | n, [], _, _ => by
    show (0 : Int) ≤ _
    exact Int.mul_nonneg (by omega) h0
  | 0, _ :: _, h, _ => by simp at h
  | n + 1, x :: l, h, k => by
    have ih := sum_le h0 (n := n) (l := l) (by simpa using h) fun y hy => k y (List.mem_cons_of_mem _ hy)
    have hx := k x List.mem_cons_self
    have e : ((n + 1 : Nat) : Int) * c = (n : Int) * c + c := by push_cast; rw [Int.add_mul, Int.one_mul]
    rw [List.sum_cons, e]
    omega
theorem sum_set_le {c u : Int} (h0 : 0 ≤ c) : ∀ {n i : Nat} {l : List Int}, l.length ≤ n + 1 → i < l.length → (∀ x ∈ l, x ≤ c) → (l.set i u).sum ≤ (n : Int) * c + u
  | _, _, [], _, h, _ => by simp at h
  | n, 0, x :: l, h, _, k => by
    have ih := sum_le h0 (n := n) (l := l) (by simpa using h) fun y hy => k y (List.mem_cons_of_mem _ hy)
    show (u :: l).sum ≤ _
    rw [List.sum_cons]
    omega
  | 0, i + 1, x :: l, h, hi, k => by
    simp only [List.length_cons] at h hi
    omega
  | n + 1, i + 1, x :: l, h, hi, k => by
    have ih := sum_set_le (u := u) h0 (n := n) (i := i) (l := l) (by simpa using h) (by simpa using hi) fun y hy => k y (List.mem_cons_of_mem _ hy)
    have hx := k x List.mem_cons_self
    have e : ((n + 1 : Nat) : Int) * c = (n : Int) * c + c := by push_cast; rw [Int.add_mul, Int.one_mul]
    show (x :: l.set i u).sum ≤ _
    rw [List.sum_cons, e]
    omega
def cW : Nat → Int
  | 0 => 1
  | m + 1 => 1 + 3 * cW m
theorem cW_pos : ∀ m, 1 ≤ cW m
  | 0 => Int.le_refl _
  | m + 1 => by
    have := cW_pos m
    rw [cW]
    omega
theorem cb_sum {c : Int} (h0 : 0 ≤ c) {ds : List D} (hl : ds.length ≤ 3) (h : ∀ x ∈ ds, CB c x) (j : Nat) : (ds.map (cnt j)).sum ≤ 3 * c := by
  refine sum_le (n := 3) h0 (by rw [List.length_map]; exact hl) fun x hx => ?_
  obtain ⟨d, hd, rfl⟩ := List.mem_map.mp hx
  exact h d hd j
theorem cb_W {H : Hp} : ∀ {m : Nat} {v : V} {d : D}, Da m H v d → W m d → CB (cW m) d := by
  intro m
  induction m with
  | zero =>
    intro v d hd hw
    cases d with
    | lst ds => exact False.elim hw
    | dct ks ds => exact False.elim hw
    | _ => exact cb_leaf rfl
  | succ m ih =>
    intro v d hd hw
    have c1 := cW_pos m
    have leaf : inner d = [] → CB (cW (m + 1)) d := fun e => (cb_leaf e).mono (cW_pos _)
    cases d with
    | lst ds =>
      simp only [Da] at hd
      obtain ⟨a, xs, rfl, h2, h3, h4⟩ := hd
      refine cb_of (by omega) (cb_sum (ds := ds) (by omega) hw.1 fun x hx => ?_)
      obtain ⟨i, hi, rfl⟩ := List.getElem_of_mem hx
      have hi2 : i < xs.length := by
        have := Paired.length h4
        omega
      obtain ⟨d', hd', r⟩ := paired_get h4 i xs[i] (List.getElem?_eq_getElem hi2)
      rw [List.getElem?_eq_getElem hi] at hd'
      obtain rfl := Option.some.inj hd'
      exact ih r (hw.2 _ hx)
    | dct ks ds =>
      simp only [Da] at hd
      obtain ⟨a, us, rfl, h2, h3, h4, h5, h6, h7⟩ := hd
      have hl : ds.length = ks.length := by
        have := Paired.length h7
        omega
      refine cb_of (by omega) fun j => ?_
      rw [perm_sum (inner_perm h5 hl)]
      refine cb_sum (by omega) hw.1 (fun x hx => ?_) j
      obtain ⟨i, hi, rfl⟩ := List.getElem_of_mem hx
      have hi2 : i < us.length := by omega
      obtain ⟨d', hd', r⟩ := paired_get h7 i us[i] (List.getElem?_eq_getElem hi2)
      rw [List.getElem?_eq_getElem hi] at hd'
      obtain rfl := Option.some.inj hd'
      exact ih r (hw.2 _ hx)
    | _ => exact leaf rfl
theorem wd_w : ∀ {m : Nat} {d : D}, Wd m d → W m d := by
  intro m
  induction m with
  | zero =>
    intro d h
    cases d with
    | lst ds => exact False.elim h
    | dct ks ds => exact False.elim h
    | _ => trivial
  | succ m ih =>
    intro d h
    cases d with
    | lst ds => exact ⟨h.1, fun x hx => ih (h.2 x hx)⟩
    | dct ks ds => exact ⟨h.1, fun x hx => ih (h.2 x hx)⟩
    | _ => trivial
theorem wd_plain {m : Nat} {d : D} (h : Wd m d) : plain d := by
  cases d with
  | tup => cases m <;> exact h
  | odd => cases m <;> exact h
  | _ => trivial
/-- a part put in, m levels down -/
def cP : Nat → Int
  | 0 => 40
  | m + 1 => 1 + (2 * cW m + cP m)
theorem cP_ge : ∀ m, 40 ≤ cP m
  | 0 => Int.le_refl _
  | m + 1 => by
    have := cP_ge m
    have := cW_pos m
    rw [cP]
    omega
theorem cb_set {m i : Nat} {ds : List D} {u : D} (hl : ds.length ≤ 3) (hi : i < ds.length) (h : ∀ x ∈ ds, CB (cW m) x) (hu : CB (cP m) u) (j : Nat) : ((ds.set i u).map (cnt j)).sum ≤ 2 * cW m + cP m := by
  rw [List.map_set]
  have c1 := cW_pos m
  have z := sum_set_le (c := cW m) (u := cnt j u) (by omega) (n := 2) (i := i) (l := ds.map (cnt j)) (by rw [List.length_map]; omega) (by rw [List.length_map]; exact hi) fun x hx => by
    obtain ⟨d, hd, rfl⟩ := List.mem_map.mp hx
    exact h d hd j
  have := hu j
  have e : ((2 : Nat) : Int) = 2 := rfl
  rw [e] at z
  omega
theorem cb_put_lst {m i : Nat} {ds : List D} {u : D} (hl : ds.length ≤ 3) (hi : i < ds.length) (h : ∀ x ∈ ds, CB (cW m) x) (hu : CB (cP m) u) : CB (cP (m + 1)) (.lst (ds.set i u)) := by
  have := cW_pos m
  have := cP_ge m
  exact cb_of (by omega) (cb_set hl hi h hu)
theorem cb_put_dct {m i : Nat} {ks : List Str} {ds : List D} {u : D} (nd : ks.Nodup) (hk : ds.length = ks.length) (hl : ds.length ≤ 3) (hi : i < ds.length) (h : ∀ x ∈ ds, CB (cW m) x) (hu : CB (cP m) u) : CB (cP (m + 1)) (.dct ks (ds.set i u)) := by
  have := cW_pos m
  have := cP_ge m
  refine cb_of (by omega) fun j => ?_
  rw [perm_sum (inner_perm nd (by rw [List.length_set]; exact hk))]
  exact cb_set hl hi h hu j
theorem dep_le : ∀ (n : Nat) (d : D), dep n d ≤ (n : Int) + 1
  | 0, _ => by show (1 : Int) ≤ _; omega
  | n + 1, d => by
    have z := (mx_le (xs := (inner d).map (dep n)) (b := (n : Int) + 1) (by omega)).mpr fun y hy => by
      obtain ⟨x, _, rfl⟩ := List.mem_map.mp hy
      exact dep_le n x
    rw [dep]
    push_cast
    omega
theorem bnd_good {n : Nat} {d : D} (hn : n ≤ 20) (h : CB 1000 d) : bnd n d = good n d := by
  have h1 := dep_le n d
  have h2 := h n
  unfold bnd
  rw [decide_eq_true (by omega), decide_eq_true h2]
  simp
end Toy


namespace Toy
open PySem PySem.Spec L2 PyProof.Rows PySem.W
abbrev sPut : Stmt := top 32
/-! rows of steps -/
def stepsP : D → List PyData
  | .lst ds => (List.range ds.length).map fun i => PyData.int (i : Nat)
  | .dct ks _ => (skeys ks).map PyData.str
  | _ => []
theorem dpInts {K : PySem.W.Frag} {H : Hp} : ∀ l : List Nat, DpAll K H (l.map fun i => V.int (i : Nat)) (l.map fun i => PyData.int (i : Nat))
  | [] => .nil
  | i :: l => .cons (.int _) (dpInts l)
theorem steps_dp {K : PySem.W.Frag} {H : Hp} (d : D) : DpAll K H (stepsV d) (stepsP d) := by
  cases d with
  | lst ds => exact dpInts _
  | dct ks ds => exact dpStrs _
  | _ => exact .nil
theorem layInts : ∀ l : List Nat, PyData.canLayAll0 (l.map fun i => PyData.int (i : Nat)) = true
  | [] => by simp [PyData.canLayAll0]
  | i :: l => by
    simp only [List.map_cons, PyData.canLayAll0, PyData.canLay0]
    rw [layInts l]
    rfl
theorem depthInts : ∀ l : List Nat, PyData.depthAll (l.map fun i => PyData.int (i : Nat)) ≤ 1
  | [] => by simp [PyData.depthAll]
  | i :: l => by
    have := depthInts l
    simp only [List.map_cons, PyData.depthAll, PyData.depth]
    omega
theorem shapedInts (l : List Nat) : SeqAt.shaped (.list (l.map fun i => PyData.int (i : Nat))) = true := by
  unfold SeqAt.shaped
  have z := depthInts l
  rw [show (PyData.list (l.map fun i => PyData.int (i : Nat))).canLay0 = true by simp only [PyData.canLay0]; exact layInts l, Bool.true_and]
  exact decide_eq_true (by simp only [PyData.depth]; omega)
theorem steps_shaped {n : Nat} {H : Hp} {v : V} {d : D} (h : Da n H v d) : SeqAt.shaped (.list (stepsP d)) = true := by
  cases d with
  | lst ds => exact shapedInts _
  | dct ks ds =>
    cases n with
    | zero => simp only [Da] at h
    | succ n =>
      simp only [Da] at h
      obtain ⟨a, us, _, _, _, _, _, hok, _⟩ := h
      exact shapedStrs fun k hk => okK_1 (hok k ((skeys_perm ks).mem_iff.mp hk))
  | _ => exact shapedInts []
theorem stepsPV (d : D) : (stepsP d).isEmpty = (stepsV d).isEmpty := by
  cases d with
  | lst ds =>
    simp only [stepsP, stepsV]
    generalize List.range ds.length = l
    cases l <;> rfl
  | dct ks ds => simp [stepsP, stepsV]
  | _ => rfl
theorem paired_set {α β : Type} {R : α → β → Prop} {y : α} {z : β} : ∀ {xs : List α} {ds : List β} (i : Nat), Paired R xs ds → R y z → Paired R (xs.set i y) (ds.set i z)
  | _, _, _, .nil, _ => .nil
  | _, _, 0, .cons r t, h => .cons h t
  | _, _, i + 1, .cons r t, h => .cons r (paired_set i t h)
theorem map_same {ks : List Str} {k : Str} {y : V} (h : k ∉ ks) : ∀ us : List V, (kvOf ks us).map (fun kv => if kv.1 = (Sum.inr k : Key) then (kv.1, y) else kv) = kvOf ks us := by
  intro us
  refine (List.map_congr_left fun p hp => ?_).trans (List.map_id _)
  unfold kvOf at hp
  obtain ⟨q, hq, rfl⟩ := List.mem_map.mp hp
  have := (List.of_mem_zip hq).1
  exact if_neg fun z => h (by rw [← Sum.inr.inj z]; exact this)
theorem map_set {k : Str} {y : V} : ∀ {ks : List Str} {us : List V} {i : Nat}, ks.Nodup → ks[i]? = some k → (kvOf ks us).map (fun kv => if kv.1 = (Sum.inr k : Key) then (kv.1, y) else kv) = kvOf ks (us.set i y)
  | [], _, i, _, h => by simp at h
  | k' :: ks, [], i, _, _ => by simp [kvOf]
  | k' :: ks, u :: us, 0, nd, h => by
    have e : k' = k := by simpa using h
    subst e
    have z := map_same (y := y) (List.nodup_cons.mp nd).1 us
    have h1 : kvOf (k' :: ks) (u :: us) = (Sum.inr k', u) :: kvOf ks us := rfl
    have h2 : kvOf (k' :: ks) ((u :: us).set 0 y) = (Sum.inr k', y) :: kvOf ks us := rfl
    rw [h1, h2, List.map_cons, z, if_pos rfl]
  | k' :: ks, u :: us, i + 1, nd, h => by
    have h' : ks[i]? = some k := by simpa using h
    have ne : k' ≠ k := fun z => (List.nodup_cons.mp nd).1 (by rw [z]; exact List.mem_of_getElem? h')
    have h1 : kvOf (k' :: ks) (u :: us) = (Sum.inr k', u) :: kvOf ks us := rfl
    have h2 : kvOf (k' :: ks) ((u :: us).set (i + 1) y) = (Sum.inr k', u) :: kvOf ks (us.set i y) := rfl
    rw [h1, h2, List.map_cons, map_set (List.nodup_cons.mp nd).2 h', if_neg (fun z => ne (Sum.inr.inj z))]
theorem put_set {ks : List Str} {us : List V} {i : Nat} {k : Str} {y : V} (nd : ks.Nodup) (hk : ks[i]? = some k) (hl : us.length = ks.length) : putK (kvOf ks us) (Sum.inr k) y = kvOf ks (us.set i y) := by
  have hm : (Sum.inr k : Key) ∈ (kvOf ks us).map (·.1) := by
    rw [kv_keys hl]
    exact List.mem_map.mpr ⟨k, List.mem_of_getElem? hk, rfl⟩
  unfold putK
  rw [if_pos, map_set nd hk]
  rw [List.any_eq_true]
  obtain ⟨p, hp, e⟩ := List.mem_map.mp hm
  exact ⟨p, hp, decide_eq_true e⟩
theorem merge_put {ks : List Str} {us : List V} {i : Nat} {k : Str} {y : V} (nd : ks.Nodup) (hk : ks[i]? = some k) (hl : us.length = ks.length) : mergeK [] (kvOf ks us ++ [(Sum.inr k, y)]) = kvOf ks (us.set i y) := by
  have e : mergeK [] (kvOf ks us ++ [(Sum.inr k, y)]) = putK (mergeK [] (kvOf ks us)) (Sum.inr k) y := by
    unfold mergeK
    rw [List.foldl_append]
    rfl
  have e2 : mergeK [] (kvOf ks us) = kvOf ks us := by
    refine merge_new _ [] ?_
    rw [List.nil_append, kv_keys hl]
    exact List.Pairwise.map _ (fun a b h z => h (Sum.inr.inj z)) nd
  rw [e, e2, put_set nd hk hl]
theorem cut_head {xs : List V} {i : Nat} (h : i ≤ xs.length) : cutV xs none (some (i : Int)) = xs.take i := by
  unfold cutV
  rw [show HT.sIx xs.length xs.length (some (i : Int)) = min i xs.length from HT.sIx_nat _ _ i, HT.sIx_none, List.drop_zero, Nat.sub_zero, Nat.min_eq_left h]
theorem cut_tail {xs : List V} {i : Nat} (h : i ≤ xs.length) : cutV xs (some (i : Int)) none = xs.drop i := by
  unfold cutV
  rw [show HT.sIx xs.length 0 (some (i : Int)) = min i xs.length from HT.sIx_nat _ _ i, HT.sIx_none, Nat.min_eq_left h]
  exact List.take_of_length_le (by rw [List.length_drop]; exact Nat.le_refl _)
theorem set_cut {α : Type} {xs : List α} {i : Nat} {u : α} (h : i < xs.length) : xs.take i ++ [u] ++ xs.drop (i + 1) = xs.set i u := by
  rw [List.set_eq_take_append_cons_drop, if_pos h]
  simp
end Toy


namespace Toy
open PySem PySem.Spec L2 PyProof.Rows PySem.W
theorem Da.off {H : Hp} {z : Addr} {n : Nat} {v : V} {t : D} (h : Da n (delH H z) v t) : Da n H v t := h.mono (Same.off z) (Nat.le_refl _)
/-- of a datum of at most m levels, with a part put in -/
def spPut (j : Nat) : Sp := fun vs H Q _ => ∃ (d l : Addr) (n m : Nat) (v pw : V) (dt pd : D), m < j ∧ m ≤ 10 ∧ vs = [.ref d, v, pw] ∧ Tape H d l n ∧ n + 2 * m ≤ 900000 ∧ Da m (delH H d) v dt ∧ Wd m dt ∧ Da 3 (delH H d) pw pd ∧ CB 40 pd ∧
  ∀ H' u ut, But d H H' → Tape H' d l (n + 2 * m) → Da (m + 3) (delH H' d) u ut → CB (cP m) ut → Q u H'
abbrev NPu : List Str := ["_law_tape", "_law_datum_here", "_law_part", "_law_step"]
theorem wd_inner {m : Nat} {H : Hp} {v : V} {d : D} (hd : Da m H v d) (hw : Wd m d) (h : stepsV d ≠ []) : ∃ m', m = m' + 1 := by
  cases m with
  | zero =>
    cases d with
    | lst ds => exact False.elim hw
    | dct ks ds => exact False.elim hw
    | _ => exact absurd rfl h
  | succ m => exact ⟨m, rfl⟩
theorem parts_cb {m : Nat} {H : Hp} : ∀ {xs : List V} {ds : List D}, Paired (fun x d => Da m H x d) xs ds → (∀ x ∈ ds, Wd m x) → ∀ x ∈ ds, CB (cW m) x
  | _, _, .nil, _, x, h => by simp at h
  | _, _, .cons r t, w, x, h => by
    rcases List.mem_cons.mp h with rfl | h
    · exact cb_W r (wd_w (w _ List.mem_cons_self))
    · exact parts_cb t (fun y hy => w y (List.mem_cons_of_mem _ hy)) x h
theorem at_del {H : Hp} {d a : Addr} {o : HO} (h : delH H d a = some o) : a ≠ d ∧ H a = some o := by
  by_cases e : a = d
  · rw [e, delH_same] at h
    cases h
  · rw [delH_ne e] at h
    exact ⟨e, h⟩
theorem mapM {α β : Type} {R S : α → β → Prop} : ∀ {xs : List α} {ys : List β}, Paired R xs ys → (∀ x y, x ∈ xs → R x y → S x y) → Paired S xs ys
  | _, _, .nil, _ => .nil
  | _, _, .cons r t, h => .cons (h _ _ List.mem_cons_self r) (mapM t fun x y hx => h x y (List.mem_cons_of_mem _ hx))
theorem look_mem : ∀ {ks : List Str} {ds : List D} {k : Str}, k ∈ ks → ds.length = ks.length → look ks ds k ∈ ds
  | [], _, k, h, _ => by simp at h
  | _ :: _, [], _, _, h => by simp at h
  | k' :: ks, d :: ds, k, h, hl => by
    unfold look
    by_cases e : k' = k
    · rw [if_pos e]
      exact List.mem_cons_self
    · rw [if_neg e]
      refine List.mem_cons_of_mem _ (look_mem ?_ (by simpa using hl))
      rcases List.mem_cons.mp h with z | z
      · exact absurd z.symm e
      · exact z
section
variable {P : Program} {w : World} {K : PySem.W.Frag} {mg : Str → Option Value} {base : Heap}
theorem scPu : FnScope NPu ["_law_tape", "_law_datum_here", "_law_part"] (defScope sPut) := ⟨rfl, rfl, rfl, by decide +kernel, rfl, by decide +kernel, by decide +kernel⟩
theorem ok_put {f fL fD fP : Addr} {fd fdL fdD fdP : FuncData} (F : Fun K "_law_put_deep" "_law_put_deep" sPut f fd) (GL : FnOk P w K mg base CX0 1 fL fdL ["_law_datum_here"] spSteps) (mL : mg "_law_keys" = some (.ref fL)) (kL : PySem.W.keepIn K (.ref fL) = true) (bL : Binds K fdL ["_law_datum_here"] [])
    (GD : FnOk P w K mg base CX0 1 fD fdD ["_law_tape", "_law_many"] spDraw) (mD : mg "_law_draw" = some (.ref fD)) (kD : PySem.W.keepIn K (.ref fD) = true) (bD : Binds K fdD ["_law_tape", "_law_many"] [])
    (GP : FnOk P w K mg base CX0 2 fP fdP ["_law_tape", "_law_items"] spPick) (mP : mg "_law_pick" = some (.ref fP)) (kP : PySem.W.keepIn K (.ref fP) = true) (bP : Binds K fdP ["_law_tape", "_law_items"] [])
    (mF : mg "_law_put_deep" = some (.ref f)) (kF : PySem.W.keepIn K (.ref f) = true) (bF : Binds K fd ["_law_tape", "_law_datum_here", "_law_part"] []) (mI : mg "isinstance" = none) (mLi : mg "list" = none) (mDi : mg "dict" = none) : ∀ j : Nat, FnOk P w K mg base CX0 (j + 3) f fd ["_law_tape", "_law_datum_here", "_law_part"] (spPut j) := by
  intro j
  induction j with
  | zero => exact F.ok (k := 2) scPu (fun vs H Q E h => by obtain ⟨d, l, n, m, v, pw, dt, pd, h0, _⟩ := h; exact absurd h0 (Nat.not_lt_zero _)) (fun cdv A outer s H vs Q E hr h => by obtain ⟨d, l, n, m, v, pw, dt, pd, h0, _⟩ := h; exact absurd h0 (Nat.not_lt_zero _))
  | succ j ih =>
    refine F.ok (k := j + 3) scPu (fun vs H Q E h => ?_) (fun cdv A outer s H vs Q E hr h => ?_)
    · obtain ⟨d, l, n, m, v, pw, dt, pd, _, _, rfl, _⟩ := h
      rfl
    · obtain ⟨d, l, n, m, v, pw, dt, pd, hmj, hm10, rfl, hT, hn, hd, hw, hp, hcp, q⟩ := h
      have hr1 : Room 1 _ := hr.mono (show 1 ≤ j + 3 by omega)
      have hr2 : Room 2 _ := hr.mono (show 2 ≤ j + 3 by omega)
      have hu := hu_of hr
      refine ⟨_, pss_cons (ps_if (PW.pt (pw_or (pt_cmpR (op_eqD hr.units) (pe_call GL hr1 (by rfl) mL kL bL .nil pass0 (pa_cons (pv 1) pa_nil)) (pe_lst pa_nil) (nomark _)) (pw_or1 (pt_cmpR op_eq (pe_call GD hr1 (by rfl) mD kD bD .nil pass0 (pa_cons (pv 0) (pa_cons pe_int pa_nil))) pe_int (nomark _))))) (pss_one (ps_ret (pv 2))) pss_nil)
        (pss_cons (ps_set (i := 3) scPu.nd rfl (Or.inl rfl) (pe_call GP hr2 (by rfl) mP kP bP .nil pass0 (pa_cons (pv 0) (pa_cons (pe_call GL hr1 (by rfl) mL kL bL .nil pass0 (pa_cons (pv 1) pa_nil)) pa_nil))))
        (pss_cons (ps_if (pt_val (pe_callB call_isi (by rfl) mI PyProof.Rows.boot_isinstance (pa_cons (pv 1) (pa_cons (pe_bltn (v := .ty "list") (by rfl) mLi (by decide +kernel) rfl) pa_nil))))
          (pss_one (ps_ret (pe_op op_cat (pe_op op_cat (pe_slice sl_list (pv 1) po_none (po_some (pv 3))) (pe_lst (pa_cons (pe_call ih hr (by rfl) mF kF bF .nil pass0 (pa_cons (pv 0) (pa_cons (pe_ix ix_list (pv 1) (pv 3) (fun _ _ => rfl)) (pa_cons (pv 2) pa_nil)))) pa_nil)))
            (pe_slice sl_list (pv 1) (po_some (pe_op op_add (pv 3) pe_int)) po_none)))) pss_nil)
        (pss_one (ps_ret (pe_callTy (call_dictP rfl) (by rfl) mDi (by decide +kernel) (pa_cons (pe_op op_cat (LiI.pe_listItems rfl (pv 1) (by rfl) mLi (by decide +kernel)) (pe_lst (pa_cons (pe_tup (pa_cons (pv 3) (pa_cons (pe_call ih hr (by rfl) mF kF bF .nil pass0 (pa_cons (pv 0) (pa_cons (pe_dget hu (pv 1) (pv 3) (fun _ _ => rfl)) (pa_cons (pv 2) pa_nil)))) pa_nil))) pa_nil))) pa_nil)))))), ?_⟩
      have hpl := wd_plain hw
      have cpm := cP_ge m
      obtain ⟨od, hod⟩ := hT.at.1
      refine ⟨_, rfl, v, m, dt, rfl, hd.off, hpl, fun H1 R s1 nR hR => ⟨Nat.zero_le _, fun e ne => ?_⟩⟩
      have s2 := same_new (u := .lst []) s1 ne
      have hR2 : (upd H1 e (.lst [])) R = some (.lst (stepsV dt)) := (upd_ne (ne_of_none hR ne)).trans hR
      have he2 : (upd H1 e (.lst [])) e = some (.lst []) := upd_same
      generalize upd H1 e (.lst []) = H2 at s2 hR2 he2 ⊢
      refine ⟨.list (stepsP dt), .list [], .lst (SqL.of hR2) (steps_dp dt), .lst (SqL.of he2) .nil, steps_shaped hd, by decide +kernel, _, rfl, ?_⟩
      rw [eqv_nil, stepsPV]
      cases hem : (stepsV dt).isEmpty with
      | true =>
        refine iteT (iteT ⟨_, rfl, q H2 pw pd (Same.but s2 d) ((hT.same s2).more (by omega)) ?_ (hcp.mono cpm)⟩)
        exact hp.mono (Same.delH s2 d) (by omega)
      | false =>
      have hne : stepsV dt ≠ [] := fun e => by rw [e] at hem; cases hem
      obtain ⟨m', rfl⟩ := wd_inner hd hw hne
      refine iteF ⟨_, rfl, d, l, n, 4, rfl, hT.same s2, by omega, by decide, by decide, fun H3 r b3 t3 r0 r4 => ?_⟩
      have b13 : But d H H3 := (Same.but s2 d).trans b3
      refine ⟨rfl, _, rfl, ite2 (fun c => ?_) (fun c => ?_)⟩
      · exact ⟨_, rfl, q H3 pw pd b13 (t3.more (by omega)) (hp.mono (But.off b13) (by omega)) (hcp.mono cpm)⟩
      have hd3 := hd.mono (But.off b13) (Nat.le_refl _)
      refine ⟨_, rfl, _, rfl, v, m' + 1, dt, rfl, hd3.off, hpl, fun H4 R4 s4 nR4 hR4 => ?_⟩
      obtain ⟨us, inn, lus, l1000, _⟩ := sub_read (K := K) hd
      refine ⟨d, l, R4, n + 1, stepsV dt, rfl, t3.same s4, by omega, hR4, hne, by omega, fun H5 x b5 t5 hx => ?_⟩
      have b15 : But d H H5 := (b13.trans (Same.but s4 d)).trans b5
      have hd5 := hd.mono (But.off b15) (Nat.le_refl _)
      have hp5 := hp.mono (But.off b15) (Nat.le_refl 3)
      have hod5 := t5.at.1
      cases dt with
      | lst ds =>
        simp only [Da] at hd5
        obtain ⟨a, xs, rfl, ha, hl3, pr⟩ := hd5
        obtain ⟨nad, ha5⟩ := at_del ha
        obtain ⟨i, hi, rfl⟩ : ∃ i, i < ds.length ∧ x = V.int ((i : Nat) : Int) := by
          simp only [stepsV, List.mem_map, List.mem_range] at hx
          obtain ⟨i, h1, h2⟩ := hx
          exact ⟨i, h1, h2.symm⟩
        have lxs : xs.length = ds.length := Paired.length pr
        have hw3 : ds.length ≤ 3 ∧ ∀ x ∈ ds, Wd m' x := hw
        have hxi : xs[i]? = some xs[i] := List.getElem?_eq_getElem (by omega)
        obtain ⟨di, hdi, hxd⟩ := paired_get pr i _ hxi
        have ty : TyX K H5 (V.ref a) (.type "list") := .base (.lst ha5)
        refine ⟨_, rfl, _, _, _, _, true, rfl, .ty _, ty, kit_ty (by decide +kernel), _, rfl, iteT ⟨_, rfl, _, rfl, (i : Int), rfl, a, xs, rfl, SqL.of ha5, fun A nA => ?_⟩⟩
        rw [cut_head (by omega)]
        have s6 : Same H5 (upd H5 A (.lst (xs.take i))) := same_new same_id nA
        have hA6 : (upd H5 A (.lst (xs.take i))) A = some (.lst (xs.take i)) := upd_same
        have nAd : A ≠ d := by
          obtain ⟨o, ho⟩ := hod5
          exact (ne_of_none ho nA).symm
        generalize upd H5 A (.lst (xs.take i)) = H6 at s6 hA6 ⊢
        refine ⟨_, rfl, _, rfl, _, rfl, a, xs, (i : Int), xs[i], rfl, rfl, SqL.of (s6 _ _ ha5), atI_nat hxi, _, rfl, d, l, n + 2, m', xs[i], pw, di, pd, by omega, by omega, rfl, t5.same s6, by omega, hxd.mono (Same.delH s6 d) (Nat.le_refl _), hw3.2 _ (List.mem_of_getElem? hdi), hp5.mono (Same.delH s6 d) (Nat.le_refl _), hcp, fun H7 u ut b7 t7 hu7 cu => ?_⟩
        have b57 : But d H5 H7 := (Same.but s6 d).trans b7
        refine ⟨few (by show 1 ≤ 1000; decide), fun B nB => ⟨A, B, xs.take i, [u], rfl, rfl, (upd_ne (ne_of_none (b7 _ _ nAd hA6) nB)).trans (b7 _ _ nAd hA6), upd_same, few (by rw [List.length_take, List.length_singleton]; omega), fun C nC => ?_⟩⟩
        have s8 : Same H7 (upd (upd H7 B (.lst [u])) C (.lst (xs.take i ++ [u]))) := same_new (same_new same_id nB) nC
        have hC8 : (upd (upd H7 B (.lst [u])) C (.lst (xs.take i ++ [u]))) C = some (.lst (xs.take i ++ [u])) := upd_same
        generalize upd (upd H7 B (.lst [u])) C (.lst (xs.take i ++ [u])) = H8 at s8 hC8 ⊢
        have b58 : But d H5 H8 := b57.trans (Same.but s8 d)
        refine ⟨_, rfl, _, rfl, _, _, rfl, rfl, (i : Int) + 1, rfl, a, xs, rfl, SqL.of (b58 _ _ nad ha5), fun E nE => ?_⟩
        rw [show cutV xs (some ((i : Int) + 1)) none = xs.drop (i + 1) from cut_tail (i := i + 1) (by omega)]
        refine ⟨C, E, xs.take i ++ [u], xs.drop (i + 1), rfl, rfl, (upd_ne (ne_of_none hC8 nE)).trans hC8, upd_same, few (by simp only [List.length_append, List.length_take, List.length_drop, List.length_singleton]; omega), fun R2 nR2 => ?_⟩
        rw [set_cut (by omega)]
        have s9 : Same H8 (upd (upd H8 E (.lst (xs.drop (i + 1)))) R2 (.lst (xs.set i u))) := same_new (same_new same_id nE) nR2
        have hR9 : (upd (upd H8 E (.lst (xs.drop (i + 1)))) R2 (.lst (xs.set i u))) R2 = some (.lst (xs.set i u)) := upd_same
        have nR2d : R2 ≠ d := by
          obtain ⟨o, ho⟩ := t7.at.1
          exact (ne_of_none ((same_new (u := .lst (xs.drop (i + 1))) s8 nE) _ _ ho) nR2).symm
        generalize upd (upd H8 E (.lst (xs.drop (i + 1)))) R2 (.lst (xs.set i u)) = H9 at s9 hR9 ⊢
        have s79 : Same H7 H9 := s8.trans s9
        have b59 : But d H5 H9 := b58.trans (Same.but s9 d)
        refine q H9 (.ref R2) (.lst (ds.set i ut)) (b15.trans b59) ((t7.same s79).more (by omega)) ?_ (cb_put_lst hw3.1 hi (parts_cb pr hw3.2) cu)
        rw [show m' + 1 + 3 = (m' + 3) + 1 by omega]
        simp only [Da]
        refine ⟨R2, xs.set i u, rfl, (delH_ne nR2d).trans hR9, by rw [List.length_set]; exact hl3, paired_set i (L2.Paired.mapP pr fun _ _ z => z.mono (But.off b59) (by omega)) (hu7.mono (Same.delH s79 d) (Nat.le_refl _))⟩
      | dct ks ds =>
        simp only [Da] at hd5
        obtain ⟨a, ws, rfl, ha, h20, lws, nd, hok, pr⟩ := hd5
        obtain ⟨nad, ha5⟩ := at_del ha
        obtain ⟨k, hkm, rfl⟩ : ∃ k, k ∈ ks ∧ x = V.str k := by
          simp only [stepsV, List.mem_map] at hx
          obtain ⟨k, h1, h2⟩ := hx
          exact ⟨k, (skeys_perm ks).mem_iff.mp h1, h2.symm⟩
        obtain ⟨i, hi, hki⟩ := List.getElem_of_mem hkm
        have hki' : ks[i]? = some k := by rw [List.getElem?_eq_getElem hi, hki]
        have lds : ds.length = ks.length := (Paired.length pr).symm.trans lws
        have hw3 : ds.length ≤ 3 ∧ ∀ x ∈ ds, Wd m' x := hw
        obtain ⟨y, hy, hyd⟩ := look_at pr lws k hkm
        have ty : TyX K H5 (V.ref a) (.type "dict") := .base (.dK ha5)
        refine ⟨_, rfl, _, _, _, _, false, rfl, .ty _, ty, kit_ty (by decide +kernel), _, rfl, iteF ⟨_, rfl, a, kvOf ks ws, rfl, ha5, fun H6 p ts s6 np nts npts hp6 pts => ?_⟩⟩
        have s6 : Same H5 H6 := s6
        have npd : p ≠ d := by
          obtain ⟨o, ho⟩ := hod5
          exact (ne_of_none ho np).symm
        have ntd : ∀ t ∈ ts, t ≠ d := fun t ht => by
          obtain ⟨o, ho⟩ := hod5
          exact (ne_of_none ho (nts t ht)).symm
        have hget := DGet.k (k := Sum.inr k) (s6 _ _ ha5)
        rw [hy] at hget
        refine ⟨_, rfl, _, rfl, _, rfl, _, rfl, a, y, rfl, hget, _, rfl, d, l, n + 2, m', y, pw, look ks ds k, pd, by omega, by omega, rfl, t5.same s6, by omega, hyd.mono (Same.delH s6 d) (Nat.le_refl _), hw3.2 _ (look_mem hkm lds), hp5.mono (Same.delH s6 d) (Nat.le_refl _), hcp, fun H7 u ut b7 t7 hu7 cu => ?_⟩
        have b57 : But d H5 H7 := (Same.but s6 d).trans b7
        have hp7 := b7 _ _ npd hp6
        have lts : ts.length = ks.length := by
          have e1 := Paired.length pts
          have e2 := congrArg List.length (kv_keys lws)
          simp only [List.length_map] at e2
          omega
        refine ⟨few (by show 2 ≤ 1000; decide), fun T nT => ⟨few (by show 1 ≤ 1000; decide), fun B nB => ?_⟩⟩
        have s8 : Same H7 (upd (upd H7 T (.tup [.str k, u])) B (.lst [.ref T])) := same_new (same_new same_id nT) nB
        have hT8 : (upd (upd H7 T (.tup [.str k, u])) B (.lst [.ref T])) T = some (.tup [.str k, u]) := (upd_ne (ne_of_none upd_same nB)).trans upd_same
        have hB8 : (upd (upd H7 T (.tup [.str k, u])) B (.lst [.ref T])) B = some (.lst [.ref T]) := upd_same
        generalize upd (upd H7 T (.tup [.str k, u])) B (.lst [.ref T]) = H8 at s8 hT8 hB8 ⊢
        refine ⟨p, B, ts.map V.ref, [.ref T], rfl, rfl, s8 _ _ hp7, hB8, few (by rw [List.length_map, List.length_singleton]; omega), fun C nC => ?_⟩
        have s9 : Same H8 (upd H8 C (.lst (ts.map V.ref ++ [.ref T]))) := same_new same_id nC
        have hC9 : (upd H8 C (.lst (ts.map V.ref ++ [.ref T]))) C = some (.lst ((ts ++ [T]).map V.ref)) := by
          rw [upd_same, List.map_append]
          rfl
        generalize upd H8 C (.lst (ts.map V.ref ++ [.ref T])) = H9 at s9 hC9 ⊢
        have s79 : Same H7 H9 := s8.trans s9
        refine ⟨C, ts ++ [T], kvOf ks ws ++ [(Sum.inr k, u)], rfl, SqL.of hC9, Paired.snoc (mapM pts fun t kv ht hh => SqT.of (s79 _ _ (b7 _ _ (ntd t ht) hh))) (SqT.of (s9 _ _ hT8)), fun e ne => ?_⟩
        rw [merge_put nd hki' lws]
        have s10 : Same H9 (upd H9 e (.dK (kvOf ks (ws.set i u)))) := same_new same_id ne
        have he10 : (upd H9 e (.dK (kvOf ks (ws.set i u)))) e = some (.dK (kvOf ks (ws.set i u))) := upd_same
        have ned : e ≠ d := by
          obtain ⟨o, ho⟩ := t7.at.1
          exact (ne_of_none (s79 _ _ ho) ne).symm
        generalize upd H9 e (.dK (kvOf ks (ws.set i u))) = H10 at s10 he10 ⊢
        have s710 : Same H7 H10 := s79.trans s10
        have b510 : But d H5 H10 := b57.trans (Same.but s710 d)
        refine q H10 (.ref e) (.dct ks (ds.set i ut)) (b15.trans b510) ((t7.same s710).more (by omega)) ?_ (cb_put_dct nd lds hw3.1 (by omega) (parts_cb pr hw3.2) cu)
        rw [show m' + 1 + 3 = (m' + 3) + 1 by omega]
        simp only [Da]
        refine ⟨e, ws.set i u, rfl, (delH_ne ned).trans he10, h20, by rw [List.length_set]; exact lws, nd, hok, paired_set i (L2.Paired.mapP pr fun _ _ z => z.mono (But.off b510) (by omega)) (hu7.mono (Same.delH s710 d) (Nat.le_refl _))⟩
      | _ => exact absurd rfl hne
end
end Toy


namespace L2
open PySem PySem.Spec PyProof.Rows
section
variable {X : Cx}
/-- repr of a truth -/
def rReB : List V → Hp → VK → Prop := fun xs H Q => ∃ b, xs = [.bl b] ∧ Q (.str (if b then "True" else "False")) H
theorem call_reB : CallR X (.builtin "repr") rReB := by
  intro pins s σ H xs us Q I r h
  obtain ⟨b, rfl, q⟩ := h
  obtain ⟨u, rfl, ru⟩ := vals1 r
  cases ru
  exact PySem.P.repr_of_bool ⟨.str _, H, I.tok _, ⟨_, rfl⟩, q⟩
end
end L2
namespace Toy
open PySem PySem.Spec L2 PyProof.Rows PySem.W
abbrev sNest : Stmt := top 33
def nest : Nat → D
  | 0 => .int 0
  | k + 1 => if k % 2 = 0 then .lst [nest k] else .dct ["a"] [nest k]
theorem skeys1 (k : Str) : skeys [k] = [k] := by
  unfold skeys
  exact List.mergeSort_singleton k
theorem inner_nest (k : Nat) : inner (nest (k + 1)) = [nest k] := by
  rw [nest]
  split
  · rfl
  · show (skeys ["a"]).map (look ["a"] [nest k]) = _
    rw [skeys1]
    show [look ["a"] [nest k] "a"] = _
    rw [look, if_pos rfl]
theorem nest_top (k : Nat) : okTop (nest k) = true := by
  cases k with
  | zero => decide
  | succ k =>
    rw [nest]
    split
    · rfl
    · show (["a"] : List Str).all nameOk = true
      decide +kernel
theorem nest_all : ∀ k : Nat, good k (nest k) = true ∧ dep k (nest k) = (k : Int) + 1 ∧ cnt k (nest k) = (k : Int) + 1
  | 0 => ⟨nest_top 0, rfl, rfl⟩
  | k + 1 => by
    obtain ⟨h1, h2, h3⟩ := nest_all k
    refine ⟨?_, ?_, ?_⟩
    · rw [good, nest_top, inner_nest]
      simp [h1]
    · rw [dep, inner_nest]
      show 1 + mx [dep k (nest k)] = _
      rw [h2]
      show 1 + (if (k : Int) + 1 ≤ 0 then (0 : Int) else (k : Int) + 1) = _
      rw [if_neg (by omega)]
      push_cast
      omega
    · rw [cnt, inner_nest]
      simp only [List.map_cons, List.map_nil, List.sum_cons, List.sum_nil, h3]
      push_cast
      omega
theorem nest_bnd (k : Nat) (h : k ≤ 900) : bnd k (nest k) = decide (k < 60) := by
  obtain ⟨h1, h2, h3⟩ := nest_all k
  unfold bnd
  rw [h1, h2, h3, decide_eq_true (show (k : Int) + 1 ≤ 1000 by omega)]
  simp only [Bool.true_and, Bool.and_true]
  exact decide_eq_decide.mpr (by omega)
def spNest : Sp := fun vs H Q _ => ∃ k : Nat, k ≤ 900 ∧ vs = [.int ((k : Int) + 1)] ∧ ∀ H' v, Same H H' → Da k H' v (nest k) → Q v H'
section
variable {P : Program} {w : World} {K : PySem.W.Frag} {mg : Str → Option Value} {base : Heap}
theorem scNe : FnScope ["_law_many", "_law_found", "_law_k"] ["_law_many"] (defScope sNest) := ⟨rfl, rfl, rfl, by decide +kernel, rfl, by decide +kernel, by decide +kernel⟩
theorem ok_nest {f : Addr} {fd : FuncData} (F : Fun K "_law_nested" "_law_nested" sNest f fd) (mR : mg "range" = none) : FnOk P w K mg base CX0 1 f fd ["_law_many"] spNest := by
  refine F.ok scNe (fun vs H Q E h => ?_) (fun cdv A outer s H vs Q E hr h => ?_)
  · obtain ⟨k, _, rfl, _⟩ := h
    rfl
  · obtain ⟨k, hk, rfl, q⟩ := h
    refine ⟨_, pss_cons (ps_set (i := 1) scNe.nd rfl (Or.inl rfl) pe_int) (pss_cons (ps_for PassesOwn.never rfl (pi_range1 (by rfl) mR (pa_cons (pe_op op_sub (pv 0) pe_int) pa_nil)) (pg_name (i := 2) scNe.nd rfl (Or.inl rfl))
      (pss_one (ps_set (i := 1) scNe.nd rfl (Or.inl rfl) (pe_ifExp (pt_cmpR op_eq (pe_op op_mod (pv 2) pe_int) pe_int (nomark _)) (pe_lst (pa_cons (pv 1) pa_nil)) (pe_disp (pps_cons pe_str (pv 1) pps_nil) (by rfl) (by rfl) (fun z => by cases z) (by show 1 ≤ 15; decide)))))) (pss_one (ps_ret (pv 1)))), ?_⟩
    refine ⟨_, rfl, _, _, rfl, rfl, _, rfl, by omega, by omega, ?_⟩
    have en : (((k : Int) + 1 - 1)).toNat = k := by omega
    rw [en]
    refine for_range (lo := 0) (n := k) (fun i σ H' => ∃ (o : Option V) (u : V), σ = [some (.int ((k : Int) + 1)), some u, o] ∧ Same H H' ∧ Da i H' u (nest i)) ⟨none, .int 0, rfl, same_id, rfl⟩ ?_ ?_
    · rintro i σ H1 hi ⟨o, u, rfl, s1, hu⟩
      refine ⟨_, rfl, _, _, rfl, rfl, (by show (0 : Int) < 2; decide), rfl, _, rfl, ?_⟩
      have em : decide (V.int ((0 + (i : Int)) % 2) = V.int 0) = decide (i % 2 = 0) := decide_eq_decide.mpr ⟨fun z => by injection z with z; omega, fun z => by rw [show (0 + (i : Int)) % 2 = 0 by omega]⟩
      rw [em]
      refine ite2 (fun c => ?_) (fun c => ?_)
      · have c' : i % 2 = 0 := of_decide_eq_true c
        refine ⟨_, rfl, few (by show 1 ≤ 1000; decide), fun p np => ⟨_, .ref p, rfl, same_new s1 np, ?_⟩⟩
        rw [nest, if_pos c']
        simp only [Da]
        exact ⟨p, [u], rfl, upd_same, by show 1 ≤ 1000; decide, .cons (hu.mono (same_new same_id np) (Nat.le_refl _)) .nil⟩
      · have c' : ¬ i % 2 = 0 := fun z => c (decide_eq_true z)
        intro p np
        refine ⟨_, rfl, upd_same, [(Sum.inr "a", u)], rfl, (by show 1 ≤ 15; decide), ?_⟩
        have em2 : mergeK [] [((Sum.inr "a" : Key), u)] = ([((Sum.inr "a" : Key), u)] : List (Key × V)) := merge_new [((Sum.inr "a" : Key), u)] [] (by simp)
        rw [em2]
        have sp : Same H1 (upd (upd H1 p (.dK [])) p (.dK [(Sum.inr "a", u)])) := fun b o e => by
          rw [upd_ne (ne_of_none e np), upd_ne (ne_of_none e np)]
          exact e
        refine ⟨_, .ref p, rfl, s1.trans sp, ?_⟩
        rw [nest, if_neg c']
        simp only [Da]
        exact ⟨p, [u], rfl, upd_same, by decide, rfl, by simp, fun k hk => by rw [List.mem_singleton.mp hk]; decide +kernel, .cons (hu.mono sp (Nat.le_refl _)) .nil⟩
    · rintro σ H1 ⟨o, u, rfl, s1, hu⟩
      exact ⟨_, rfl, q H1 u s1 hu⟩
end
end Toy


namespace Toy
open PySem PySem.Spec L2 PyProof.Rows PySem.W
/-! ### the great lists -/
theorem sum_rep (f : D → Int) (x : D) (c : Int) (h : f x = c) : ∀ k : Nat, ((List.replicate k x).map f).sum = (k : Int) * c
  | 0 => by simp
  | k + 1 => by
    rw [List.replicate_succ, List.map_cons, List.sum_cons, sum_rep f x c h k, h]
    push_cast
    rw [Int.add_mul, Int.one_mul]
    omega
theorem cnt_rep {x : D} (h : inner x = []) (n k : Nat) : cnt (n + 1) (.lst (List.replicate k x)) = 1 + (k : Int) := by
  rw [cnt]
  show 1 + ((List.replicate k x).map (cnt n)).sum = _
  rw [sum_rep _ x 1 (cnt_leaf h)]
  omega
theorem good_rep {x : D} (h : inner x = []) (ho : okTop x = true) (n k : Nat) : good (n + 1) (.lst (List.replicate k x)) = true := by
  rw [good]
  show (true && (List.replicate k x).all (good n)) = true
  rw [Bool.true_and, List.all_eq_true]
  intro y hy
  rw [List.eq_of_mem_replicate hy, good_leaf h]
  exact ho
theorem big1 (k : Nat) : bnd 1 (.lst (List.replicate k .non)) = decide (k + 1 ≤ 1000) := by
  have h1 := dep_le 1 (.lst (List.replicate k .non))
  unfold bnd
  rw [good_rep rfl rfl, cnt_rep rfl, decide_eq_true (by omega)]
  simp only [Bool.true_and]
  exact decide_eq_decide.mpr (by omega)
def big2D : D := .lst [.lst (List.replicate 499 (.int 0)), .dct ["a"] [.lst (List.replicate 497 (.int 0))]]
theorem inner_one (k : Str) (z : D) : inner (.dct [k] [z]) = [z] := by
  show (skeys [k]).map (look [k] [z]) = _
  rw [skeys1]
  show [look [k] [z] k] = _
  rw [look, if_pos rfl]
theorem big2 : bnd 3 big2D = true := by
  have h1 := dep_le 3 big2D
  have o0 : okTop (.int 0) = true := by decide
  have hg : good 3 big2D = true := by
    unfold big2D
    rw [good]
    show (true && ([.lst (List.replicate 499 (.int 0)), .dct ["a"] [.lst (List.replicate 497 (.int 0))]] : List D).all (good 2)) = true
    simp only [List.all_cons, List.all_nil, Bool.true_and, Bool.and_true]
    rw [good_rep rfl o0]
    rw [show good 2 (.dct ["a"] [.lst (List.replicate 497 (.int 0))]) = (okTop (.dct ["a"] [.lst (List.replicate 497 (.int 0))]) && (inner (.dct ["a"] [.lst (List.replicate 497 (.int 0))])).all (good 1)) from rfl, inner_one]
    simp only [List.all_cons, List.all_nil, Bool.and_true]
    rw [good_rep rfl o0]
    show (true && ((["a"] : List Str).all nameOk && true)) = true
    decide +kernel
  have hc : cnt 3 big2D = 1000 := by
    unfold big2D
    rw [cnt]
    show 1 + (([.lst (List.replicate 499 (.int 0)), .dct ["a"] [.lst (List.replicate 497 (.int 0))]] : List D).map (cnt 2)).sum = _
    simp only [List.map_cons, List.map_nil, List.sum_cons, List.sum_nil]
    rw [cnt_rep rfl]
    rw [show cnt 2 (.dct ["a"] [.lst (List.replicate 497 (.int 0))]) = 1 + ((inner (.dct ["a"] [.lst (List.replicate 497 (.int 0))])).map (cnt 1)).sum from rfl, inner_one]
    simp only [List.map_cons, List.map_nil, List.sum_cons, List.sum_nil]
    rw [cnt_rep rfl]
    decide
  unfold bnd
  rw [hg, hc, decide_eq_true (by omega)]
  decide
theorem flat_rep {α : Type} (x : α) : ∀ k : Nat, (List.replicate k [x]).flatten = List.replicate k x
  | 0 => rfl
  | k + 1 => by rw [List.replicate_succ, List.flatten_cons, flat_rep x k, List.replicate_succ]; rfl
theorem paired_rep {α β : Type} {R : α → β → Prop} {x : α} {y : β} (h : R x y) : ∀ k : Nat, Paired R (List.replicate k x) (List.replicate k y)
  | 0 => .nil
  | k + 1 => .cons h (paired_rep h k)
theorem da_rep {H : Hp} {p : Addr} {x : V} {y : D} {n k : Nat} (h : H p = some (.lst (List.replicate k x))) (hk : k ≤ 1000) (r : Da n H x y) : Da (n + 1) H (.ref p) (.lst (List.replicate k y)) := by
  simp only [Da]
  exact ⟨p, _, rfl, h, by rw [List.length_replicate]; exact hk, paired_rep r k⟩
/-! ### a row of five -/
def RowD (d : Addr) (H : Hp) (x : V) : Prop := ∃ t, Da 7 (delH H d) x t ∧ CB 1000 t
theorem RowD.but {d : Addr} {H H' : Hp} {x : V} (h : RowD d H x) (b : But d H H') : RowD d H' x := by
  obtain ⟨t, h1, h2⟩ := h
  exact ⟨t, h1.mono (But.off b) (Nat.le_refl _), h2⟩
theorem new_off {H H' : Hp} {d : Addr} (h : ∃ o, H d = some o) : Same (newH H H') (delH H' d) := fun b o e => by
  obtain ⟨h1, h2⟩ := newH_some.mp e
  obtain ⟨o', ho⟩ := h
  rw [delH_ne (fun z => by rw [z, ho] at h1; cases h1)]
  exact h2
theorem cW_le {m : Nat} (h : m ≤ 4) : cW m ≤ 121 := by
  have e : m = 0 ∨ m = 1 ∨ m = 2 ∨ m = 3 ∨ m = 4 := by omega
  rcases e with rfl | rfl | rfl | rfl | rfl <;> decide
theorem cP_le {m : Nat} (h : m ≤ 4) : cP m ≤ 200 := by
  have e : m = 0 ∨ m = 1 ∨ m = 2 ∨ m = 3 ∨ m = 4 := by omega
  rcases e with rfl | rfl | rfl | rfl | rfl <;> decide
abbrev keys5 : List Str := ["a", "b", "ab", "z", "null"]
theorem keys5_ok : ∀ k ∈ keys5, okK k = true := by
  have z : keys5.all okK = true := by decide +kernel
  exact List.all_eq_true.mp z
theorem keys5_nd : keys5.Nodup := by decide +kernel
end Toy


namespace Toy
open PySem PySem.Spec L2 PyProof.Rows PySem.W
abbrev sLaw : Stmt := top 34
abbrev NLw : List Str := ["_law_script", "_law_tape", "_law_turn", "_law_datum_here", "_law_rows", "_law_x", "_law_found", "_law_many", "_law_levels"]
theorem scLw : FnScope NLw ["_law_script"] (defScope sLaw) := ⟨rfl, rfl, rfl, by decide +kernel, rfl, by decide +kernel, by decide +kernel⟩
def spLaw (K : PySem.W.Frag) : Sp := fun vs H Q _ => ∃ (a : Addr) (ns : List Int), vs = [.ref a] ∧ SqL K H a (ns.map V.int) ∧ ns.length ≤ 63 ∧ ∀ H', Q (.bl true) H'
theorem sort_ok (d : D) : PyData.strOk (sortS d) = true := by
  have z : (["null", "no", "yes", "number", "text", "list", "dict", ""] : List Str).all PyData.strOk = true := by decide +kernel
  refine List.all_eq_true.mp z _ ?_
  cases d with
  | bl b => cases b <;> simp [sortS]
  | _ => simp [sortS]
structure LawT (mg : Str → Option Value) : Prop where
  len : mg "len" = none
  range : mg "range" = none
  min : mg "min" = none
  repr : mg "repr" = none
def tNestE : TE := tCall spIsD [] E0 (tCons (tCall spNest [] E0 (tCons (tVar 8) tNil)) tNil)
section
variable {P : Program} {w : World} {K : PySem.W.Frag} {mg : Str → Option Value} {base : Heap}
theorem body_law {f fB fD fSh fDt fPu fO fBy fMe fIs fSo fPa fDe fLS fPi fNe : Addr} {dB dD dSh dDt dPu dO dBy dMe dIs dSo dPa dDe dLS dPi dNe : FuncData} (L : LawT mg)
    (GB : FnOk P w K mg base CX0 1 fB dB ["_law_script"] (spBegin K)) (mB : mg "_law_begin" = some (.ref fB)) (kB : PySem.W.keepIn K (.ref fB) = true) (bB : Binds K dB ["_law_script"] [])
    (GD : FnOk P w K mg base CX0 1 fD dD ["_law_tape", "_law_many"] spDraw) (mD : mg "_law_draw" = some (.ref fD)) (kD : PySem.W.keepIn K (.ref fD) = true) (bD : Binds K dD ["_law_tape", "_law_many"] [])
    (GSh : FnOk P w K mg base CX0 2 fSh dSh ["_law_tape", "_law_items"] spShuf) (mSh : mg "_law_shuffled" = some (.ref fSh)) (kSh : PySem.W.keepIn K (.ref fSh) = true) (bSh : Binds K dSh ["_law_tape", "_law_items"] [])
    (GDt : FnOk P w K mg base CX0 9 fDt dDt ["_law_tape", "_law_keys_here", "_law_deep"] (spDatum 5)) (mDt : mg "_law_datum" = some (.ref fDt)) (kDt : PySem.W.keepIn K (.ref fDt) = true) (bDt : Binds K dDt ["_law_tape", "_law_keys_here", "_law_deep"] [])
    (GPu : FnOk P w K mg base CX0 8 fPu dPu ["_law_tape", "_law_datum_here", "_law_part"] (spPut 5)) (mPu : mg "_law_put_deep" = some (.ref fPu)) (kPu : PySem.W.keepIn K (.ref fPu) = true) (bPu : Binds K dPu ["_law_tape", "_law_datum_here", "_law_part"] [])
    (GO : FnOk P w K mg base CX0 3 fO dO ["_law_tape"] spOdd) (mO : mg "_law_odd" = some (.ref fO)) (kO : PySem.W.keepIn K (.ref fO) = true) (bO : Binds K dO ["_law_tape"] [])
    (GBy : FnOk P w K mg base CX0 3 fBy dBy ["_law_tape"] spOdd) (mBy : mg "_law_beyond" = some (.ref fBy)) (kBy : PySem.W.keepIn K (.ref fBy) = true) (bBy : Binds K dBy ["_law_tape"] [])
    (GMe : FnOk P w K mg base CX0 10 fMe dMe ["_law_x"] (spMeas 8)) (mMe : mg "_law_measure" = some (.ref fMe)) (kMe : PySem.W.keepIn K (.ref fMe) = true) (bMe : Binds K dMe ["_law_x"] [])
    (GIs : FnOk P w K mg base CX0 5 fIs dIs ["value"] spIsD) (mIs : mg "is_datum" = some (.ref fIs)) (kIs : PySem.W.keepIn K (.ref fIs) = true) (bIs : Binds K dIs ["value"] [])
    (GSo : FnOk P w K mg base CX0 1 fSo dSo ["datum"] spSort) (mSo : mg "sort_of" = some (.ref fSo)) (kSo : PySem.W.keepIn K (.ref fSo) = true) (bSo : Binds K dSo ["datum"] [])
    (GPa : FnOk P w K mg base CX0 11 fPa dPa ["datum"] (spParts 8)) (mPa : mg "parts_of" = some (.ref fPa)) (kPa : PySem.W.keepIn K (.ref fPa) = true) (bPa : Binds K dPa ["datum"] [])
    (GDe : FnOk P w K mg base CX0 11 fDe dDe ["datum"] (spDepth 8)) (mDe : mg "depth_of" = some (.ref fDe)) (kDe : PySem.W.keepIn K (.ref fDe) = true) (bDe : Binds K dDe ["datum"] [])
    (GLS : FnOk P w K mg base CX0 1 fLS dLS ["_law_datum_here"] spLSort) (mLS : mg "_law_sort" = some (.ref fLS)) (kLS : PySem.W.keepIn K (.ref fLS) = true) (bLS : Binds K dLS ["_law_datum_here"] [])
    (GPi : FnOk P w K mg base CX0 2 fPi dPi ["_law_tape", "_law_items"] spPick) (mPi : mg "_law_pick" = some (.ref fPi)) (kPi : PySem.W.keepIn K (.ref fPi) = true) (bPi : Binds K dPi ["_law_tape", "_law_items"] [])
    (GNe : FnOk P w K mg base CX0 1 fNe dNe ["_law_many"] spNest) (mNe : mg "_law_nested" = some (.ref fNe)) (kNe : PySem.W.keepIn K (.ref fNe) = true) (bNe : Binds K dNe ["_law_many"] []) :
    BodyOk P w K mg base 11 NLw "law" (defScope sLaw) (defBody sLaw) f (spLaw K) := by
  intro cdv s H vs Q E hr h
  obtain ⟨a, ns, rfl, hS, hlen, q⟩ := h
  have hr1 : Room 1 (callerA.deeper (PyProof.Rows.envOfC "law" (defScope sLaw) s.heap.objs.size f cdv)) := hr.mono (by decide)
  have hr2 : Room 2 (callerA.deeper (PyProof.Rows.envOfC "law" (defScope sLaw) s.heap.objs.size f cdv)) := hr.mono (by decide)
  have hr3 : Room 3 (callerA.deeper (PyProof.Rows.envOfC "law" (defScope sLaw) s.heap.objs.size f cdv)) := hr.mono (by decide)
  have hr5 : Room 5 (callerA.deeper (PyProof.Rows.envOfC "law" (defScope sLaw) s.heap.objs.size f cdv)) := hr.mono (by decide)
  have hr8 : Room 8 (callerA.deeper (PyProof.Rows.envOfC "law" (defScope sLaw) s.heap.objs.size f cdv)) := hr.mono (by decide)
  have hr9 : Room 9 (callerA.deeper (PyProof.Rows.envOfC "law" (defScope sLaw) s.heap.objs.size f cdv)) := hr.mono (by decide)
  have hr10 : Room 10 (callerA.deeper (PyProof.Rows.envOfC "law" (defScope sLaw) s.heap.objs.size f cdv)) := hr.mono (by decide)
  refine ⟨_, PSs.nox (pss_cons (ps_set (i := 1) scLw.nd rfl (Or.inl rfl) (pe_call GB hr1 (by rfl) mB kB bB .nil pass0 (pa_cons (pv 0) pa_nil)))
    (pss_cons (ps_for PassesOwn.never rfl (pi_range1 (by rfl) L.range (pa_cons (pe_op op_add pe_int (pe_callB (call_min2 rfl) (by rfl) L.min (by decide +kernel) (pa_cons pe_int (pa_cons (pe_callB call_len_seq (by rfl) L.len PySem.boot_len (pa_cons (pv 0) pa_nil)) pa_nil)))) pa_nil)) (pg_name (i := 2) scLw.nd rfl (Or.inl rfl))
      (pss_cons (ps_set (i := 3) scLw.nd rfl (Or.inl rfl) (pe_call GDt hr9 (by rfl) mDt kDt bDt .nil pass0 (pa_cons (pv 1) (pa_cons (pe_call GSh hr2 (by rfl) mSh kSh bSh .nil pass0 (pa_cons (pv 1) (pa_cons (pe_lst (pa_cons pe_str (pa_cons pe_str (pa_cons pe_str (pa_cons pe_str (pa_cons pe_str pa_nil)))))) pa_nil)))
          (pa_cons (pe_call GD hr1 (by rfl) mD kD bD .nil pass0 (pa_cons (pv 1) (pa_cons pe_int pa_nil))) pa_nil)))))
      (pss_cons (ps_set (i := 4) scLw.nd rfl (Or.inl rfl) (pe_lst (pa_cons (pv 3) (pa_cons (pe_call GPu hr8 (by rfl) mPu kPu bPu .nil pass0 (pa_cons (pv 1) (pa_cons (pv 3) (pa_cons (pe_call GO hr3 (by rfl) mO kO bO .nil pass0 (pa_cons (pv 1) pa_nil)) pa_nil))))
          (pa_cons (pe_call GPu hr8 (by rfl) mPu kPu bPu .nil pass0 (pa_cons (pv 1) (pa_cons (pv 3) (pa_cons (pe_call GBy hr3 (by rfl) mBy kBy bBy .nil pass0 (pa_cons (pv 1) pa_nil)) pa_nil))))
          (pa_cons (pe_call GO hr3 (by rfl) mO kO bO .nil pass0 (pa_cons (pv 1) pa_nil)) (pa_cons (pe_call GBy hr3 (by rfl) mBy kBy bBy .nil pass0 (pa_cons (pv 1) pa_nil)) pa_nil)))))))
      (pss_one (ps_for PassesOwn.never rfl (pi_list (pv 4)) (pg_name (i := 5) scLw.nd rfl (Or.inl rfl))
        (pss_cons (ps_set (i := 6) scLw.nd rfl (Or.inl rfl) (pe_call GMe hr10 (by rfl) mMe kMe bMe .nil pass0 (pa_cons (pv 5) pa_nil)))
        (pss_cons (ps_if (pt_cmpR op_ne (pe_callB call_reB (by rfl) L.repr (by decide +kernel) (pa_cons (pe_call GIs hr5 (by rfl) mIs kIs bIs .nil pass0 (pa_cons (pv 5) pa_nil)) pa_nil)) (pe_callB call_reB (by rfl) L.repr (by decide +kernel) (pa_cons (pe_cmpR op_notN (pv 6) pe_non (nomark _)) pa_nil)) (nomark _)) (pss_one (ps_ret pe_bl)) pss_nil)
        (pss_cons (ps_if (pt_cmpR op_isN (pv 6) pe_non (nomark _)) (pss_one ps_continue) pss_nil)
        (pss_one (ps_if (pt_cmpR (op_neD hr1.units) (pe_tup (pa_cons (pe_call GSo hr1 (by rfl) mSo kSo bSo .nil pass0 (pa_cons (pv 5) pa_nil)) (pa_cons (pe_call GPa hr (by rfl) mPa kPa bPa .nil pass0 (pa_cons (pv 5) pa_nil)) (pa_cons (pe_call GDe hr (by rfl) mDe kDe bDe .nil pass0 (pa_cons (pv 5) pa_nil)) pa_nil))))
            (pe_tup (pa_cons (pe_call GLS hr1 (by rfl) mLS kLS bLS .nil pass0 (pa_cons (pv 5) pa_nil)) (pa_cons (pe_ix ix_tup (pv 6) pe_int (fun _ _ => rfl)) (pa_cons (pe_ix ix_tup (pv 6) pe_int (fun _ _ => rfl)) pa_nil)))) (nomark _)) (pss_one (ps_ret pe_bl)) pss_nil))))))))))
    (pss_cons (ps_set (i := 7) scLw.nd rfl (Or.inl rfl) (pe_call GPi hr2 (by rfl) mPi kPi bPi .nil pass0 (pa_cons (pv 1) (pa_cons (pe_lst (pa_cons pe_int (pa_cons pe_int (pa_cons pe_int pa_nil)))) pa_nil))))
    (pss_cons (ps_if (PW.pt (pw_or (pt_cmpR op_ne (pe_call GIs hr5 (by rfl) mIs kIs bIs .nil pass0 (pa_cons (pe_op op_rep (pe_lst (pa_cons pe_non pa_nil)) (pe_op op_sub (pv 7) pe_int)) pa_nil)) (pe_cmpR op_le (pv 7) pe_int (nomark _)) (nomark _))
        (pw_or1 (pt_cmpR op_isnot_bl (pe_call GIs hr5 (by rfl) mIs kIs bIs .nil pass0 (pa_cons (pe_lst (pa_cons (pe_op op_rep (pe_lst (pa_cons pe_int pa_nil)) pe_int) (pa_cons (pe_disp (pps_cons pe_str (pe_op op_rep (pe_lst (pa_cons pe_int pa_nil)) pe_int) pps_nil) (by rfl) (by rfl) (fun z => by cases z) (by show 1 ≤ 15; decide)) pa_nil))) pa_nil)) pe_bl (nomark _))))) (pss_one (ps_ret pe_bl)) pss_nil)
    (pss_one (ps_ret (pe_cmpR (op_eqD hr1.units) (pe_lc (own := [("_law_levels", 8)]) (g := gName 8) (te := tNestE) (by rfl) scLw.nd (pi_tup (pe_tup (pa_cons pe_int (pa_cons pe_int (pa_cons pe_int pa_nil)))))
        (blkOk_by (own := [("_law_levels", 8)]) (N := NLw) (sc := defScope sLaw) (by decide +kernel)) (fun _ _ _ _ _ => pg_name (i := 8) scLw.nd rfl (Or.inl rfl)) (fun _ _ _ _ _ => pts_nil)
        (fun _ _ _ _ _ => pe_call GIs hr5 (by rfl) mIs kIs bIs .nil pass0 (pa_cons (pe_call GNe hr1 (by rfl) mNe kNe bNe .nil pass0 (pa_cons (pv 8) pa_nil)) pa_nil))) (pe_lst (pa_cons pe_bl (pa_cons pe_bl (pa_cons pe_bl pa_nil)))) (nomark _)))))))), ?_⟩
  refine ⟨_, rfl, a, ns, rfl, hS, hlen, fun H1 d l s1 nd nl nld hT => ?_⟩
  refine ⟨_, rfl, a, _, rfl, .inl (s1.seq hS), _, _, rfl, _, _, rfl, rfl, _, rfl, ?_⟩
  have lenNs : (ns.map V.int).length = ns.length := List.length_map ..
  generalize hnn : (5 + if (((ns.map V.int).length : Nat) : Int) < 5 then (((ns.map V.int).length : Nat) : Int) else 5) = nn
  have hn10 : 5 ≤ nn ∧ nn ≤ 10 := by
    rw [← hnn]
    split <;> omega
  refine ⟨by omega, by omega, ?_⟩
  refine for_range (lo := 0) (n := nn.toNat) (fun i σ H' => ∃ v2 v3 v4 v5 v6 : Option V, σ = [some (.ref a), some (.ref d), v2, v3, v4, v5, v6, none, none] ∧ Tape H' d l (2100 * i)) ⟨none, none, none, none, none, rfl, hT⟩ ?_ ?_
  · rintro i σ Ha hi ⟨v2, v3, v4, v5, v6, rfl, ta⟩
    have hi10 : i ≤ 9 := by omega
    refine ⟨_, rfl, _, rfl, few (by show 5 ≤ 1000; decide), fun kp nkp => ?_⟩
    have sb : Same Ha (upd Ha kp (.lst [.str "a", .str "b", .str "ab", .str "z", .str "null"])) := same_new same_id nkp
    have hkp : (upd Ha kp (.lst [.str "a", .str "b", .str "ab", .str "z", .str "null"])) kp = some (.lst (keys5.map V.str)) := upd_same
    generalize upd Ha kp (.lst [.str "a", .str "b", .str "ab", .str "z", .str "null"]) = Hk at sb hkp ⊢
    refine ⟨d, l, kp, 2100 * i, keys5, rfl, ta.same sb, by omega, hkp, by decide, (fun k hk => okK_1 (keys5_ok k hk)), fun Hb R ys b1 tb nR hR perm => ?_⟩
    have nRd : R ≠ d := by
      obtain ⟨o, ho⟩ := (ta.same sb).at.1
      exact (ne_of_none ho nR).symm
    have lys : ys.length = 5 := perm.length_eq
    have tb : Tape Hb d l (2100 * i + 5) := tb
    refine ⟨_, rfl, d, l, 2100 * i + 5, 5, rfl, tb, by omega, by decide, by decide, fun Hc r b2 tc r0 r5 => ?_⟩
    obtain ⟨m, rfl⟩ : ∃ m : Nat, r = ((m : Nat) : Int) := ⟨r.toNat, by omega⟩
    have hm4 : m ≤ 4 := by omega
    have c4 : 4 ^ m ≤ 256 := by
      have e : m = 0 ∨ m = 1 ∨ m = 2 ∨ m = 3 ∨ m = 4 := by omega
      rcases e with rfl | rfl | rfl | rfl | rfl <;> decide
    refine ⟨d, l, R, 2100 * i + 6, m, ys, by omega, rfl, tc, by omega, b2 _ _ nRd hR, by omega, perm.nodup_iff.mpr keys5_nd, (fun k hk => keys5_ok k (perm.mem_iff.mp hk)), fun Hd v dt b3 td hdn hw => ?_⟩
    have hv : Da m (delH Hd d) v dt := hdn.mono (new_off tc.at.1) (Nat.le_refl _)
    have td : Tape Hd d l (2100 * i + 2054) := td.more (by omega)
    refine ⟨_, rfl, _, rfl, _, rfl, _, rfl, d, l, 2100 * i + 2054, rfl, td, by omega, fun He o1 t1 b4 te ho1 wo1 => ?_⟩
    have hv1 := hv.mono (But.off b4) (Nat.le_refl _)
    refine ⟨d, l, 2100 * i + 2055, m, v, o1, dt, t1, by omega, by omega, rfl, te, by omega, hv1, hw, ho1, (cb_W ho1 wo1).mono (by decide), fun Hf u1 ut1 b5 tf hu1 cu1 => ?_⟩
    have hv2 := hv1.mono (But.off b5) (Nat.le_refl _)
    have tf : Tape Hf d l (2100 * i + 2065) := tf.more (by omega)
    refine ⟨_, rfl, _, rfl, _, rfl, d, l, 2100 * i + 2065, rfl, tf, by omega, fun Hg o2 t2 b6 tg ho2 wo2 => ?_⟩
    have hv3 := hv2.mono (But.off b6) (Nat.le_refl _)
    refine ⟨d, l, 2100 * i + 2066, m, v, o2, dt, t2, by omega, by omega, rfl, tg, by omega, hv3, hw, ho2, (cb_W ho2 wo2).mono (by decide), fun Hh u2 ut2 b7 th hu2 cu2 => ?_⟩
    have hv4 := hv3.mono (But.off b7) (Nat.le_refl _)
    have th : Tape Hh d l (2100 * i + 2076) := th.more (by omega)
    refine ⟨_, rfl, d, l, 2100 * i + 2076, rfl, th, by omega, fun Hi o3 t3 b8 ti ho3 wo3 => ?_⟩
    refine ⟨_, rfl, d, l, 2100 * i + 2077, rfl, ti, by omega, fun Hj o4 t4 b9 tj ho4 wo4 => ⟨few (by show 5 ≤ 1000; decide), fun Lr nLr => ?_⟩⟩
    have hv5 := (hv4.mono (But.off b8) (Nat.le_refl _)).mono (But.off b9) (Nat.le_refl _)
    have cw := cW_le hm4
    have cp := cP_le hm4
    have rows : ∀ x ∈ [v, u1, u2, o3, o4], RowD d Hj x := by
      intro x hx
      simp only [List.mem_cons, List.not_mem_nil, or_false] at hx
      rcases hx with rfl | rfl | rfl | rfl | rfl
      · exact ⟨dt, hv5.mono same_id (by omega), (cb_W hv5 (wd_w hw)).mono (by omega)⟩
      · exact ⟨ut1, hu1.mono (But.off (((b6.trans b7).trans b8).trans b9)) (by omega), cu1.mono (by omega)⟩
      · exact ⟨ut2, hu2.mono (But.off (b8.trans b9)) (by omega), cu2.mono (by omega)⟩
      · exact ⟨t3, ho3.mono (But.off b9) (by omega), (cb_W ho3 wo3).mono (by decide)⟩
      · exact ⟨t4, ho4.mono same_id (by omega), (cb_W ho4 wo4).mono (by decide)⟩
    have sj : Same Hj (upd Hj Lr (.lst [v, u1, u2, o3, o4])) := same_new same_id nLr
    have hLr : (upd Hj Lr (.lst [v, u1, u2, o3, o4])) Lr = some (.lst [v, u1, u2, o3, o4]) := upd_same
    generalize upd Hj Lr (.lst [v, u1, u2, o3, o4]) = Hl at sj hLr ⊢
    have rows : ∀ x ∈ [v, u1, u2, o3, o4], RowD d Hl x := fun x hx => (rows x hx).but (Same.but sj d)
    have tl : Tape Hl d l (2100 * i + 2078) := tj.same sj
    generalize [v, u1, u2, o3, o4] = rowsL at rows hLr ⊢
    refine ⟨_, rfl, Lr, rfl, ⟨_, SqL.of hLr⟩, ?_⟩
    refine for_list (K := K) (a := Lr) (xs := rowsL) (fun t σ H' => ∃ v5 v6 : Option V, σ = [some (.ref a), some (.ref d), some (.int (0 + (i : Int))), some v, some (.ref Lr), v5, v6, none, none] ∧ Same Hl H') ⟨v5, v6, rfl, same_id⟩ ?_ ?_ ?_
    · rintro t σ H' _ ⟨_, _, _, s2⟩
      exact SqL.of (s2 _ _ hLr)
    · rintro t x σ Hm hx ⟨w5, w6, rfl, s2⟩
      obtain ⟨dx, hx7, hcb⟩ := rows x (List.mem_of_getElem? hx)
      have hxm : Da 7 Hm x dx := (hx7.off).mono s2 (Nat.le_refl _)
      have hbg : bnd 7 dx = good 7 dx := bnd_good (by decide) hcb
      refine ⟨_, rfl, x, 7, dx, by decide, rfl, hxm, fun hg Hn s3 => ?_, fun hg Hn tp s3 htp => ?_⟩
      · refine ⟨_, rfl, x, 7, dx, rfl, hxm.mono s3 (Nat.le_refl _), fun Ho s4 => ⟨_, rfl, _, rfl, rfl, _, rfl, rfl, _, rfl, ?_⟩⟩
        refine ite2 (fun c => absurd c (by rw [hbg, hg]; simp)) fun _ => ?_
        refine ⟨_, rfl, rfl, _, rfl, ite2 (fun _ => ?_) (fun c => absurd rfl c)⟩
        exact ⟨_, _, rfl, (s2.trans s3).trans s4⟩
      · refine ⟨_, rfl, x, 7, dx, rfl, hxm.mono s3 (Nat.le_refl _), fun Ho s4 => ⟨_, rfl, _, rfl, rfl, _, rfl, rfl, _, rfl, ?_⟩⟩
        refine ite2 (fun c => absurd c (by rw [hbg, hg]; simp)) fun _ => ?_
        refine ⟨_, rfl, rfl, _, rfl, ite2 (fun c => absurd c (by simp)) (fun _ => ?_)⟩
        have hpl := good_plain hg
        have s24 : Same Hm Ho := s3.trans s4
        have hxo := hxm.mono s24 (Nat.le_refl _)
        have htpo := s4 _ _ htp
        refine ⟨_, rfl, x, 7, dx, rfl, hxo, hpl, _, rfl, x, 7, dx, by decide, rfl, hxo, hg, fun Hp s5 => ⟨_, rfl, x, 7, dx, by decide, rfl, hxo.mono s5 (Nat.le_refl _), hg, fun Hq s6 => ⟨few (by show 3 ≤ 1000; decide), fun T1 nT1 => ?_⟩⟩⟩
        have s46 : Same Ho Hq := s5.trans s6
        have s7 : Same Hq (upd Hq T1 (.tup [.str (sortS dx), .int (cnt 7 dx), .int (dep 7 dx)])) := same_new same_id nT1
        have hT1 : (upd Hq T1 (.tup [.str (sortS dx), .int (cnt 7 dx), .int (dep 7 dx)])) T1 = some (.tup [.str (sortS dx), .int (cnt 7 dx), .int (dep 7 dx)]) := upd_same
        generalize upd Hq T1 (.tup [.str (sortS dx), .int (cnt 7 dx), .int (dep 7 dx)]) = Hr at s7 hT1 ⊢
        have s47 : Same Ho Hr := s46.trans s7
        refine ⟨_, rfl, x, 7, dx, rfl, hxo.mono s47 (Nat.le_refl _), hpl, fun Hs s8 => ?_⟩
        have htps := s8 _ _ (s47 _ _ htpo)
        refine ⟨_, rfl, tp, _, 0, _, rfl, rfl, SqT.of htps, rfl, _, rfl, tp, _, 1, _, rfl, rfl, SqT.of htps, rfl, few (by show 3 ≤ 1000; decide), fun T2 nT2 => ?_⟩
        have s9 : Same Hs (upd Hs T2 (.tup [.str (sortS dx), .int (cnt 7 dx), .int (dep 7 dx)])) := same_new same_id nT2
        have hT2 : (upd Hs T2 (.tup [.str (sortS dx), .int (cnt 7 dx), .int (dep 7 dx)])) T2 = some (.tup [.str (sortS dx), .int (cnt 7 dx), .int (dep 7 dx)]) := upd_same
        have ok : SeqAt.shaped (.tuple [.str (sortS dx), .int (cnt 7 dx), .int (dep 7 dx)]) = true := by
          have z : PyData.strOk (sortS dx) = true := by
            exact sort_ok dx
          unfold SeqAt.shaped
          simp [PyData.canLay0, PyData.canLayAll0, PyData.depth, PyData.depthAll, z]
        refine ⟨.tuple [.str (sortS dx), .int (cnt 7 dx), .int (dep 7 dx)], .tuple [.str (sortS dx), .int (cnt 7 dx), .int (dep 7 dx)], .tup (SqT.of (s9 _ _ (s8 _ _ hT1))) (.cons (.str _) (.cons (.int _) (.cons (.int _) .nil))), .tup (SqT.of hT2) (.cons (.str _) (.cons (.int _) (.cons (.int _) .nil))), ok, ok, _, rfl, ?_⟩
        refine ite2 (fun c => absurd c (by simp [PyData.eqv, PyData.eqvAll])) fun _ => ?_
        exact ⟨_, _, rfl, (((s2.trans s24).trans s47).trans s8).trans s9⟩
    · rintro σ Hm ⟨w5, w6, rfl, s2⟩
      exact ⟨_, _, _, _, _, rfl, (tl.same s2).more (by omega)⟩
  · rintro σ Ha ⟨v2, v3, v4, v5, v6, rfl, ta⟩
    refine ⟨_, rfl, few (by show 3 ≤ 1000; decide), fun kp nkp => ?_⟩
    have sb : Same Ha (upd Ha kp (.lst [.int 999, .int 1000, .int 1001])) := same_new same_id nkp
    have hkp : (upd Ha kp (.lst [.int 999, .int 1000, .int 1001])) kp = some (.lst [.int 999, .int 1000, .int 1001]) := upd_same
    generalize upd Ha kp (.lst [.int 999, .int 1000, .int 1001]) = Hk at sb hkp ⊢
    refine ⟨d, l, kp, 2100 * nn.toNat, _, rfl, ta.same sb, by omega, hkp, by simp, by show 3 < 1000000; decide, fun Hb mv b1 tb hmem => ?_⟩
    obtain ⟨k, hk, rfl⟩ : ∃ k : Nat, (998 ≤ k ∧ k ≤ 1000) ∧ mv = .int ((k : Int) + 1) := by
      simp only [List.mem_cons, List.not_mem_nil, or_false] at hmem
      rcases hmem with rfl | rfl | rfl
      · exact ⟨998, by omega, rfl⟩
      · exact ⟨999, by omega, rfl⟩
      · exact ⟨1000, by omega, rfl⟩
    refine ⟨few (by show 1 ≤ 1000; decide), fun l0 nl0 => ⟨_, rfl, _, _, rfl, rfl, l0, _, [.non], rfl, rfl, upd_same, by omega, by omega, few (by show 1 * _ ≤ 1000; omega), fun p0 np0 => ?_⟩⟩
    rw [flat_rep, show ((k : Int) + 1 - 1).toNat = k by omega]
    have hp0 : (upd (upd Hb l0 (.lst [.non])) p0 (.lst (List.replicate k .non))) p0 = some (.lst (List.replicate k .non)) := upd_same
    generalize upd (upd Hb l0 (.lst [.non])) p0 (.lst (List.replicate k .non)) = Hc at hp0 ⊢
    refine ⟨.ref p0, 1, .lst (List.replicate k .non), rfl, da_rep hp0 (by omega) rfl, fun Hd s2 => ?_⟩
    refine ⟨_, rfl, _, _, rfl, rfl, rfl, _, rfl, ?_⟩
    have ek : decide ((k : Int) + 1 ≤ 1000) = bnd 1 (.lst (List.replicate k .non)) := by
      rw [big1]
      exact decide_eq_decide.mpr (by omega)
    refine ite2 (fun c => absurd c (by
      show ¬ (!decide (V.bl (bnd 1 (.lst (List.replicate k .non))) = V.bl (decide ((k : Int) + 1 ≤ 1000)))) = true
      rw [ek]
      simp)) fun _ => ?_
    refine ⟨few (by show 1 ≤ 1000; decide), fun z1 nz1 => ⟨z1, 499, [.int 0], rfl, rfl, upd_same, by decide, by decide, few (by show 1 * _ ≤ 1000; decide), fun z2 nz2 => ?_⟩⟩
    rw [flat_rep, show (499 : Int).toNat = 499 from rfl]
    have hz2 : (upd (upd Hd z1 (.lst [.int 0])) z2 (.lst (List.replicate 499 (.int 0)))) z2 = some (.lst (List.replicate 499 (.int 0))) := upd_same
    generalize upd (upd Hd z1 (.lst [.int 0])) z2 (.lst (List.replicate 499 (.int 0))) = He at hz2 ⊢
    intro z3 nz3
    have s3 : Same He (upd He z3 (.dK [])) := same_new same_id nz3
    have hz3 : (upd He z3 (.dK [])) z3 = some (.dK []) := upd_same
    have nz23 : z2 ≠ z3 := ne_of_none hz2 nz3
    generalize upd He z3 (.dK []) = Hf at s3 hz3 ⊢
    refine ⟨few (by show 1 ≤ 1000; decide), fun z4 nz4 => ⟨z4, 497, [.int 0], rfl, rfl, upd_same, by decide, by decide, few (by show 1 * _ ≤ 1000; decide), fun z5 nz5 => ?_⟩⟩
    rw [flat_rep, show (497 : Int).toNat = 497 from rfl]
    have s4 : Same Hf (upd (upd Hf z4 (.lst [.int 0])) z5 (.lst (List.replicate 497 (.int 0)))) := same_new (same_new same_id nz4) nz5
    have hz5 : (upd (upd Hf z4 (.lst [.int 0])) z5 (.lst (List.replicate 497 (.int 0)))) z5 = some (.lst (List.replicate 497 (.int 0))) := upd_same
    generalize upd (upd Hf z4 (.lst [.int 0])) z5 (.lst (List.replicate 497 (.int 0))) = Hg at s4 hz5 ⊢
    have hz3g := s4 _ _ hz3
    refine ⟨hz3g, [(Sum.inr "a", .ref z5)], rfl, (by show 1 ≤ 15; decide), few (by show 2 ≤ 1000; decide), fun z6 nz6 => ?_⟩
    have em2 : mergeK [] [((Sum.inr "a" : Key), V.ref z5)] = ([((Sum.inr "a" : Key), V.ref z5)] : List (Key × V)) := merge_new [((Sum.inr "a" : Key), V.ref z5)] [] (by simp)
    rw [em2] at nz6 ⊢
    have nz53 : z5 ≠ z3 := ne_of hz5 hz3g (by intro z; cases z)
    have h3 : (upd Hg z3 (.dK [(Sum.inr "a", .ref z5)])) z3 = some (.dK [(Sum.inr "a", .ref z5)]) := upd_same
    have h5 : (upd Hg z3 (.dK [(Sum.inr "a", .ref z5)])) z5 = some (.lst (List.replicate 497 (.int 0))) := (upd_ne nz53).trans hz5
    have h2 : (upd Hg z3 (.dK [(Sum.inr "a", .ref z5)])) z2 = some (.lst (List.replicate 499 (.int 0))) := (upd_ne nz23).trans (s4 _ _ (s3 _ _ hz2))
    generalize upd Hg z3 (.dK [(Sum.inr "a", .ref z5)]) = Hh at h2 h3 h5 nz6 ⊢
    have s5 : Same Hh (upd Hh z6 (.lst [.ref z2, .ref z3])) := same_new same_id nz6
    have h6 : (upd Hh z6 (.lst [.ref z2, .ref z3])) z6 = some (.lst [.ref z2, .ref z3]) := upd_same
    generalize upd Hh z6 (.lst [.ref z2, .ref z3]) = Hi at s5 h6 ⊢
    have hda : Da 3 Hi (.ref z6) big2D := by
      unfold big2D
      simp only [Da]
      refine ⟨z6, _, rfl, h6, by show 2 ≤ 1000; decide, .cons ?_ (.cons ?_ .nil)⟩
      · exact ⟨z2, _, rfl, s5 _ _ h2, by rw [List.length_replicate]; decide, paired_rep (R := fun x z => Da 1 Hi x z) (show Da 1 Hi (.int 0) (.int 0) from rfl) 499⟩
      · exact ⟨z3, [.ref z5], rfl, s5 _ _ h3, by decide, rfl, by simp, fun k hk => by rw [List.mem_singleton.mp hk]; decide +kernel, .cons ⟨z5, _, rfl, s5 _ _ h5, by rw [List.length_replicate]; decide, paired_rep (R := fun x z => Da 0 Hi x z) (show Da 0 Hi (.int 0) (.int 0) from rfl) 497⟩ .nil⟩
    refine ⟨.ref z6, 3, big2D, rfl, hda, fun Hj s6 => ⟨_, _, rfl, rfl, _, rfl, ?_⟩⟩
    rw [big2]
    refine ite2 (fun c => absurd c (by simp)) fun _ => ?_
    refine ⟨few (by show 3 ≤ 1000; decide), fun tt ntt => ⟨tt, rfl, ⟨_, SqT.of upd_same⟩, fun D nD => ?_⟩⟩
    have htt : (upd Hj tt (.tup [.int 59, .int 60, .int 61])) tt = some (.tup [.int 59, .int 60, .int 61]) := upd_same
    generalize upd Hj tt (.tup [.int 59, .int 60, .int 61]) = Hk2 at htt nD ⊢
    refine lc_tup (K := K) (a := tt) (xs := [.int 59, .int 60, .int 61]) (fun i H' => Same Hk2 H' ∧ H' D = some (.lst ((([true, true, false] : List Bool).take i).map V.bl))) ⟨same_new same_id nD, by rw [upd_same]; rfl⟩ ?_ ?_ ?_
    · rintro i H' _ ⟨s7, _⟩
      exact SqT.of (s7 _ _ htt)
    · rintro i x H' hx ⟨s7, hD⟩
      obtain ⟨hi3, rfl⟩ : i < 3 ∧ x = .int (((58 + i : Nat) : Int) + 1) := by
        have hi : i < 3 := by
          rcases Nat.lt_or_ge i 3 with z | z
          · exact z
          · rw [List.getElem?_eq_none (by simpa using z)] at hx
            cases hx
        refine ⟨hi, ?_⟩
        have e : i = 0 ∨ i = 1 ∨ i = 2 := by omega
        rcases e with rfl | rfl | rfl <;> (simp at hx; rw [← hx]; rfl)
      refine ⟨rfl, _, rfl, 58 + i, by omega, rfl, fun H2 u s8 hu => ⟨u, 58 + i, nest (58 + i), rfl, hu, fun H3 s9 => ?_⟩⟩
      have hD3 := s9 _ _ (s8 _ _ hD)
      refine ⟨_, hD3, small1000 (by rw [List.length_map, List.length_take]; omega), same_put ((s7.trans s8).trans s9) nD, ?_⟩
      rw [upd_same, nest_bnd _ (by omega)]
      have e : i = 0 ∨ i = 1 ∨ i = 2 := by omega
      rcases e with rfl | rfl | rfl <;> rfl
    · rintro H' ⟨s7, hD⟩
      refine ⟨few (by show 3 ≤ 1000; decide), fun e ne => ?_⟩
      refine ⟨.list [.bool true, .bool true, .bool false], .list [.bool true, .bool true, .bool false], .lst (SqL.of ((upd_ne (ne_of_none hD ne)).trans hD)) (.cons (.bl _) (.cons (.bl _) (.cons (.bl _) .nil))), .lst (SqL.of upd_same) (.cons (.bl _) (.cons (.bl _) (.cons (.bl _) .nil))), by decide +kernel, by decide +kernel, ?_⟩
      have ee : PyData.eqv (.list [.bool true, .bool true, .bool false]) (.list [.bool true, .bool true, .bool false]) = true := by decide +kernel
      rw [ee]
      exact q _
end
end Toy


namespace Toy
open PySem PySem.Spec PyProof.Rows L2
/-! ### the head: what the top has written, as one answer -/
def exB (_ : PySem.W.Frag) : Bool := true
def hdOf (x : Str) (st : Stmt) : He.DefD := ⟨(x, none), x, x, defArgs st, defBody st, defScope st, [], []⟩
def fn : List He.DefD := [hdOf "is_name" sName, hdOf "is_leaf" sLeafV, hdOf "_is_text" sTxt, hdOf "is_datum" sIsD, hdOf "_is_bounded" sBnd, hdOf "_may_be_part" sMay, hdOf "sort_of" sSort, hdOf "steps_into" sSteps, hdOf "inner_of" sInner, hdOf "parts_of" sParts, hdOf "depth_of" sDepth, hdOf "_law_begin" sBegin, hdOf "_law_draw" sDraw, hdOf "_law_pick" sPick, hdOf "_law_shuffled" sShuf, hdOf "_law_odd" sOdd, hdOf "_law_leaf" sLeaf, hdOf "_law_datum" sDatum, hdOf "_law_sort" sLSort, hdOf "_law_keys" sLKeys, hdOf "_law_beyond" sBeyond, hdOf "_law_is_key" sIsKey, hdOf "_law_measure" sMeas, hdOf "_law_put_deep" sPut, hdOf "_law_nested" sNest, hdOf "law" sLaw]
def fa : List He.Fa := [.glo "is_name", .glo "is_leaf", .glo "_is_text", .glo "is_datum", .glo "_is_bounded", .glo "_may_be_part", .glo "sort_of", .glo "steps_into", .glo "inner_of", .glo "parts_of", .glo "depth_of", .glo "_law_begin", .glo "_law_draw", .glo "_law_pick", .glo "_law_shuffled", .glo "_law_odd", .glo "_law_leaf", .glo "_law_datum", .glo "_law_sort", .glo "_law_keys", .glo "_law_beyond", .glo "_law_is_key", .glo "_law_measure", .glo "_law_put_deep", .glo "_law_nested", .glo "law", .int "MOST_LETTERS_words" 8, .int "GREATEST" (10 ^ 30), .int "MOST_LETTERS_data" 200, .int "MOST_PARTS" 1000, .int "MOST_LEVELS" 60, .int "PERCENT_SIGN" 37, .free "len", .free "int", .free "bool", .free "str", .free "list", .free "dict", .free "range", .free "sorted", .free "sum", .free "all", .free "abs", .free "max", .free "min", .free "repr", .free "ord", .free "isinstance"]
abbrev R : PySem.W.OpenRow := PySem.W.OpenLaw.row PySem.Challenge.rw_sieveways_k02_data_and_bounds
abbrev hk : PySem.W.Hook := He.hookX 5 fa fn [] [] exB
def ob (s : PySem.W.SharedT) : He.AlX := He.obsX 5 fa fn [] [] exB (HandSHeadRun.getT s)
theorem ob_eq (s : PySem.W.SharedT) : ob s = hk.obs s.abs := He.obsX_eq (HandSHeadRun.getT_eq s)
def looseN : List Str := ["is_name", "is_leaf", "_is_text", "is_datum", "_is_bounded", "_may_be_part", "sort_of", "steps_into", "inner_of", "parts_of", "depth_of", "_law_begin", "_law_draw", "_law_pick", "_law_shuffled", "_law_odd", "_law_leaf", "_law_datum", "_law_sort", "_law_keys", "_law_beyond", "_law_is_key", "_law_measure", "_law_put_deep", "_law_nested", "MOST_LETTERS_words", "GREATEST", "MOST_LETTERS_data", "MOST_PARTS", "MOST_LEVELS", "PERCENT_SIGN"]
theorem run (w : World) : HandSHeadRun.RunEq R (PySem.W.view R.prog [34]) hk ob 9000 looseN w := by
  intro os
  kernel_rfl
end Toy


namespace Toy
open PySem PySem.Spec PyProof.Rows L2
/-! ### the facts, read off the head's answer -/
theorem fun_of {K : PySem.W.Frag} {x q : Str} {st : Stmt} {f : Addr} {fd : FuncData} (F : FunD K x q (defArgs st) (defBody st) (defScope st) [] [] f fd) : Fun K x q st f fd := by
  obtain ⟨oc, od, dV, kV, doc, pm, an, cdv, ct, osl, rfl, lk, hcd, hD, _⟩ := F.ex
  rcases hD with ⟨_, rfl⟩ | ⟨e, _⟩
  · exact ⟨⟨oc, od, kV, doc, pm, an, cdv, ct, osl, rfl, lk, hcd⟩, F.kp⟩
  · exact absurd rfl e
theorem facts {P : Program} {w : World} {K : PySem.W.Frag} {h : Heap} {mg : Str → Option Value} {f : Addr} (X : K.In h) (G : h.Ns mainGlobals mg) (hfa : mg ("law" : Str) = some (.ref f)) (S : He.SaysX fa fn [] [] exB w h K) :
    ∃ fd : FuncData, FunD K "law" "law" (defArgs sLaw) (defBody sLaw) (defScope sLaw) [] [] f fd ∧ (∀ (s : Shared) (v : Value), BindsTo s fd ⟨[v], []⟩ [("_law_script", v)]) ∧ ∀ base : Heap, K.In base → base.Ns mainGlobals mg → BodyOk P w K mg base 11 NLw "law" (defScope sLaw) (defBody sLaw) f (spLaw K) := by
  obtain ⟨dNm, FNm⟩ := S.t.d.def_ 0 (d := hdOf "is_name" sName) rfl
  have mNm := He.glo_ok X G (S.t.d.fact 0 (f := .glo "is_name") rfl)
  obtain ⟨dLv, FLv⟩ := S.t.d.def_ 1 (d := hdOf "is_leaf" sLeafV) rfl
  have mLv := He.glo_ok X G (S.t.d.fact 1 (f := .glo "is_leaf") rfl)
  obtain ⟨dTx, FTx⟩ := S.t.d.def_ 2 (d := hdOf "_is_text" sTxt) rfl
  have mTx := He.glo_ok X G (S.t.d.fact 2 (f := .glo "_is_text") rfl)
  obtain ⟨dIs, FIs⟩ := S.t.d.def_ 3 (d := hdOf "is_datum" sIsD) rfl
  have mIs := He.glo_ok X G (S.t.d.fact 3 (f := .glo "is_datum") rfl)
  obtain ⟨dBd, FBd⟩ := S.t.d.def_ 4 (d := hdOf "_is_bounded" sBnd) rfl
  have mBd := He.glo_ok X G (S.t.d.fact 4 (f := .glo "_is_bounded") rfl)
  obtain ⟨dMy, FMy⟩ := S.t.d.def_ 5 (d := hdOf "_may_be_part" sMay) rfl
  have mMy := He.glo_ok X G (S.t.d.fact 5 (f := .glo "_may_be_part") rfl)
  obtain ⟨dSo, FSo⟩ := S.t.d.def_ 6 (d := hdOf "sort_of" sSort) rfl
  have mSo := He.glo_ok X G (S.t.d.fact 6 (f := .glo "sort_of") rfl)
  obtain ⟨dSt, FSt⟩ := S.t.d.def_ 7 (d := hdOf "steps_into" sSteps) rfl
  have mSt := He.glo_ok X G (S.t.d.fact 7 (f := .glo "steps_into") rfl)
  obtain ⟨dIn, FIn⟩ := S.t.d.def_ 8 (d := hdOf "inner_of" sInner) rfl
  have mIn := He.glo_ok X G (S.t.d.fact 8 (f := .glo "inner_of") rfl)
  obtain ⟨dPa, FPa⟩ := S.t.d.def_ 9 (d := hdOf "parts_of" sParts) rfl
  have mPa := He.glo_ok X G (S.t.d.fact 9 (f := .glo "parts_of") rfl)
  obtain ⟨dDe, FDe⟩ := S.t.d.def_ 10 (d := hdOf "depth_of" sDepth) rfl
  have mDe := He.glo_ok X G (S.t.d.fact 10 (f := .glo "depth_of") rfl)
  obtain ⟨dB, FB⟩ := S.t.d.def_ 11 (d := hdOf "_law_begin" sBegin) rfl
  have mB := He.glo_ok X G (S.t.d.fact 11 (f := .glo "_law_begin") rfl)
  obtain ⟨dD, FD⟩ := S.t.d.def_ 12 (d := hdOf "_law_draw" sDraw) rfl
  have mD := He.glo_ok X G (S.t.d.fact 12 (f := .glo "_law_draw") rfl)
  obtain ⟨dPi, FPi⟩ := S.t.d.def_ 13 (d := hdOf "_law_pick" sPick) rfl
  have mPi := He.glo_ok X G (S.t.d.fact 13 (f := .glo "_law_pick") rfl)
  obtain ⟨dSh, FSh⟩ := S.t.d.def_ 14 (d := hdOf "_law_shuffled" sShuf) rfl
  have mSh := He.glo_ok X G (S.t.d.fact 14 (f := .glo "_law_shuffled") rfl)
  obtain ⟨dO, FO⟩ := S.t.d.def_ 15 (d := hdOf "_law_odd" sOdd) rfl
  have mO := He.glo_ok X G (S.t.d.fact 15 (f := .glo "_law_odd") rfl)
  obtain ⟨dLf, FLf⟩ := S.t.d.def_ 16 (d := hdOf "_law_leaf" sLeaf) rfl
  have mLf := He.glo_ok X G (S.t.d.fact 16 (f := .glo "_law_leaf") rfl)
  obtain ⟨dDt, FDt⟩ := S.t.d.def_ 17 (d := hdOf "_law_datum" sDatum) rfl
  have mDt := He.glo_ok X G (S.t.d.fact 17 (f := .glo "_law_datum") rfl)
  obtain ⟨dLS, FLS⟩ := S.t.d.def_ 18 (d := hdOf "_law_sort" sLSort) rfl
  have mLS := He.glo_ok X G (S.t.d.fact 18 (f := .glo "_law_sort") rfl)
  obtain ⟨dLk, FLk⟩ := S.t.d.def_ 19 (d := hdOf "_law_keys" sLKeys) rfl
  have mLk := He.glo_ok X G (S.t.d.fact 19 (f := .glo "_law_keys") rfl)
  obtain ⟨dBy, FBy⟩ := S.t.d.def_ 20 (d := hdOf "_law_beyond" sBeyond) rfl
  have mBy := He.glo_ok X G (S.t.d.fact 20 (f := .glo "_law_beyond") rfl)
  obtain ⟨dIk, FIk⟩ := S.t.d.def_ 21 (d := hdOf "_law_is_key" sIsKey) rfl
  have mIk := He.glo_ok X G (S.t.d.fact 21 (f := .glo "_law_is_key") rfl)
  obtain ⟨dMe, FMe⟩ := S.t.d.def_ 22 (d := hdOf "_law_measure" sMeas) rfl
  have mMe := He.glo_ok X G (S.t.d.fact 22 (f := .glo "_law_measure") rfl)
  obtain ⟨dPu, FPu⟩ := S.t.d.def_ 23 (d := hdOf "_law_put_deep" sPut) rfl
  have mPu := He.glo_ok X G (S.t.d.fact 23 (f := .glo "_law_put_deep") rfl)
  obtain ⟨dNe, FNe⟩ := S.t.d.def_ 24 (d := hdOf "_law_nested" sNest) rfl
  have mNe := He.glo_ok X G (S.t.d.fact 24 (f := .glo "_law_nested") rfl)
  obtain ⟨dL, FL⟩ := S.t.d.def_ 25 (d := hdOf "law" sLaw) rfl
  have mL := He.glo_ok X G (S.t.d.fact 25 (f := .glo "law") rfl)
  obtain ⟨ti0, mi0⟩ := He.int_ok X G (S.t.d.fact 26 (f := .int "MOST_LETTERS_words" 8) rfl)
  have ri0 : L2.RelV (.int 8) (.int 8 ti0) := ⟨ti0, rfl⟩
  obtain ⟨ti1, mi1⟩ := He.int_ok X G (S.t.d.fact 27 (f := .int "GREATEST" (10 ^ 30)) rfl)
  have ri1 : L2.RelV (.int (10 ^ 30)) (.int (10 ^ 30) ti1) := ⟨ti1, rfl⟩
  obtain ⟨ti2, mi2⟩ := He.int_ok X G (S.t.d.fact 28 (f := .int "MOST_LETTERS_data" 200) rfl)
  have ri2 : L2.RelV (.int 200) (.int 200 ti2) := ⟨ti2, rfl⟩
  obtain ⟨ti3, mi3⟩ := He.int_ok X G (S.t.d.fact 29 (f := .int "MOST_PARTS" 1000) rfl)
  have ri3 : L2.RelV (.int 1000) (.int 1000 ti3) := ⟨ti3, rfl⟩
  obtain ⟨ti4, mi4⟩ := He.int_ok X G (S.t.d.fact 30 (f := .int "MOST_LEVELS" 60) rfl)
  have ri4 : L2.RelV (.int 60) (.int 60 ti4) := ⟨ti4, rfl⟩
  obtain ⟨ti5, mi5⟩ := He.int_ok X G (S.t.d.fact 31 (f := .int "PERCENT_SIGN" 37) rfl)
  have ri5 : L2.RelV (.int 37) (.int 37 ti5) := ⟨ti5, rfl⟩
  have z0 := He.free_ok X G (S.t.d.fact 32 (f := .free "len") rfl)
  have z1 := He.free_ok X G (S.t.d.fact 33 (f := .free "int") rfl)
  have z2 := He.free_ok X G (S.t.d.fact 34 (f := .free "bool") rfl)
  have z3 := He.free_ok X G (S.t.d.fact 35 (f := .free "str") rfl)
  have z4 := He.free_ok X G (S.t.d.fact 36 (f := .free "list") rfl)
  have z5 := He.free_ok X G (S.t.d.fact 37 (f := .free "dict") rfl)
  have z6 := He.free_ok X G (S.t.d.fact 38 (f := .free "range") rfl)
  have z7 := He.free_ok X G (S.t.d.fact 39 (f := .free "sorted") rfl)
  have z8 := He.free_ok X G (S.t.d.fact 40 (f := .free "sum") rfl)
  have z9 := He.free_ok X G (S.t.d.fact 41 (f := .free "all") rfl)
  have z10 := He.free_ok X G (S.t.d.fact 42 (f := .free "abs") rfl)
  have z11 := He.free_ok X G (S.t.d.fact 43 (f := .free "max") rfl)
  have z12 := He.free_ok X G (S.t.d.fact 44 (f := .free "min") rfl)
  have z13 := He.free_ok X G (S.t.d.fact 45 (f := .free "repr") rfl)
  have z14 := He.free_ok X G (S.t.d.fact 46 (f := .free "ord") rfl)
  have z15 := He.free_ok X G (S.t.d.fact 47 (f := .free "isinstance") rfl)
  have bD : Binds K dD ["_law_tape", "_law_many"] [] := FD.bindsN fun _ _ _ _ _ _ us hl => match us, hl with | [_, _], _ => rfl
  have bB : Binds K dB ["_law_script"] [] := FB.bindsN fun _ _ _ _ _ _ us hl => match us, hl with | [_], _ => rfl
  have bSh : Binds K dSh ["_law_tape", "_law_items"] [] := FSh.bindsN fun _ _ _ _ _ _ us hl => match us, hl with | [_, _], _ => rfl
  have bPi : Binds K dPi ["_law_tape", "_law_items"] [] := FPi.bindsN fun _ _ _ _ _ _ us hl => match us, hl with | [_, _], _ => rfl
  have bLf : Binds K dLf ["_law_tape"] [] := FLf.bindsN fun _ _ _ _ _ _ us hl => match us, hl with | [_], _ => rfl
  have bO : Binds K dO ["_law_tape"] [] := FO.bindsN fun _ _ _ _ _ _ us hl => match us, hl with | [_], _ => rfl
  have bBy : Binds K dBy ["_law_tape"] [] := FBy.bindsN fun _ _ _ _ _ _ us hl => match us, hl with | [_], _ => rfl
  have bDt : Binds K dDt ["_law_tape", "_law_keys_here", "_law_deep"] [] := FDt.bindsN fun _ _ _ _ _ _ us hl => match us, hl with | [_, _, _], _ => rfl
  have bSo : Binds K dSo ["datum"] [] := FSo.bindsN fun _ _ _ _ _ _ us hl => match us, hl with | [_], _ => rfl
  have bSt : Binds K dSt ["datum"] [] := FSt.bindsN fun _ _ _ _ _ _ us hl => match us, hl with | [_], _ => rfl
  have bIn : Binds K dIn ["datum"] [] := FIn.bindsN fun _ _ _ _ _ _ us hl => match us, hl with | [_], _ => rfl
  have bPa : Binds K dPa ["datum"] [] := FPa.bindsN fun _ _ _ _ _ _ us hl => match us, hl with | [_], _ => rfl
  have bDe : Binds K dDe ["datum"] [] := FDe.bindsN fun _ _ _ _ _ _ us hl => match us, hl with | [_], _ => rfl
  have bNm : Binds K dNm ["value"] [] := FNm.bindsN fun _ _ _ _ _ _ us hl => match us, hl with | [_], _ => rfl
  have bIk : Binds K dIk ["_law_x"] [] := FIk.bindsN fun _ _ _ _ _ _ us hl => match us, hl with | [_], _ => rfl
  have bTx : Binds K dTx ["text"] [] := FTx.bindsN fun _ _ _ _ _ _ us hl => match us, hl with | [_], _ => rfl
  have bLv : Binds K dLv ["value"] [] := FLv.bindsN fun _ _ _ _ _ _ us hl => match us, hl with | [_], _ => rfl
  have bMy : Binds K dMy ["value"] [] := FMy.bindsN fun _ _ _ _ _ _ us hl => match us, hl with | [_], _ => rfl
  have bBd : Binds K dBd ["value", "may_be_any"] [] := FBd.bindsN fun _ _ _ _ _ _ us hl => match us, hl with | [_, _], _ => rfl
  have bIs : Binds K dIs ["value"] [] := FIs.bindsN fun _ _ _ _ _ _ us hl => match us, hl with | [_], _ => rfl
  have bLS : Binds K dLS ["_law_datum_here"] [] := FLS.bindsN fun _ _ _ _ _ _ us hl => match us, hl with | [_], _ => rfl
  have bLk : Binds K dLk ["_law_datum_here"] [] := FLk.bindsN fun _ _ _ _ _ _ us hl => match us, hl with | [_], _ => rfl
  have bMe : Binds K dMe ["_law_x"] [] := FMe.bindsN fun _ _ _ _ _ _ us hl => match us, hl with | [_], _ => rfl
  have bPu : Binds K dPu ["_law_tape", "_law_datum_here", "_law_part"] [] := FPu.bindsN fun _ _ _ _ _ _ us hl => match us, hl with | [_, _, _], _ => rfl
  have bNe : Binds K dNe ["_law_many"] [] := FNe.bindsN fun _ _ _ _ _ _ us hl => match us, hl with | [_], _ => rfl
  have e := hfa.symm.trans mL
  cases e
  refine ⟨dL, FL, fun s v => FL.bindsA (ps := ["_law_script"]) (fun _ _ _ _ _ _ us hl => match us, hl with | [_], _ => rfl) s [v] rfl, fun base _ _ => ?_⟩
  have GD : FnOk P w K mg base CX0 1 _ dD ["_law_tape", "_law_many"] spDraw := ok_draw (fun_of FD) z0 z1
  have GB : FnOk P w K mg base CX0 1 _ dB ["_law_script"] (spBegin K) := ok_begin (fun_of FB) 
  have GSh : FnOk P w K mg base CX0 2 _ dSh ["_law_tape", "_law_items"] spShuf := ok_shuf (fun_of FSh) GD mD FD.kp bD z0 z4
  have GPi : FnOk P w K mg base CX0 2 _ dPi ["_law_tape", "_law_items"] spPick := ok_pick (fun_of FPi) GD mD FD.kp bD z0
  have GLf : FnOk P w K mg base CX0 3 _ dLf ["_law_tape"] spLeaf := ok_leaf (fun_of FLf) GPi mPi FPi.kp bPi
  have GO : FnOk P w K mg base CX0 3 _ dO ["_law_tape"] spOdd := ok_odd (fun_of FO) GPi mPi FPi.kp bPi
  have GBy : FnOk P w K mg base CX0 3 _ dBy ["_law_tape"] spOdd := ok_beyond (fun_of FBy) GPi mPi FPi.kp bPi
  have GDt : FnOk P w K mg base CX0 9 _ dDt ["_law_tape", "_law_keys_here", "_law_deep"] (spDatum 5) := ok_datum (fun_of FDt) GD mD FD.kp bD GSh mSh FSh.kp bSh GLf mLf FLf.kp bLf mDt FDt.kp bDt z6 z5 5
  have GSo : FnOk P w K mg base CX0 1 _ dSo ["datum"] spSort := ok_sort (fun_of FSo) z15 z2 z1 z3 z4
  have GSt : FnOk P w K mg base CX0 1 _ dSt ["datum"] spSteps := ok_steps (fun_of FSt) z15 z4 z5 z6 z0 z7
  have GIn : FnOk P w K mg base CX0 2 _ dIn ["datum"] spInner := ok_inner (fun_of FIn) GSt mSt FSt.kp bSt
  have GPa : FnOk P w K mg base CX0 11 _ dPa ["datum"] (spParts 8) := ok_parts (fun_of FPa) GIn mIn FIn.kp bIn mPa FPa.kp bPa z8 8
  have GDe : FnOk P w K mg base CX0 11 _ dDe ["datum"] (spDepth 8) := ok_depth (fun_of FDe) GIn mIn FIn.kp bIn mDe FDe.kp bDe z11 8
  have GNm : FnOk P w K mg base CX0 1 _ dNm ["value"] spName := ok_name (fun_of FNm) mi0 ri0 z15 z3 z0 z9
  have GIk : FnOk P w K mg base CX0 1 _ dIk ["_law_x"] spName := ok_isKey (fun_of FIk) z15 z3 z0
  have GTx : FnOk P w K mg base CX0 1 _ dTx ["text"] spTxt := ok_txt (fun_of FTx) mi2 ri2 mi5 ri5 z0 z14 z9
  have GLv : FnOk P w K mg base CX0 2 _ dLv ["value"] spLeafV := ok_leafV (fun_of FLv) GTx mTx FTx.kp bTx mi1 ri1 z15 z2 z1 z3
  have GMy : FnOk P w K mg base CX0 3 _ dMy ["value"] spMay := ok_may (fun_of FMy) GNm mNm FNm.kp bNm GLv mLv FLv.kp bLv z15 z5 z4 z9
  have GBd : FnOk P w K mg base CX0 4 _ dBd ["value", "may_be_any"] spBnd := ok_bnd (fun_of FBd) GMy mMy FMy.kp bMy GIn mIn FIn.kp bIn mi4 ri4 mi3 ri3 z0
  have GIs : FnOk P w K mg base CX0 5 _ dIs ["value"] spIsD := ok_isD (fun_of FIs) GBd mBd FBd.kp bBd
  have GLS : FnOk P w K mg base CX0 1 _ dLS ["_law_datum_here"] spLSort := ok_lsort (fun_of FLS) z15 z2 z1 z3 z4
  have GLk : FnOk P w K mg base CX0 1 _ dLk ["_law_datum_here"] spSteps := ok_lkeys (fun_of FLk) z15 z4 z5 z6 z0 z7
  have GMe : FnOk P w K mg base CX0 10 _ dMe ["_law_x"] (spMeas 8) := ok_meas (fun_of FMe) GIk mIk FIk.kp bIk GLk mLk FLk.kp bLk mMe FMe.kp bMe z15 z2 z1 z3 z4 z5 z0 z10 z8 z11 8
  have GPu : FnOk P w K mg base CX0 8 _ dPu ["_law_tape", "_law_datum_here", "_law_part"] (spPut 5) := ok_put (fun_of FPu) GLk mLk FLk.kp bLk GD mD FD.kp bD GPi mPi FPi.kp bPi mPu FPu.kp bPu z15 z4 z5 5
  have GNe : FnOk P w K mg base CX0 1 _ dNe ["_law_many"] spNest := ok_nest (fun_of FNe) z6
  exact body_law ⟨z0, z6, z12, z13⟩ GB mB FB.kp bB GD mD FD.kp bD GSh mSh FSh.kp bSh GDt mDt FDt.kp bDt GPu mPu FPu.kp bPu GO mO FO.kp bO GBy mBy FBy.kp bBy GMe mMe FMe.kp bMe GIs mIs FIs.kp bIs GSo mSo FSo.kp bSo GPa mPa FPa.kp bPa GDe mDe FDe.kp bDe GLS mLS FLS.kp bLS GPi mPi FPi.kp bPi GNe mNe FNe.kp bNe
end Toy
open PySem PySem.W PySem.Calls PyProof.Rows
set_option maxRecDepth 100000 in
set_option maxHeartbeats 0 in
theorem PySem.Challenge.cw_sieveways_k02_data_and_bounds_holds : PySem.Challenge.rw_sieveways_k02_data_and_bounds.Holds := by
  w_on; o_law
  refine HandSHeadRun.head_any (r := OpenLaw.row PySem.Challenge.rw_sieveways_k02_data_and_bounds) (q := view (OpenLaw.row PySem.Challenge.rw_sieveways_k02_data_and_bounds).prog [34]) (H := Toy.hk) (ob := Toy.ob) (M := 9000) (loose := Toy.looseN) (d := HandSHeadRun.topDef (OpenLaw.row PySem.Challenge.rw_sieveways_k02_data_and_bounds).prog 34) (kwd := []) Toy.ob_eq
    (by kernel_rfl) (fun s => by kernel_rfl) Toy.run (by kernel_rfl) (by kernel_rfl) (by kernel_rfl) (by rfl) (by first | assumption | decide +kernel) (by decide +kernel) ⟨rfl, rfl, rfl, rfl, rfl, by decide +kernel⟩ ?hw ?hc
  case hw => w_witness2
  case hc =>
    refine L2.walkG (l := PySem.Challenge.rw_sieveways_k02_data_and_bounds) (n := 63) (k := 11) (x := "_law_script") rfl (by decide) (by kernel_rfl) ⟨rfl, by decide, by decide⟩ ?F
    intro w mg fa h Y G hmg0
    obtain ⟨K, KX, c⟩ := Y
    have hmg : mg ("law" : PySem.Str) = some (.ref fa) := by
      have e : (HandSHeadRun.topDef (OpenLaw.row PySem.Challenge.rw_sieveways_k02_data_and_bounds).prog 34).name = ("law" : PySem.Str) := by kernel_rfl
      rw [← e]
      exact hmg0
    obtain ⟨fd, FD, hb, hF⟩ := Toy.facts (P := (PySem.Challenge.rw_sieveways_k02_data_and_bounds).prog) (w := w) KX G hmg c
    exact ⟨K, fd, _, _, _, _, _, Toy.NLw, Toy.spLaw K, KX, FD, Toy.scLw, hb, fun H a ns hl hS => ⟨a, ns, rfl, hS, hl, fun _ => rfl⟩, hF⟩

