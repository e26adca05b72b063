import PyProof.Rows.All
import Wide.All
import OpenK.AllK
import Wide.FinOn
import HandS.ForMost
import HandS.Flow
import HandS.Wide
import HandS.Small
import HandS.ExcValue
import HandS.Defaults
import HandS.IsInst
import HandS.More
import HandS.Strs
import HandS.Style
import HandS.Conv
import HandS.HeadEnd
import KE.KStateDown
import HandS.Zip
import HandS.Deep
import HandS.ListItems
import HandS.SortKw
import KE.GoesZip
import KE.KDictZip
import HandS.Rev
import HandS.Walk
import HandS.Star
import HandS.TupAny
import HandS.Head0
import HandS.Head1
import HandS.Head2
import HandS.HeadHook1
import HandS.HeadHook2
import HandS.HeadHook3
import HandS.HeadHook4
import PySem.Challenge.RW_sieveways_k06_names_that_are_bound
set_option Elab.async false
set_option linter.all false
set_option maxRecDepth 100000
set_option maxHeartbeats 0
namespace Toy
open PySem L2
def top (i : Nat) : Stmt := PySem.Challenge.pw_sieveways_k06_names_that_are_bound.main.body.getD i (.Pass ⟨0, 0, 0, 0⟩)
abbrev sBegin : Stmt := top 40
abbrev sDraw : Stmt := top 41
/-! ### the tape -/
def kC : Key := Sum.inr ("cells" : Str)
def kA : Key := Sum.inr ("at" : Str)
def kL : Key := Sum.inr ("left" : Str)
def tp (l : Addr) (a f : Int) : List (Key × V) := [(kC, .ref l), (kA, .int a), (kL, .int f)]
theorem k_ca : ¬ (kC = kA) := by decide +kernel
theorem k_cl : ¬ (kC = kL) := by decide +kernel
theorem k_al : ¬ (kA = kL) := by decide +kernel
theorem k_la : ¬ (kL = kA) := by decide +kernel
theorem tp_cells (l : Addr) (a f : Int) : valV (tp l a f) kC = some (.ref l) := by
  unfold tp
  rw [valV_pos rfl]
theorem tp_at (l : Addr) (a f : Int) : valV (tp l a f) kA = some (.int a) := by
  unfold tp
  rw [valV_neg k_ca, valV_pos rfl]
theorem tp_left (l : Addr) (a f : Int) : valV (tp l a f) kL = some (.int f) := by
  unfold tp
  rw [valV_neg k_cl, valV_neg k_al, valV_pos rfl]
theorem put_at (l : Addr) (a f b : Int) : putK (tp l a f) kA (.int b) = tp l b f := by
  unfold tp putK
  rw [if_pos (by simp)]
  simp only [List.map_cons, List.map_nil]
  rw [if_neg k_ca, if_pos trivial, if_neg k_la]
theorem put_left (l : Addr) (a f b : Int) : putK (tp l a f) kL (.int b) = tp l a b := by
  unfold tp putK
  rw [if_pos (by simp)]
  simp only [List.map_cons, List.map_nil]
  rw [if_neg k_cl, if_neg k_al, if_pos trivial]
section
variable {H : Hp} {d l : Addr} {a f : Int} (h : H d = some (.dK (tp l a f)))
include h
theorem get_cells : DGet H d (.str ("cells" : Str)) (some (.ref l)) := by
  have z := DGet.k (k := kC) h
  rw [tp_cells] at z
  exact z
theorem get_at : DGet H d (.str ("at" : Str)) (some (.int a)) := by
  have z := DGet.k (k := kA) h
  rw [tp_at] at z
  exact z
theorem get_left : DGet H d (.str ("left" : Str)) (some (.int f)) := by
  have z := DGet.k (k := kL) h
  rw [tp_left] at z
  exact z
theorem set_at (b : Int) : DPut H d (.str ("at" : Str)) (.int b) (upd H d (.dK (tp l b f))) := by
  have z := DPut.k (k := kA) (v := .int b) h (by show 3 < sizeLine; decide)
  rw [put_at] at z
  exact z
theorem set_left (b : Int) : DPut H d (.str ("left" : Str)) (.int b) (upd H d (.dK (tp l a b))) := by
  have z := DPut.k (k := kL) (v := .int b) h (by show 3 < sizeLine; decide)
  rw [put_left] at z
  exact z
end
/-- at d a tape, of which at most n draws were made -/
def Tape (H : Hp) (d l : Addr) (n : Nat) : Prop := ∃ (ns : List Int) (a f : Int), H d = some (.dK (tp l a f)) ∧ H l = some (.lst (ns.map V.int)) ∧ ns ≠ [] ∧ ns.length ≤ 1000 ∧ 0 ≤ a ∧ a ≤ n
/-- all that stood stands, but at d -/
def But (d : Addr) (H H' : Hp) : Prop := ∀ b o, b ≠ d → H b = some o → H' b = some o
theorem But.refl {d : Addr} {H : Hp} : But d H H := fun _ _ _ e => e
theorem But.trans {d : Addr} {H H1 H2 : Hp} (a : But d H H1) (b : But d H1 H2) : But d H H2 := fun x o n e => b x o n (a x o n e)
theorem But.upd {d : Addr} {H H1 : Hp} {u : HO} (a : But d H H1) : But d H (upd H1 d u) := fun x o n e => by
  rw [upd_ne n]
  exact a x o n e
theorem But.new {d p : Addr} {H H1 : Hp} {u : HO} (a : But d H H1) (hp : H1 p = none) : But d H (L2.upd H1 p u) := fun x o n e => by
  rw [upd_ne (ne_of_none (a x o n e) hp)]
  exact a x o n e
def spDraw : Sp := fun vs H Q _ => ∃ (d l : Addr) (n : Nat) (m : Int), vs = [.ref d, .int m] ∧ Tape H d l n ∧ n ≤ 1000000 ∧ 0 < m ∧ m < 1000000 ∧
  ∀ H' r, But d H H' → Tape H' d l (n + 1) → 0 ≤ r → r < m → Q (.int r) H'
section
variable {P : Program} {w : World} {K : PySem.W.Frag} {mg : Str → Option Value} {base : Heap}
theorem scD : FnScope ["_law_tape", "_law_many", "_law_turn", "_law_size", "_law_cell", "_law_got"] ["_law_tape", "_law_many"] (defScope sDraw) := ⟨rfl, rfl, rfl, by decide +kernel, rfl, by decide +kernel, by decide +kernel⟩
theorem ok_draw {f : Addr} {fd : FuncData} (F : Fun K "_law_draw" "_law_draw" sDraw f fd) (mLen : mg "len" = none) (mInt : mg "int" = none) : FnOk P w K mg base CX0 1 f fd ["_law_tape", "_law_many"] spDraw := by
  refine F.ok scD (fun vs H Q E h => ?_) (fun cdv A outer s H vs Q E hr h => ?_)
  · obtain ⟨d, l, n, m, rfl, _⟩ := h
    rfl
  · obtain ⟨d, l, n, m, rfl, ⟨ns, a, f, hd, hl, hne, hlen, a0, an⟩, hn, m0, m1, q⟩ := h
    have hu := hu_of hr
    refine ⟨_, pss_cons (ps_if (pt_cmpR op_lt (pe_dget hu (pv 0) pe_str (fun _ _ => rfl)) (pv 1) (nomark _))
      (pss_cons (ps_par (i := 2) (j := 3) rfl scD.nd rfl rfl (by decide) rfl rfl (pa_cons (pe_dget hu (pv 0) pe_str (fun _ _ => rfl)) (pa_cons (pe_callB call_len_seq (by rfl) mLen PySem.boot_len (pa_cons (pe_dget hu (pv 0) pe_str (fun _ _ => rfl)) pa_nil)) pa_nil)) (by rfl))
      (pss_cons (ps_asg (pe_tup (pa_cons (pe_ix ix_list (pe_dget hu (pv 0) pe_str (fun _ _ => rfl)) (pe_op op_mod (pe_callTy call_int1 (by rfl) mInt (by decide +kernel) (pa_cons (pv 2) pa_nil)) (pv 3)) (fun _ _ => rfl)) (pa_cons (pe_op op_add (pv 2) pe_int) pa_nil)))
          (pg_tup rfl (pgs_cons (pg_name (i := 4) scD.nd rfl (.inl rfl)) (pgs_cons (pg_sub (pv 0) pe_str (set_dict hu)) pgs_nil))))
      (pss_cons (ps_dput hu (pv 0) pe_str (pe_op op_mod (pe_callTy call_int1 (by rfl) mInt (by decide +kernel) (pa_cons (pe_op op_pow (pe_op op_add (pe_op op_add (pe_op op_mod (pe_callTy call_int1 (by rfl) mInt (by decide +kernel) (pa_cons (pv 4) pa_nil)) pe_int) (pe_op op_mul pe_int (pv 2))) pe_int) pe_int) pa_nil)) (pe_op op_add (pe_op op_pow pe_int pe_int) pe_int)) rfl)
      (pss_one (ps_if (PW.pt (pw_and (pt_cmpR op_ge (pv 4) (pe_op op_pow pe_int pe_int) (nomark _)) (pw_and1 (pt_cmpR op_lt (pv 2) (pv 3) (nomark _)))))
        (pss_one (ps_dput hu (pv 0) pe_str (pe_op op_sub (pv 4) (pe_op op_pow pe_int pe_int)) rfl)) pss_nil)))))
      pss_nil)
      (pss_cons (ps_asg (pe_tup (pa_cons (pe_op op_mod (pe_callTy call_int1 (by rfl) mInt (by decide +kernel) (pa_cons (pe_dget hu (pv 0) pe_str (fun _ _ => rfl)) pa_nil)) (pv 1)) (pa_cons (pe_op op_fdivW (pe_dget hu (pv 0) pe_str (fun _ _ => rfl)) (pv 1)) pa_nil)))
          (pg_tup rfl (pgs_cons (pg_name (i := 5) scD.nd rfl (.inl rfl)) (pgs_cons (pg_sub (pv 0) pe_str (set_dict hu)) pgs_nil))))
      (pss_one (ps_ret (pv 5)))), ?_⟩
    refine ⟨_, rfl, d, _, rfl, get_left hd, _, rfl, _, _, rfl, rfl, _, rfl, ?_⟩
    refine ite2 (fun c => ?_) (fun c => ?_)
    · have e0 : ((ns.map V.int).length : Int) = (ns.length : Int) := by rw [List.length_map]
      have lp : 0 < ns.length := List.length_pos_iff.mpr hne
      obtain ⟨j, hj, ej⟩ : ∃ j : Nat, j < ns.length ∧ a % ((ns.map V.int).length : Int) = (j : Int) := by
        rw [e0]
        have h1 : 0 ≤ a % (ns.length : Int) := Int.emod_nonneg a (by omega)
        have h2 : a % (ns.length : Int) < (ns.length : Int) := Int.emod_lt_of_pos a (by omega)
        exact ⟨(a % (ns.length : Int)).toNat, by omega, by omega⟩
      have hat : atI (ns.map V.int) (j : Int) = some (.int ns[j]) := atI_nat (by rw [List.getElem?_map, List.getElem?_eq_getElem hj]; rfl)
      refine ⟨_, rfl, d, _, rfl, get_at hd, _, rfl, d, _, rfl, get_cells hd, l, _, rfl, .inl (SqL.of hl), _, _, rfl, ?_⟩
      refine ⟨_, rfl, d, _, rfl, get_cells hd, _, rfl, .inl ⟨_, rfl, _, rfl, _, _, rfl, rfl, (by show 0 < ((ns.map V.int).length : Int); omega), ?_⟩⟩
      refine ⟨l, _, _, .int ns[j], rfl, rfl, SqL.of hl, (by rw [ej]; exact hat), _, rfl, _, _, rfl, rfl, (by show 2 ≤ sizeLine; decide), fun t nt => ?_⟩
      have ndt : d ≠ t := ne_of_none hd nt
      have nlt : l ≠ t := ne_of_none hl nt
      have nld : l ≠ d := ne_of hl hd (by intro z; cases z)
      refine ⟨t, _, rfl, SqT.of upd_same, rfl, _, _, rfl, _, _, rfl, _, rfl, d, _, rfl, set_at (by rw [upd_ne ndt]; exact hd) _, rfl, ?_⟩
      generalize hcell : ns[j] = cell
      have h63 : 0 ≤ cell % 2147483563 := Int.emod_nonneg _ (by decide)
      have h64 : cell % 2147483563 < 2147483563 := Int.emod_lt_of_pos _ (by decide)
      refine ⟨_, rfl, .inl ⟨_, rfl, _, _, rfl, rfl, (by show (0 : Int) < 2147483563; decide), _, rfl, _, _, rfl, rfl, (.inl ⟨by decide, by decide⟩), _, _, rfl, rfl, _, _, rfl, rfl, _, _, rfl, rfl, ⟨by decide, by decide, by omega⟩, .inl ⟨_, rfl, _, _, rfl, rfl, ⟨by decide, by decide, by decide⟩, _, _, rfl, rfl, _, _, rfl, rfl, (by show (0 : Int) < 10 ^ 50 + 151; decide), ?_⟩⟩⟩
      refine ⟨_, rfl, d, _, rfl, set_left upd_same _, ?_⟩
      refine ⟨_, rfl, _, _, rfl, rfl, ⟨by decide, by decide, by decide⟩, _, _, rfl, rfl, _, rfl, ?_⟩
      refine ite2 (fun c1 => ?_) (fun c1 => ?_)
      · refine ⟨_, rfl, _, rfl, _, _, rfl, rfl, _, rfl, ?_⟩
        refine ite2 (fun c2 => ?_) (fun c2 => ?_)
        · refine ⟨_, rfl, _, _, rfl, rfl, ⟨by decide, by decide, by decide⟩, _, _, rfl, rfl, _, rfl, d, _, rfl, set_left upd_same _, ?_⟩
          refine ⟨_, rfl, d, _, rfl, get_left upd_same, .inl ⟨_, rfl, _, rfl, _, _, rfl, rfl, m0, _, rfl, d, _, rfl, get_left upd_same, _, rfl, _, _, rfl, rfl, wide_div (b := 64) m0 (by omega) (by decide) (by decide), (by show 2 ≤ sizeLine; decide), fun t2 nt2 => ?_⟩⟩
          have ndt2 : d ≠ t2 := ne_of_none upd_same nt2
          refine ⟨t2, _, rfl, SqT.of upd_same, rfl, _, _, rfl, _, _, rfl, _, rfl, d, _, rfl, set_left (by rw [upd_ne ndt2]; exact upd_same) _, rfl, _, rfl, q _ _ ((((But.refl : But d H H).new nt).upd.upd.upd).new nt2).upd ?_ (Int.emod_nonneg _ (by omega)) (Int.emod_lt_of_pos _ m0)⟩
          have nlt2 : l ≠ t2 := ne_of_none (by rw [upd_ne nld, upd_ne nld, upd_ne nld, upd_ne nlt]; exact hl) nt2
          exact ⟨ns, a + 1, _, upd_same, by rw [upd_ne nld, upd_ne nlt2, upd_ne nld, upd_ne nld, upd_ne nld, upd_ne nlt]; exact hl, hne, hlen, by omega, by push_cast; omega⟩
        · refine ⟨_, rfl, d, _, rfl, get_left upd_same, .inl ⟨_, rfl, _, rfl, _, _, rfl, rfl, m0, _, rfl, d, _, rfl, get_left upd_same, _, rfl, _, _, rfl, rfl, wide_div (b := 64) m0 (by omega) (by decide) (by decide), (by show 2 ≤ sizeLine; decide), fun t2 nt2 => ?_⟩⟩
          have ndt2 : d ≠ t2 := ne_of_none upd_same nt2
          refine ⟨t2, _, rfl, SqT.of upd_same, rfl, _, _, rfl, _, _, rfl, _, rfl, d, _, rfl, set_left (by rw [upd_ne ndt2]; exact upd_same) _, rfl, _, rfl, q _ _ ((((But.refl : But d H H).new nt).upd.upd).new nt2).upd ?_ (Int.emod_nonneg _ (by omega)) (Int.emod_lt_of_pos _ m0)⟩
          have nlt2 : l ≠ t2 := ne_of_none (by rw [upd_ne nld, upd_ne nld, upd_ne nlt]; exact hl) nt2
          exact ⟨ns, a + 1, _, upd_same, by rw [upd_ne nld, upd_ne nlt2, upd_ne nld, upd_ne nld, upd_ne nlt]; exact hl, hne, hlen, by omega, by push_cast; omega⟩
      · refine iteF ?_
        refine ⟨_, rfl, d, _, rfl, get_left upd_same, .inl ⟨_, rfl, _, rfl, _, _, rfl, rfl, m0, _, rfl, d, _, rfl, get_left upd_same, _, rfl, _, _, rfl, rfl, wide_div (b := 64) m0 (by omega) (by decide) (by decide), (by show 2 ≤ sizeLine; decide), fun t2 nt2 => ?_⟩⟩
        have ndt2 : d ≠ t2 := ne_of_none upd_same nt2
        refine ⟨t2, _, rfl, SqT.of upd_same, rfl, _, _, rfl, _, _, rfl, _, rfl, d, _, rfl, set_left (by rw [upd_ne ndt2]; exact upd_same) _, rfl, _, rfl, q _ _ ((((But.refl : But d H H).new nt).upd.upd).new nt2).upd ?_ (Int.emod_nonneg _ (by omega)) (Int.emod_lt_of_pos _ m0)⟩
        have nlt2 : l ≠ t2 := ne_of_none (by rw [upd_ne nld, upd_ne nld, upd_ne nlt]; exact hl) nt2
        exact ⟨ns, a + 1, _, upd_same, by rw [upd_ne nld, upd_ne nlt2, upd_ne nld, upd_ne nld, upd_ne nlt]; exact hl, hne, hlen, by omega, by push_cast; omega⟩
    · refine ⟨_, rfl, d, _, rfl, get_left hd, .inl ⟨_, rfl, _, rfl, _, _, rfl, rfl, m0, _, rfl, d, _, rfl, get_left hd, _, rfl, _, _, rfl, rfl, wide_div (b := 64) m0 (by omega) (by decide) (by decide), (by show 2 ≤ sizeLine; decide), fun t nt => ?_⟩⟩
      have ndt : d ≠ t := ne_of_none hd nt
      refine ⟨t, _, rfl, SqT.of upd_same, rfl, _, _, rfl, _, _, rfl, _, rfl, d, _, rfl, set_left (by rw [upd_ne ndt]; exact hd) _, rfl, _, rfl, q _ _ (((But.refl : But d H H)).new nt).upd ?_ (Int.emod_nonneg _ (by omega)) (Int.emod_lt_of_pos _ m0)⟩
      exact ⟨ns, a, _, upd_same, by rw [upd_ne (ne_of hl hd (by intro z; cases z)), upd_ne (ne_of_none hl nt)]; exact hl, hne, hlen, by omega, by push_cast; omega⟩
end
end Toy


namespace Toy
open PySem L2
section
variable {P : Program} {w : World} {K : PySem.W.Frag} {mg : Str → Option Value} {base : Heap}
theorem cut63 (ns : List Int) (h : ns.length ≤ 63) : cutV (ns.map V.int) none (some 63) = ns.map V.int := by
  unfold cutV
  rw [show HT.sIx (ns.map V.int).length (ns.map V.int).length (some 63) = min 63 (ns.map V.int).length from HT.sIx_nat _ _ 63, HT.sIx_none, List.length_map, show min 63 ns.length = ns.length by omega, List.drop_zero, Nat.sub_zero]
  exact List.take_of_length_le (by rw [List.length_map]; exact Nat.le_refl _)
theorem merge_tp (l : Addr) : mergeK [] [(kC, V.ref l), (kA, V.int 0), (kL, V.int 0)] = tp l 0 0 := by
  unfold mergeK
  simp only [List.foldl_cons, List.foldl_nil]
  unfold putK
  simp [k_ca, k_cl, k_al]
  rfl
def spBegin (K : PySem.W.Frag) : Sp := fun vs H Q _ => ∃ (a : Addr) (ns : List Int), vs = [.ref a] ∧ SqL K H a (ns.map V.int) ∧ ns.length ≤ 63 ∧ ∀ H' d l, Same H H' → H d = none → H l = none → l ≠ d → Tape H' d l 0 → Q (.ref d) H'
theorem scB : FnScope ["_law_script"] ["_law_script"] (defScope sBegin) := ⟨rfl, rfl, rfl, by decide +kernel, rfl, by decide +kernel, by decide +kernel⟩
theorem same_new {H H1 : Hp} {p : Addr} {u : HO} (a : Same H H1) (hp : H1 p = none) : Same H (upd H1 p u) := fun x o e => by
  rw [upd_ne (ne_of_none (a x o e) hp)]
  exact a x o e
theorem ok_begin {f : Addr} {fd : FuncData} (F : Fun K "_law_begin" "_law_begin" sBegin f fd) : FnOk P w K mg base CX0 1 f fd ["_law_script"] (spBegin K) := by
  refine F.ok scB (fun vs H Q E h => ?_) (fun cdv A outer s H vs Q E hr h => ?_)
  · obtain ⟨a, ns, rfl, _⟩ := h
    rfl
  · obtain ⟨a, ns, rfl, hS, hlen, q⟩ := h
    refine ⟨_, pss_one (ps_ret (pe_disp (pps_cons pe_str (pe_orT (pe_slice sl_list (pv 0) po_none (po_some pe_int)) (pe_one (pe_lst (pa_cons pe_int pa_nil)))) (pps_cons pe_str pe_int (pps_cons pe_str pe_int pps_nil))) (by rfl) (by rfl) (fun z => by cases z) (by decide))), ?_⟩
    intro p np
    have s1 : Same H (upd H p (.dK [])) := same_new (fun _ _ e => e) np
    refine ⟨_, rfl, 63, rfl, a, _, rfl, s1.seq hS, fun c nc => ?_⟩
    have npc : p ≠ c := ne_of_none upd_same nc
    refine ⟨_, .inl ⟨_, SqL.of upd_same, rfl⟩, ?_⟩
    have fin : ∀ (H2 : Hp) (l : Addr) (ms : List Int), H l = none → Same (upd H p (.dK [])) H2 → H2 l = some (.lst (ms.map V.int)) → ms ≠ [] → ms.length ≤ 1000 → Q (.ref p) (upd H2 p (.dK (mergeK [] [(kC, V.ref l), (kA, V.int 0), (kL, V.int 0)]))) := by
      intro H2 l ms nl s2 hl h1 h2
      have npl : l ≠ p := ne_of hl (s2 _ _ upd_same) (by intro z; cases z)
      rw [merge_tp]
      refine q _ p l (fun b o e => ?_) np nl npl ⟨ms, 0, 0, upd_same, by rw [upd_ne npl]; exact hl, h1, h2, Int.le_refl _, Int.le_refl _⟩
      rw [upd_ne (ne_of_none e np)]
      exact s2 _ _ (s1 _ _ e)
    refine ite2 (fun c1 => ?_) (fun c1 => ?_)
    · refine ⟨Eq.trans (upd_ne npc) upd_same, [(kC, V.ref c), (kA, V.int 0), (kL, V.int 0)], rfl, (by show 3 ≤ 15; decide), fin _ c ns (by rw [upd_ne npc.symm] at nc; exact nc) (same_new (fun _ _ e => e) nc) (by rw [upd_same, cut63 ns hlen]) ?_ (by omega)⟩
      intro z
      rw [z] at c1
      exact Bool.false_ne_true c1
    · refine ⟨(by show 1 ≤ sizeLine; decide), fun e ne => ?_⟩
      have npe : p ≠ e := ne_of_none (Eq.trans (upd_ne npc) upd_same) ne
      refine ⟨Eq.trans (upd_ne npe) (Eq.trans (upd_ne npc) upd_same), [(kC, V.ref e), (kA, V.int 0), (kL, V.int 0)], rfl, (by show 3 ≤ 15; decide), fin _ e [0] (by rw [upd_ne (ne_of_none upd_same ne).symm, upd_ne npe.symm] at ne; exact ne) (same_new (same_new (fun _ _ e => e) nc) ne) upd_same (by decide) (by decide)⟩
end
end Toy


namespace L2
open PySem PySem.Spec PyProof.Rows
/-! The law's own def, run by its caller alone (so that what runs around it is known: repr asks that). -/
/-- the body of the law, in the caller's surroundings -/
def BodyOk (P : Program) (w : World) (K : PySem.W.Frag) (mg : Str → Option Value) (base : Heap) (k : Nat) (N : List Str) (qual : Str) (sc : Scope) (body : List Stmt) (f : Addr) (sp : Sp) : Prop :=
  ∀ (cdv : Value) (s : Shared) (H : Hp) (vs : List V) (Q : VK) (E : XK), Room k (callerA.deeper (envOfC qual sc s.heap.objs.size f cdv)) → sp vs H Q E →
    ∃ t, PSs (cxOf CX0 P w K mg base N qual sc f cdv callerA [] s H E) body t ∧ t { nx := fun _ H' => Q .non H', rt := Q } (start N vs) H
section
variable {P : Program} {w : World} {K : PySem.W.Frag} {mg : Str → Option Value} {base : Heap} {k : Nat} {f : Addr} {x qual : Str} {params : Arguments} {body : List Stmt} {sc : Scope} {N ps : List Str} {sp : Sp} {fd : FuncData}
theorem body_run (F : FunD K x qual params body sc [] [] f fd) (S : FnScope N ps sc) (B : BodyOk P w K mg base k N qual sc body f sp) {s : Shared} {H : Hp} {args : Args} {us : List Value} {vs : List V} {Q : VK} {E : XK} (hr : Room (k + 1) callerA)
    (e0 : Env0 P w K mg base callerA [] s H) (hb : BindsTo s fd args (ps.zip us)) (r : Vals vs us) (hl : vs.length = ps.length) (h : sp vs H Q E) : codeAny (model P w) callerA (.call (.ref f) args) (CR CX0 [] P w H s Q E) s := by
  obtain ⟨oc, od, dV, kV, doc, pm, an, cdv, ct, osl, rfl, lk, hcd, _, _⟩ := F.ex
  have up : ∀ b o, base.get? b = some o → s.heap.get? b = some o := fun b o e => (e0.bs b o e).1
  have KX : K.In s.heap := e0.mod.kin.keeps up
  have kinds : ∀ y ∈ ps.zip us, sc.names.lookup y.1 = some .local ∨ (sc.names.lookup y.1 = some .cell ∧ ((cellsFrom (s.heap.objs.size + 1) sc.names []).lookup y.1).isSome = true) := by
    rintro ⟨n, v⟩ hy
    exact (S.par n (List.of_mem_zip hy).1).imp id fun q => ⟨q, PySem.W.cellsFrom_some _ _ _ (.inl q)⟩
  refine codeAny_call_function hr.depth (KX _ _ lk) rfl S.co S.gen rfl (PySem.W.codeRec_of KX hcd) (hb _ _ _ _ (wpAny_newFunctionEnv_cells S.kind kinds fun env he s1 x => ?_))
  subst he
  obtain ⟨t, ht, hq⟩ := B cdv s H vs Q E (hr.deeper _) h
  refine ⟨(e0.mod.nolimit.keeps up).keeps x.toInCall.keep, codeAny_func (wpAny_mono (ht.run [] s1 (start N vs) H _ (inv_start S hr.hd e0 hl r x) hq) (fun fl s' hs => ?_) fun e s' hs => hs)⟩
  cases fl with
  | ret u =>
    obtain ⟨v, σ', H', J, rv, q⟩ := hs
    exact ⟨v, H', J.os, J.bare, J.base, J.hok, rv, q⟩
  | next =>
    obtain ⟨σ', H', J, q⟩ := hs
    exact ⟨V.non, H', J.os, J.bare, J.base, J.hok, rfl, q⟩
  | brk =>
    obtain ⟨_, _, _, q⟩ := hs
    exact False.elim q
  | cont =>
    obtain ⟨_, _, _, q⟩ := hs
    exact False.elim q
end
end L2
namespace L2
open PySem PySem.Spec PyProof.Rows
section
variable {P : Program} {w : World} {K : PySem.W.Frag} {mg mb : Str → Option Value} {k : Nat} {a fa : Addr} {x qual nm : Str} {params : Arguments} {body : List Stmt} {sc : Scope} {N : List Str} {sp : Sp} {fd : FuncData} {s : Shared} {vs : List Value} {ns : List Int}
/-- where the abstract heap tracks the script alone (or nothing) -/
theorem ground_of {H : Hp} (KX : K.In s.heap) (g : s.heap.Ns mainGlobals mg) (b : s.heap.Ns builtinsNs mb) (bb : ∀ x : Str, x ≠ "__name__" → mb x = bootBuiltins x) (lim : s.heap.NoLimit) (gen : s.gens = #[])
    (ha : s.heap.get? a = some { cls := .type "list", data := .seq vs.toArray }) (hok : HOk P w H s.heap) (only : ∀ c, H c ≠ none → c = a) (out : H a ≠ none → K.lookup a = none) :
    ∃ base : Heap, K.In base ∧ base.Ns mainGlobals mg ∧ Env0 P w K mg base callerA [] s H := by
  have get : ∀ {c : Addr} {o : Obj}, s.heap.get? c = some o → H c = none → (hidT s.heap H).get? c = some o := fun e n => hidT_get e n
  have tab : ∀ {c : Addr} {m : Str → Option Value}, s.heap.Ns c m → (hidT s.heap H).Ns c m := by
    rintro c m ⟨o, es, ep, e, d, r⟩
    refine ⟨o, es, ep, get e (Classical.byContradiction fun q => ?_), d, r⟩
    have ca := only c q
    subst ca
    rw [ha] at e
    cases e
    cases (show Data.seq vs.toArray _ = Data.dict es ep from d)
  have kin : K.In (hidT s.heap H) := fun c o e => get (KX c o e) (Classical.byContradiction fun q => by
    have ca := only c q
    subst ca
    rw [out q] at e
    cases e)
  obtain ⟨mc, l1, l2⟩ := lim
  exact ⟨hidT s.heap H, kin, tab g, rfl, ⟨kin, tab g, ⟨mb, tab b, bb⟩, mc, tab l1, l2⟩, fun c o e => of_hidT e, Nat.le_of_eq (hidT_size _ _), trivial, (fun c hc => nomatch hc), hok, .of_eq gen⟩
theorem law_run (F : FunD K nm qual params body sc [] [] fa fd) (S : FnScope N [x] sc) (B : ∀ base : Heap, K.In base → base.Ns mainGlobals mg → BodyOk P w K mg base k N qual sc body fa sp) (hb : ∀ (s : Shared) (u : Value), BindsTo s fd ⟨[u], []⟩ [(x, u)]) (hr : Room (k + 1) callerA)
    (hsp : ∀ H : Hp, SqL K H a (ns.map V.int) → sp [.ref a] H (fun v _ => v = .bl true) fun _ _ _ => False)
    (KX : K.In s.heap) (g : s.heap.Ns mainGlobals mg) (b : s.heap.Ns builtinsNs mb) (bb : ∀ x : Str, x ≠ "__name__" → mb x = bootBuiltins x) (lim : s.heap.NoLimit) (gen : s.gens = #[])
    (ha : s.heap.get? a = some { cls := .type "list", data := .seq vs.toArray }) (hi : IntsAre vs ns) (hl : ns.length ≤ sizeLine) :
    codeAny (model P w) callerA (.call (.ref fa) ⟨[.ref a], []⟩) (fun r s' => r = .ok (.ret (.bool true)) ∧ OldK s.heap s'.heap ∧ s'.os = s.os ∧ AllBare s'.gens) s := by
  have run : ∀ H : Hp, SqL K H a (ns.map V.int) → HOk P w H s.heap → (∀ c, H c ≠ none → c = a) → (H a ≠ none → K.lookup a = none) → (∀ c u, H c = some u → ∃ o xs, u = .frz o (.lst xs)) →
      codeAny (model P w) callerA (.call (.ref fa) ⟨[.ref a], []⟩) (fun r s' => r = .ok (.ret (.bool true)) ∧ OldK s.heap s'.heap ∧ s'.os = s.os ∧ AllBare s'.gens) s := by
    intro H hS hok only out frz
    obtain ⟨base, k1, k2, e0⟩ := ground_of KX g b bb lim gen ha hok only out
    refine codeAny_mono (body_run (us := [.ref a]) (vs := [.ref a]) F S (B base k1 k2) hr e0 (hb s (.ref a)) (.cons rfl .nil) rfl (hsp H hS)) fun r s' q => ?_
    cases r with
    | error e => exact False.elim q
    | ok fl =>
      cases fl with
      | next => exact False.elim q
      | brk => exact False.elim q
      | cont => exact False.elim q
      | ret u =>
        obtain ⟨v, H', os, bare, un, hok', rv, ev⟩ := q
        have ev' : v = .bl true := ev
        subst ev'
        obtain rfl : u = Value.bool true := rv
        refine ⟨rfl, OldK.of_keep fun c o e => ?_, os, bare⟩
        cases q : H c with
        | none => exact un.keep c o e q (fun z => nomatch z) (fun z => nomatch z)
        | some u =>
          obtain ⟨ob, xs, rfl⟩ := frz c u q
          obtain ⟨e1, _⟩ := hok c _ q
          obtain ⟨e2, _⟩ := hok' c _ (un.frzs c ob _ q)
          rw [e] at e1
          cases e1
          exact e2
  have rv := vals_ints hi
  cases hk : K.lookup a with
  | some o =>
    have e := KX a o hk
    rw [ha] at e
    cases e
    exact run (fun _ => none) (.inr ⟨_, vs.toArray, _, hk, rfl, rfl, rfl, by rw [List.size_toArray, hi.length]; exact hl, by simpa using rv⟩) (fun c u z => nomatch z) (fun c z => absurd rfl z) (fun z => absurd rfl z) fun c u z => nomatch z
  | none =>
    refine run (fun c => if c = a then some (.frz { cls := .type "list", data := .seq vs.toArray } (.lst (ns.map V.int))) else none) (.inl (.inr ⟨{ cls := .type "list", data := .seq vs.toArray }, if_pos rfl⟩)) (fun c u z => ?_)
      (fun c z => Classical.byContradiction fun q => z (if_neg q)) (fun _ => hk) fun c u z => ?_
    · by_cases hc : c = a
      · have z' := (if_pos hc).symm.trans z
        cases z'
        subst hc
        exact ⟨ha, by rw [List.length_map]; exact hl, vs, _, rv, ha⟩
      · cases (if_neg hc).symm.trans z
    · by_cases hc : c = a
      · cases (if_pos hc).symm.trans z
        exact ⟨_, _, rfl⟩
      · cases (if_neg hc).symm.trans z
end
/-- the end -/
theorem walkG {l : PySem.W.OpenLaw} {n k : Nat} {q : Program} {loose : List Str} {XP : (Str → Option Value) → Heap → Prop} {YP : World → Heap → Prop} {d : DefRec} {x : Str} (hn : l.most = some n) (hn2 : n ≤ sizeLine) (hdf : d.params.defaults = []) (hr : Room (k + 1) callerA)
    (F : ∀ (w : World) (mg : Str → Option Value) (fa : Addr) (h : Heap), YP w h → h.Ns mainGlobals mg → mg d.name = some (.ref fa) →
      ∃ (K : PySem.W.Frag) (fd : FuncData) (nm qual : Str) (params : Arguments) (body : List Stmt) (sc : Scope) (N : List Str) (sp : Sp), K.In h ∧ FunD K nm qual params body sc [] [] fa fd ∧ FnScope N [x] sc ∧ (∀ (s : Shared) (u : Value), BindsTo s fd ⟨[u], []⟩ [(x, u)]) ∧
        (∀ (H : Hp) (a : Addr) (ns : List Int), ns.length ≤ n → SqL K H a (ns.map V.int) → sp [.ref a] H (fun v _ => v = .bl true) fun _ _ _ => False) ∧
        ∀ base : Heap, K.In base → base.Ns mainGlobals mg → BodyOk l.prog w K mg base k N qual sc body fa sp) :
    PySem.W.WalkO q loose XP YP l.row.toRowW d [] (fun f vs => PySem.call f vs) := by
  refine Att.attach_call hn hdf fun w s₀ s₁ mg mb fa o pm cd doc a vs ns G Y ho hd hcd hmg hobj hints hlen hg => ?_
  obtain ⟨K, fd, nm, qual, params, body, sc, N, sp, KX, FD, S, hb, hsp, B⟩ := F w mg fa _ Y G.T.g hmg
  exact law_run FD S B hb hr (fun H hS => hsp H a ns hlen hS) KX G.T.g G.T.b G.T.builtins G.T.nolimit hg hobj hints (Nat.le_trans hlen hn2)
end L2


namespace Toy
open PySem L2
theorem Same.delH {H H' : Hp} (s : Same H H') (z : Addr) : Same (L2.delH H z) (L2.delH H' z) := fun b o e => by
  by_cases h : b = z
  · rw [h, delH_same] at e
    cases e
  · rw [delH_ne h] at e ⊢
    exact s b o e
theorem Same.off {H : Hp} (z : Addr) : Same (L2.delH H z) H := fun b o e => by
  by_cases h : b = z
  · rw [h, delH_same] at e
    cases e
  · rw [delH_ne h] at e
    exact e
theorem But.off {H H' : Hp} {z : Addr} (s : But z H H') : Same (L2.delH H z) (L2.delH H' z) := fun b o e => by
  by_cases h : b = z
  · rw [h, delH_same] at e
    cases e
  · rw [delH_ne h] at e ⊢
    exact s b o h e
theorem Same.but {H H' : Hp} (s : Same H H') (z : Addr) : But z H H' := fun b o _ e => s b o e
theorem few {n : Nat} (h : n ≤ 1000) : n ≤ sizeLine := Nat.le_of_lt (small1000 h)
theorem Tape.same {H H' : Hp} {d l : Addr} {n : Nat} (t : Tape H d l n) (s : Same H H') : Tape H' d l n := by
  obtain ⟨ns, a, f, h1, h2, h3⟩ := t
  exact ⟨ns, a, f, s _ _ h1, s _ _ h2, h3⟩
abbrev partOf (st : Stmt) (i : Nat) : Stmt := (defBody st).getD i (.Pass ⟨0, 0, 0, 0⟩)
end Toy


namespace Toy
open PySem L2 PyProof.Rows
theorem dpStrs {K : PySem.W.Frag} {H : Hp} : ∀ ks : List Str, DpAll K H (ks.map V.str) (ks.map PyData.str)
  | [] => .nil
  | k :: ks => .cons (.str k) (dpStrs ks)
theorem layStrs : ∀ {ks : List Str}, (∀ k ∈ ks, PyData.strOk k = true) → PyData.canLayAll0 (ks.map PyData.str) = true
  | [], _ => by simp [PyData.canLayAll0]
  | k :: ks, h => by
    simp only [List.map_cons, PyData.canLayAll0, PyData.canLay0]
    rw [h k List.mem_cons_self, layStrs fun x hx => h x (List.mem_cons_of_mem _ hx)]
    rfl
theorem depthStrs : ∀ ks : List Str, PyData.depthAll (ks.map PyData.str) ≤ 1
  | [] => by simp [PyData.depthAll]
  | k :: ks => by
    have := depthStrs ks
    simp only [List.map_cons, PyData.depthAll, PyData.depth]
    omega
theorem shapedStrs {ks : List Str} (h : ∀ k ∈ ks, PyData.strOk k = true) : SeqAt.shaped (.list (ks.map PyData.str)) = true := by
  unfold SeqAt.shaped
  have z := depthStrs ks
  rw [show (PyData.list (ks.map PyData.str)).canLay0 = true by simp only [PyData.canLay0]; exact layStrs h, Bool.true_and]
  exact decide_eq_true (by simp only [PyData.depth]; omega)
theorem Tape.at {H : Hp} {d l : Addr} {n : Nat} (t : Tape H d l n) : (∃ o, H d = some o) ∧ ∃ o, H l = some o := by
  obtain ⟨ns, a, f, h1, h2, _⟩ := t
  exact ⟨⟨_, h1⟩, _, h2⟩
theorem Tape.upd {H : Hp} {d l p : Addr} {n : Nat} {u : HO} (t : Tape H d l n) (h1 : d ≠ p) (h2 : l ≠ p) : Tape (L2.upd H p u) d l n := by
  obtain ⟨ns, a, f, e1, e2, e3⟩ := t
  exact ⟨ns, a, f, by rw [upd_ne h1]; exact e1, by rw [upd_ne h2]; exact e2, e3⟩
theorem nodup_fst_put {kvs : List (Key × V)} {k : Key} {v : V} (h : k ∉ kvs.map (·.1)) : putK kvs k v = kvs ++ [(k, v)] := by
  unfold putK
  rw [if_neg]
  simpa using h
theorem merge_new : ∀ (more kvs : List (Key × V)), ((kvs ++ more).map (·.1)).Nodup → mergeK kvs more = kvs ++ more
  | [], kvs, _ => by simp [mergeK]
  | p :: more, kvs, h => by
    have e : mergeK kvs (p :: more) = mergeK (putK kvs p.1 p.2) more := by simp [mergeK]
    have hp : p.1 ∉ kvs.map (·.1) := by
      rw [List.map_append, List.nodup_append] at h
      intro z
      exact h.2.2 _ z _ (by simp) rfl
    rw [e, nodup_fst_put hp, merge_new more (kvs ++ [(p.1, p.2)]) (by simpa using h)]
    simp
theorem same_put {H H1 : Hp} {D : Addr} {u : HO} (s : Same H H1) (n : H D = none) : Same H (upd H1 D u) := fun b o e => by
  rw [upd_ne (ne_of_none e n)]
  exact s _ _ e
theorem same_id {H : Hp} : Same H H := fun _ _ z => z
theorem Tape.more {H : Hp} {d l : Addr} {n m : Nat} (t : Tape H d l n) (h : n ≤ m) : Tape H d l m := by
  obtain ⟨ns, a, f, h1, h2, h3, h4, h5, h6⟩ := t
  exact ⟨ns, a, f, h1, h2, h3, h4, h5, by omega⟩
abbrev sPick : Stmt := top 42
def spPick : Sp := fun vs H Q _ => ∃ (d l p : Addr) (n : Nat) (xs : List V), vs = [.ref d, .ref p] ∧ Tape H d l n ∧ n ≤ 1000000 ∧ H p = some (.lst xs) ∧ xs ≠ [] ∧ xs.length < 1000000 ∧
  ∀ H' v, But d H H' → Tape H' d l (n + 1) → v ∈ xs → Q v H'
section
variable {P : Program} {w : World} {K : PySem.W.Frag} {mg : Str → Option Value} {base : Heap}
theorem scP : FnScope ["_law_tape", "_law_items"] ["_law_tape", "_law_items"] (defScope sPick) := ⟨rfl, rfl, rfl, by decide +kernel, rfl, by decide +kernel, by decide +kernel⟩
theorem ok_pick {f fD : Addr} {fd fdD : FuncData} (F : Fun K "_law_pick" "_law_pick" sPick f fd) (GD : FnOk P w K mg base CX0 1 fD fdD ["_law_tape", "_law_many"] spDraw) (mD : mg "_law_draw" = some (.ref fD)) (kD : PySem.W.keepIn K (.ref fD) = true) (bD : Binds K fdD ["_law_tape", "_law_many"] []) (mLen : mg "len" = none) : FnOk P w K mg base CX0 2 f fd ["_law_tape", "_law_items"] spPick := by
  refine F.ok scP (fun vs H Q E h => ?_) (fun cdv A outer s H vs Q E hr h => ?_)
  · obtain ⟨d, l, p, n, xs, rfl, _⟩ := h
    rfl
  · obtain ⟨d, l, p, n, xs, rfl, hT, hn, hp, hne, hlen, q⟩ := h
    refine ⟨_, pss_one (ps_ret (pe_ix ix_list (pv 1) (pe_call GD hr rfl mD kD bD .nil pass0 (pa_cons (pv 0) (pa_cons (pe_callB call_len_seq (by rfl) mLen PySem.boot_len (pa_cons (pv 1) pa_nil)) pa_nil))) (fun _ _ => rfl))), ?_⟩
    have lp : 0 < xs.length := List.length_pos_iff.mpr hne
    refine ⟨_, rfl, _, rfl, _, rfl, p, _, rfl, .inl (SqL.of hp), d, l, n, _, rfl, hT, hn, (by omega), (by omega), fun H1 r hb hT1 r0 r1 => ?_⟩
    have npd : p ≠ d := by
      obtain ⟨ns, a, f, hd, _⟩ := hT
      exact ne_of hp hd (by intro z; cases z)
    obtain ⟨j, ej⟩ : ∃ j : Nat, r = (j : Int) := ⟨r.toNat, by omega⟩
    have hj : j < xs.length := by omega
    refine ⟨p, xs, _, xs[j], rfl, rfl, SqL.of (hb _ _ npd hp), (by rw [ej]; exact atI_nat (List.getElem?_eq_getElem hj)), q _ _ hb hT1 (List.getElem_mem hj)⟩
end
end Toy


namespace Toy
open PySem PySem.Spec L2 PyProof.Rows PySem.W
/-! ### the forms of filters and tests -/
def formsL0 : List (Str × List Str) := [("same", []), ("field", ["key"]), ("item", ["index"]), ("every", []), ("none", []), ("fail", []), ("pipe", ["filter", "filter"]), ("both", ["filter", "filter"])]
def formsL1 : List (Str × List Str) := [("if", ["test", "filter", "filter"]), ("try", ["walk"]), ("other", ["walk", "filter"]), ("leaf", ["leaf"]), ("list", ["filter"]), ("dict", ["entries"]), ("sum", ["filter", "filter"]), ("less", ["filter", "filter"])]
def formsL2 : List (Str × List Str) := [("product", ["filter", "filter"]), ("alike", ["filter", "filter"]), ("before", ["filter", "filter"]), ("as", ["filter", "free", "filter"]), ("name", ["free"]), ("when", ["filter", "filter", "filter"]), ("catch", ["filter", "filter"]), ("reduce", ["filter", "free", "filter", "filter"])]
def formsL3 : List (Str × List Str) := [("first", ["filter"]), ("take", ["index", "filter"]), ("fails", ["filter"]), ("def", ["free", "parameters", "filter", "filter"]), ("call", ["free", "filters"]), ("places", ["chooser"]), ("change", ["chooser", "filter"]), ("drop", ["chooser"])]
def formsL4 : List (Str × List Str) := [("add", ["chooser", "key", "filter"]), ("append", ["chooser", "filter"]), ("is", ["sort"]), ("equal", ["leaf"]), ("at", ["walk", "test"]), ("and", ["test", "test"]), ("or", ["test", "test"]), ("not", ["test"])]
def formsL : List (Str × List Str) := formsL0 ++ (formsL1 ++ (formsL2 ++ (formsL3 ++ formsL4)))
def formOf (w : Str) : Option (List Str) := formsL.lookup w
def kinds4 : List Str := ["filter", "test", "walk", "chooser"]
def PK (k : Str) : Bool := decide (k ∈ kinds4)
def okK (k : Str) : Bool := PyData.strOk k && decide (k.length ≤ 1000)
theorem okK_1 {k : Str} (h : okK k = true) : PyData.strOk k = true := by
  unfold okK at h
  rw [Bool.and_eq_true] at h
  exact h.1
theorem okK_2 {k : Str} (h : okK k = true) : k.length ≤ 1000 := by
  unfold okK at h
  rw [Bool.and_eq_true] at h
  exact of_decide_eq_true h.2
def isStrD : PyData → Bool
  | .str x => okK x
  | _ => false
def isIntD : PyData → Bool
  | .int _ => true
  | _ => false
def isLeafD : PyData → Bool
  | .none => true
  | .bool _ => true
  | .int _ => true
  | .str x => okK x && decide (37 ∉ x.cps.toList)
  | _ => false
def isEnt (p : PyData → Bool) : PyData → Bool
  | .tuple [.str x, g] => okK x && p g
  | _ => false
def tupAll (p : PyData → Bool) : PyData → Bool
  | .tuple gs => decide (gs.length ≤ 8) && gs.all p
  | _ => false
def fldOk (p : PyData → Bool) (k : Str) (f : PyData) : Bool :=
  if PK k = true then p f else if k = "filters" then tupAll p f else if k = "entries" then tupAll (isEnt p) f else if k = "parameters" then tupAll isStrD f
  else if k = "index" then isIntD f else if k = "leaf" then isLeafD f else isStrD f
def flds (p : PyData → Bool) : List Str → List PyData → Bool
  | [], [] => true
  | k :: ks, f :: fs => fldOk p k f && flds p ks fs
  | _, _ => false
def wf : Nat → PyData → Bool
  | 0, _ => false
  | n + 1, t => match t with
    | .tuple (.str w :: fs) => (match formOf w with
      | some ks => flds (wf n) ks fs
      | none => false)
    | _ => false
theorem all_mono {p q : PyData → Bool} (h : ∀ t, p t = true → q t = true) : ∀ l : List PyData, l.all p = true → l.all q = true := fun l k => List.all_eq_true.mpr fun x hx => h x (List.all_eq_true.mp k x hx)
theorem tupAll_mono {p q : PyData → Bool} (h : ∀ t, p t = true → q t = true) {f : PyData} (k : tupAll p f = true) : tupAll q f = true := by
  unfold tupAll at k ⊢
  split at k
  · rw [Bool.and_eq_true] at k ⊢
    exact ⟨k.1, all_mono h _ k.2⟩
  · cases k
theorem isEnt_mono {p q : PyData → Bool} (h : ∀ t, p t = true → q t = true) {f : PyData} (k : isEnt p f = true) : isEnt q f = true := by
  unfold isEnt at k ⊢
  split at k
  · rw [Bool.and_eq_true] at k ⊢
    exact ⟨k.1, h _ k.2⟩
  · cases k
theorem fld_mono {p q : PyData → Bool} (h : ∀ t, p t = true → q t = true) {k : Str} {f : PyData} (z : fldOk p k f = true) : fldOk q k f = true := by
  unfold fldOk at z ⊢
  split at z
  · rename_i c; rw [if_pos c]; exact h _ z
  · rename_i c; rw [if_neg c]
    split at z
    · rename_i c; rw [if_pos c]; exact tupAll_mono h z
    · rename_i c; rw [if_neg c]
      split at z
      · rename_i c; rw [if_pos c]; exact tupAll_mono (fun t => isEnt_mono h) z
      · rename_i c; rw [if_neg c]; exact z
theorem flds_mono {p q : PyData → Bool} (h : ∀ t, p t = true → q t = true) : ∀ {ks : List Str} {fs : List PyData}, flds p ks fs = true → flds q ks fs = true
  | [], [], _ => rfl
  | k :: ks, f :: fs, z => by
    simp only [flds, Bool.and_eq_true] at z ⊢
    exact ⟨fld_mono h z.1, flds_mono h z.2⟩
  | [], _ :: _, z => by cases z
  | _ :: _, [], z => by cases z
theorem wf_node {n : Nat} {w : Str} {fs : List PyData} {ks : List Str} (hk : formOf w = some ks) (h : flds (wf n) ks fs = true) : wf (n + 1) (.tuple (.str w :: fs)) = true := by
  rw [wf]
  simp only [hk]
  exact h
theorem wf_cases {n : Nat} {t : PyData} (h : wf (n + 1) t = true) : ∃ w fs ks, t = .tuple (.str w :: fs) ∧ formOf w = some ks ∧ flds (wf n) ks fs = true := by
  cases t with
  | tuple l =>
    cases l with
    | nil => simp [wf] at h
    | cons a fs =>
      cases a with
      | str w =>
        rw [wf] at h
        cases hk : formOf w with
        | none => simp only [hk] at h; exact absurd h Bool.false_ne_true
        | some ks =>
          simp only [hk] at h
          exact ⟨w, fs, ks, rfl, hk, h⟩
      | _ => simp [wf] at h
  | _ => simp [wf] at h
theorem wf_succ : ∀ {n : Nat} {t : PyData}, wf n t = true → wf (n + 1) t = true
  | 0, _, h => by cases h
  | n + 1, t, h => by
    obtain ⟨w, fs, ks, rfl, hk, hf⟩ := wf_cases h
    exact wf_node hk (flds_mono (fun t => wf_succ) hf)
theorem wf_mono {n m : Nat} {t : PyData} (h : wf n t = true) (k : n ≤ m) : wf m t = true := by
  induction k with
  | refl => exact h
  | step _ ih => exact wf_succ ih
theorem flds_len {p : PyData → Bool} : ∀ {ks : List Str} {fs : List PyData}, flds p ks fs = true → ks.length = fs.length
  | [], [], _ => rfl
  | k :: ks, f :: fs, z => by
    simp only [flds, Bool.and_eq_true] at z
    rw [List.length_cons, List.length_cons, flds_len z.2]
  | [], _ :: _, z => by cases z
  | _ :: _, [], z => by cases z
/-! ### terms on the heap -/
theorem same_seqT {K : PySem.W.Frag} {H H' : Hp} {a : Addr} {xs : List V} (e : Same H H') (h : SqT K H a xs) : SqT K H' a xs := by
  rcases h with (h | ⟨o, h⟩) | h
  · exact .inl (.inl (e _ _ h))
  · exact .inl (.inr ⟨o, e _ _ h⟩)
  · exact .inr h
mutual
theorem dpM {K : PySem.W.Frag} {H H' : Hp} (s : Same H H') : ∀ {v : V} {d : PyData}, Dp K H v d → Dp K H' v d
  | _, _, .non => .non
  | _, _, .bl b => .bl b
  | _, _, .int i => .int i
  | _, _, .str x => .str x
  | _, _, .lst h a => .lst (s.seq h) (dpAllM s a)
  | _, _, .tup h a => .tup (same_seqT s h) (dpAllM s a)
theorem dpAllM {K : PySem.W.Frag} {H H' : Hp} (s : Same H H') : ∀ {vs : List V} {ds : List PyData}, DpAll K H vs ds → DpAll K H' vs ds
  | _, _, .nil => .nil
  | _, _, .cons a b => .cons (dpM s a) (dpAllM s b)
end
/-- a filter or test, of at most n levels, off the tape -/
def Fv (K : PySem.W.Frag) (d : Addr) (H : Hp) (n : Nat) (v : V) : Prop := ∃ t, Dp K (delH H d) v t ∧ wf n t = true
theorem Fv.but {K : PySem.W.Frag} {d : Addr} {H H' : Hp} {n : Nat} {v : V} (h : Fv K d H n v) (b : But d H H') : Fv K d H' n v := by
  obtain ⟨t, h1, h2⟩ := h
  exact ⟨t, dpM (But.off b) h1, h2⟩
theorem Fv.mono {K : PySem.W.Frag} {d : Addr} {H : Hp} {n m : Nat} {v : V} (h : Fv K d H n v) (k : n ≤ m) : Fv K d H m v := by
  obtain ⟨t, h1, h2⟩ := h
  exact ⟨t, h1, wf_mono h2 k⟩
/-- fields of a form -/
def Fa (K : PySem.W.Frag) (d : Addr) (H : Hp) (n : Nat) (vs : List V) (ks : List Str) : Prop := ∃ fs, DpAll K (delH H d) vs fs ∧ flds (wf n) ks fs = true
section
variable {K : PySem.W.Frag} {d : Addr} {H : Hp} {n : Nat} {v : V} {vs : List V} {k : Str} {ks : List Str}
theorem fa_nil : Fa K d H n [] [] := ⟨[], .nil, rfl⟩
theorem fa_part (h : Fv K d H n v) (r : Fa K d H n vs ks) (hk : PK k = true) : Fa K d H n (v :: vs) (k :: ks) := by
  obtain ⟨t, h1, h2⟩ := h
  obtain ⟨fs, r1, r2⟩ := r
  refine ⟨t :: fs, .cons h1 r1, ?_⟩
  simp only [flds, Bool.and_eq_true]
  refine ⟨?_, r2⟩
  unfold fldOk
  rw [if_pos hk]
  exact h2
theorem fa_any {f : PyData} (h : Dp K (delH H d) v f) (ho : fldOk (wf n) k f = true) (r : Fa K d H n vs ks) : Fa K d H n (v :: vs) (k :: ks) := by
  obtain ⟨fs, r1, r2⟩ := r
  refine ⟨f :: fs, .cons h r1, ?_⟩
  simp only [flds, Bool.and_eq_true]
  exact ⟨ho, r2⟩
theorem mkF {w : Str} {T : Addr} (hd : ∃ o, H d = some o) (nT : H T = none) (hk : formOf w = some ks) (hf : Fa K d H n vs ks) : Fv K d (upd H T (.tup (.str w :: vs))) (n + 1) (.ref T) := by
  obtain ⟨fs, h1, h2⟩ := hf
  obtain ⟨o, ho⟩ := hd
  have nTd : T ≠ d := (ne_of_none ho nT).symm
  have s : Same (delH H d) (delH (upd H T (.tup (.str w :: vs))) d) := Same.delH (same_new same_id nT) d
  refine ⟨.tuple (.str w :: fs), .tup (SqT.of ((delH_ne nTd).trans upd_same)) (.cons (.str w) (dpAllM s h1)), ?_⟩
  exact wf_node hk h2
end
theorem pk_f : PK "filter" = true := by decide +kernel
theorem pk_t : PK "test" = true := by decide +kernel
theorem pk_w : PK "walk" = true := by decide +kernel
theorem pk_c : PK "chooser" = true := by decide +kernel
theorem fld_str {p : PyData → Bool} {x : Str} (h : okK x = true) (k : Str) (hk : k = "key" ∨ k = "free" ∨ k = "sort") : fldOk p k (.str x) = true := by
  rcases hk with rfl | rfl | rfl
  · rw [fldOk, if_neg (by decide +kernel), if_neg (by decide +kernel), if_neg (by decide +kernel), if_neg (by decide +kernel), if_neg (by decide +kernel), if_neg (by decide +kernel)]
    exact h
  · rw [fldOk, if_neg (by decide +kernel), if_neg (by decide +kernel), if_neg (by decide +kernel), if_neg (by decide +kernel), if_neg (by decide +kernel), if_neg (by decide +kernel)]
    exact h
  · rw [fldOk, if_neg (by decide +kernel), if_neg (by decide +kernel), if_neg (by decide +kernel), if_neg (by decide +kernel), if_neg (by decide +kernel), if_neg (by decide +kernel)]
    exact h
theorem fld_int {p : PyData → Bool} {i : Int} : fldOk p "index" (.int i) = true := by
  rw [fldOk, if_neg (by decide +kernel), if_neg (by decide +kernel), if_neg (by decide +kernel), if_neg (by decide +kernel), if_pos rfl]
  rfl
theorem fld_leaf {p : PyData → Bool} {f : PyData} (h : isLeafD f = true) : fldOk p "leaf" f = true := by
  rw [fldOk, if_neg (by decide +kernel), if_neg (by decide +kernel), if_neg (by decide +kernel), if_neg (by decide +kernel), if_neg (by decide +kernel), if_pos rfl]
  exact h
theorem fld_filters {p : PyData → Bool} {f : PyData} (h : tupAll p f = true) : fldOk p "filters" f = true := by
  rw [fldOk, if_neg (by decide +kernel), if_pos rfl]
  exact h
theorem fld_entries {p : PyData → Bool} {f : PyData} (h : tupAll (isEnt p) f = true) : fldOk p "entries" f = true := by
  rw [fldOk, if_neg (by decide +kernel), if_neg (by decide +kernel), if_pos rfl]
  exact h
theorem fld_params {p : PyData → Bool} {f : PyData} (h : tupAll isStrD f = true) : fldOk p "parameters" f = true := by
  rw [fldOk, if_neg (by decide +kernel), if_neg (by decide +kernel), if_neg (by decide +kernel), if_pos rfl]
  exact h
end Toy


namespace Toy
open PySem PySem.Spec L2 PyProof.Rows PySem.W
theorem dpAll_len {K : PySem.W.Frag} {H : Hp} : ∀ {vs : List V} {ds : List PyData}, DpAll K H vs ds → vs.length = ds.length
  | _, _, .nil => rfl
  | _, _, .cons _ t => congrArg Nat.succ (dpAll_len t)
theorem asg_run {te : TE} {g : TG} {rest : TS} {D : Ends} {σ : L2.St} {H : Hp} (h : te σ H fun x H1 => g x σ H1 fun σ2 H2 => rest D σ2 H2) : tSeq (tAsg te g) rest D σ H := h
theorem ret_run {te : TE} {D : Ends} {σ : L2.St} {H : Hp} (h : te σ H D.rt) : tRet te D σ H := h
/-! ### drawn things: what an expression draws, and what it gives -/
def Stb (d : Addr) (J : Hp → Prop) : Prop := ∀ H H', But d H H' → J H → J H'
def Dr (d l : Addr) (J : Hp → Prop) (te : TE) (σ : L2.St) (m : Nat) (R : Hp → V → Prop) : Prop := ∀ (H : Hp) (n : Nat) (Q : VK), J H → Tape H d l n → n + m ≤ 900000 → (∀ H' v, But d H H' → Tape H' d l (n + m) → R H' v → Q v H') → te σ H Q
def DrA (d l : Addr) (J : Hp → Prop) (ta : TA) (σ : L2.St) (m : Nat) (R : Hp → List V → Prop) : Prop := ∀ (H : Hp) (n : Nat) (Q : List V → Hp → Prop), J H → Tape H d l n → n + m ≤ 900000 → (∀ H' vs, But d H H' → Tape H' d l (n + m) → R H' vs → Q vs H') → ta σ H Q
def IsW (H : Hp) (v : V) : Prop := ∃ x, v = .str x ∧ okK x = true
def IsWk (k : List Str) (H : Hp) (v : V) : Prop := ∃ x, v = .str x ∧ formOf x = some k
section
variable {K : PySem.W.Frag} {d l : Addr} {J : Hp → Prop} {σ : L2.St} {te : TE} {ta : TA} {m m' n : Nat} {R R' : Hp → V → Prop} {RA : Hp → List V → Prop} {k : Str} {ks : List Str}
theorem Dr.mono (h : Dr d l J te σ m R) (k : ∀ H v, R H v → R' H v) (hm : m ≤ m') : Dr d l J te σ m' R' := fun H n Q j t b q => h H n Q j t (by omega) fun H' v b t r => q H' v b (t.more (by omega)) (k _ _ r)
theorem DrA.mono {RB : Hp → List V → Prop} (h : DrA d l J ta σ m RA) (k : ∀ H v, RA H v → RB H v) (hm : m ≤ m') : DrA d l J ta σ m' RB := fun H n Q j t b q => h H n Q j t (by omega) fun H' v b t r => q H' v b (t.more (by omega)) (k _ _ r)
theorem dr_const {c : V} (h : ∀ H, R H c) : Dr d l J (tC c) σ 0 R := fun H n Q _ t _ q => q H c (fun _ _ _ z => z) t (h H)
theorem dr_var {i : Nat} {v : V} (hi : σ[i]? = some (some v)) (h : ∀ H, J H → R H v) : Dr d l J (tVar i) σ 0 R := fun H n Q j t _ q => ⟨v, hi, q H v (fun _ _ _ z => z) t (h H j)⟩
theorem dra_nil (h : ∀ H, RA H []) : DrA d l J tNil σ 0 RA := fun H n Q _ t _ q => q H [] (fun _ _ _ z => z) t (h H)
theorem dra_cons {RB : Hp → List V → Prop} (sj : Stb d J) (h : Dr d l J te σ m R) (r : DrA d l J ta σ m' RA) (st : ∀ H H' v, But d H H' → R H v → R H' v) (hc : ∀ H v vs, R H v → RA H vs → RB H (v :: vs)) : DrA d l J (tCons te ta) σ (m + m') RB :=
  fun H n Q j t b q => h H n _ j t (by omega) fun H1 v b1 t1 r1 => r H1 (n + m) _ (sj _ _ b1 j) t1 (by omega) fun H2 vs b2 t2 r2 => q H2 (v :: vs) (b1.trans b2) (t2.more (by omega)) (hc _ _ _ (st _ _ _ b2 r1) r2)
/-! fields of a form -/
theorem daf_nil : DrA d l J tNil σ 0 (fun H vs => Fa K d H n vs []) := dra_nil fun _ => fa_nil
theorem daf_part (sj : Stb d J) (h : Dr d l J te σ m (fun H v => Fv K d H n v)) (r : DrA d l J ta σ m' (fun H vs => Fa K d H n vs ks)) (hk : PK k = true) : DrA d l J (tCons te ta) σ (m + m') (fun H vs => Fa K d H n vs (k :: ks)) :=
  dra_cons sj h r (fun _ _ _ b z => z.but b) fun _ _ _ a b => fa_part a b hk
theorem daf_str (sj : Stb d J) (h : Dr d l J te σ m IsW) (r : DrA d l J ta σ m' (fun H vs => Fa K d H n vs ks)) (hk : k = "key" ∨ k = "free" ∨ k = "sort") : DrA d l J (tCons te ta) σ (m + m') (fun H vs => Fa K d H n vs (k :: ks)) :=
  dra_cons sj h r (fun _ _ _ _ z => z) fun _ _ _ a b => by
    obtain ⟨x, rfl, hx⟩ := a
    exact fa_any (.str x) (fld_str hx k hk) b
theorem daf_int (sj : Stb d J) (h : Dr d l J te σ m (fun _ v => ∃ i, v = .int i)) (r : DrA d l J ta σ m' (fun H vs => Fa K d H n vs ks)) : DrA d l J (tCons te ta) σ (m + m') (fun H vs => Fa K d H n vs ("index" :: ks)) :=
  dra_cons sj h r (fun _ _ _ _ z => z) fun _ _ _ a b => by
    obtain ⟨i, rfl⟩ := a
    exact fa_any (.int i) fld_int b
theorem daf_any (sj : Stb d J) {F : PyData → Bool} (h : Dr d l J te σ m (fun H v => ∃ f, Dp K (delH H d) v f ∧ F f = true)) (r : DrA d l J ta σ m' (fun H vs => Fa K d H n vs ks)) (hk : ∀ f, F f = true → fldOk (wf n) k f = true) : DrA d l J (tCons te ta) σ (m + m') (fun H vs => Fa K d H n vs (k :: ks)) :=
  dra_cons sj h r (fun _ _ _ b ⟨f, z1, z2⟩ => ⟨f, dpM (But.off b) z1, z2⟩) fun _ _ _ ⟨f, a1, a2⟩ b => fa_any a1 (hk _ a2) b
/-- a tuple whose word is drawn -/
theorem dr_nodeW (sj : Stb d J) (h : Dr d l J te σ m (IsWk ks)) (r : DrA d l J ta σ m' (fun H vs => Fa K d H n vs ks)) (hl : ks.length ≤ 20) : Dr d l J (tTup (tCons te ta)) σ (m + m') (fun H v => Fv K d H (n + 1) v) :=
  fun H N Q j t b q => h H N _ j t (by omega) fun H1 v b1 t1 r1 => r H1 (N + m) _ (sj _ _ b1 j) t1 (by omega) fun H2 vs b2 t2 r2 => by
    obtain ⟨x, rfl, hx⟩ := r1
    have hl2 : vs.length ≤ 20 := by
      obtain ⟨fs, z1, z2⟩ := r2
      have e1 := flds_len z2
      have e2 : vs.length = fs.length := by
        exact dpAll_len z1
      omega
    refine ⟨few (by simp only [List.length_cons]; omega), fun T nT => ?_⟩
    have hd := t2.at.1
    obtain ⟨o, ho⟩ := hd
    refine q _ (.ref T) ((b1.trans b2).new nT) ?_ (mkF ⟨o, ho⟩ nT hx r2)
    have t3 : Tape H2 d l (N + (m + m')) := t2.more (by omega)
    exact t3.same (same_new same_id nT)
theorem dr_node {w : Str} (sj : Stb d J) (r : DrA d l J ta σ m (fun H vs => Fa K d H n vs ks)) (hk : formOf w = some ks) (hl : ks.length ≤ 20) : Dr d l J (tTup (tCons (tC (.str w)) ta)) σ m (fun H v => Fv K d H (n + 1) v) :=
  (dr_nodeW (m := 0) sj (dr_const fun _ => ⟨w, rfl, hk⟩) r hl).mono (fun _ _ z => z) (by omega)
/-! lists -/
def AllR (c : Nat) (R : Hp → V → Prop) (H : Hp) (vs : List V) : Prop := vs.length = c ∧ ∀ v ∈ vs, R H v
theorem dal_nil : DrA d l J tNil σ 0 (AllR 0 R) := dra_nil fun _ => ⟨rfl, fun v h => by simp at h⟩
theorem dal_cons {c : Nat} (sj : Stb d J) (sr : ∀ H H' v, But d H H' → R H v → R H' v) (h : Dr d l J te σ m R) (r : DrA d l J ta σ m' (AllR c R)) : DrA d l J (tCons te ta) σ (m + m') (AllR (c + 1) R) :=
  dra_cons sj h r sr fun _ _ _ a b => ⟨by rw [List.length_cons, b.1], fun v hv => by
    rcases List.mem_cons.mp hv with rfl | hv
    · exact a
    · exact b.2 v hv⟩
end
section
variable {P : Program} {w : World} {K : PySem.W.Frag} {mg : Str → Option Value} {base : Heap} {d l : Addr} {J : Hp → Prop} {σ : L2.St} {te : TE} {ta : TA} {m c : Nat} {R : Hp → V → Prop}
/-- a pick of a display -/
theorem dr_pick (sj : Stb d J) (h0 : σ[0]? = some (some (.ref d))) (sr : ∀ H H' v, But d H H' → R H v → R H' v) (r : DrA d l J ta σ m (AllR c R)) (hc : 0 < c ∧ c ≤ 100) : Dr d l J (tCall spPick [] E0 (tCons (tVar 0) (tCons (tLst ta) tNil))) σ (m + 1) R :=
  fun H n Q j t b q => ⟨_, h0, r H n _ j t (by omega) fun H1 vs b1 t1 ⟨hl, r1⟩ => ⟨few (by omega), fun T nT => by
    have s : Same H1 (upd H1 T (.lst vs)) := same_new same_id nT
    refine ⟨d, l, T, n + m, vs, rfl, t1.same s, by omega, upd_same, fun e => by rw [e] at hl; simp at hl; omega, by omega, fun H2 v b2 t2 hv => ?_⟩
    exact q H2 v ((b1.trans (Same.but s d)).trans b2) t2 (sr _ _ _ b2 (sr _ _ _ (Same.but s d) (r1 v hv)))⟩⟩
/-- a pick of a list that stands at a slot, and of a display put behind it -/
theorem dr_pick2 {i : Nat} {p : Addr} {xs : List V} (sj : Stb d J) (h0 : σ[0]? = some (some (.ref d))) (hi : σ[i]? = some (some (.ref p))) (hp : ∀ H, J H → H p = some (.lst xs) ∧ ∀ v ∈ xs, R H v) (sr : ∀ H H' v, But d H H' → R H v → R H' v) (r : DrA d l J ta σ m (AllR c R)) (hc : 0 < c ∧ c + xs.length ≤ 100) : Dr d l J (tCall spPick [] E0 (tCons (tVar 0) (tCons (tOp rCat (tVar i) (tLst ta)) tNil))) σ (m + 1) R :=
  fun H n Q j t b q => ⟨_, h0, ⟨_, hi, r H n _ j t (by omega) fun H1 vs b1 t1 ⟨hl, r1⟩ => ⟨few (by omega), fun T nT => by
    have s : Same H1 (upd H1 T (.lst vs)) := same_new same_id nT
    have j1 := sj _ _ b1 j
    obtain ⟨hp1, hr1⟩ := hp _ j1
    refine ⟨p, T, xs, vs, rfl, rfl, s _ _ hp1, upd_same, few (by omega), fun L nL => ?_⟩
    have s2 : Same H1 (upd (upd H1 T (.lst vs)) L (.lst (xs ++ vs))) := same_new s nL
    refine ⟨d, l, L, n + m, xs ++ vs, rfl, t1.same s2, by omega, upd_same, fun e => ?_, by rw [List.length_append]; omega, fun H2 v b2 t2 hv => ?_⟩
    · have := congrArg List.length e
      simp only [List.length_append, List.length_nil] at this
      omega
    · refine q H2 v ((b1.trans (Same.but s2 d)).trans b2) t2 (sr _ _ _ b2 (sr _ _ _ (Same.but s2 d) ?_))
      rcases List.mem_append.mp hv with z | z
      · exact hr1 v z
      · exact r1 v z⟩⟩⟩
/-- a new list -/
theorem lst_run (sr : ∀ H H' v, But d H H' → R H v → R H' v) (r : DrA d l J ta σ m (AllR c R)) (hc : c ≤ 100) {H : Hp} {n : Nat} {Q : VK} (j : J H) (t : Tape H d l n) (b : n + m ≤ 900000)
    (q : ∀ H' L vs, But d H H' → Tape H' d l (n + m) → L ≠ d → H' L = some (.lst vs) → AllR c R H' vs → Q (.ref L) H') : tLst ta σ H Q :=
  r H n _ j t b fun H1 vs b1 t1 r1 => ⟨few (by have := r1.1; omega), fun L nL => by
    have sL : Same H1 (upd H1 L (.lst vs)) := same_new same_id nL
    have nLd : L ≠ d := by
      obtain ⟨o, ho⟩ := t1.at.1
      exact (ne_of_none ho nL).symm
    exact q _ L vs (b1.trans (Same.but sL d)) (t1.same sL) nLd upd_same ⟨r1.1, fun v hv => sr _ _ _ (Same.but sL d) (r1.2 v hv)⟩⟩
/-- a draw of a number -/
theorem dr_draw {c : Int} (h0 : σ[0]? = some (some (.ref d))) (hc : 0 < c ∧ c < 1000) : Dr d l J (tCall spDraw [] E0 (tCons (tVar 0) (tCons (tC (.int c)) tNil))) σ 1 (fun _ v => ∃ i, v = .int i ∧ 0 ≤ i ∧ i < c) :=
  fun H n Q j t b q => ⟨_, h0, d, l, n, c, rfl, t, by omega, hc.1, by omega, fun H1 r b1 t1 r0 r1 => q H1 _ b1 t1 ⟨r, rfl, r0, r1⟩⟩
/-- a key of the list at a slot -/
theorem dr_key {i : Nat} {p : Addr} {ks : List Str} (h0 : σ[0]? = some (some (.ref d))) (hi : σ[i]? = some (some (.ref p))) (hp : ∀ H, J H → H p = some (.lst (ks.map V.str))) (hk : ks ≠ [] ∧ ks.length ≤ 100 ∧ ∀ k ∈ ks, okK k = true) : Dr d l J (tCall spPick [] E0 (tCons (tVar 0) (tCons (tVar i) tNil))) σ 1 IsW :=
  fun H n Q j t b q => ⟨_, h0, _, hi, d, l, p, n, _, rfl, t, by omega, hp _ j, fun e => hk.1 (List.map_eq_nil_iff.mp e), by rw [List.length_map]; omega, fun H1 v b1 t1 hv => by
    obtain ⟨x, hx, rfl⟩ := List.mem_map.mp hv
    exact q H1 _ b1 t1 ⟨x, rfl, hk.2.2 x hx⟩⟩
end
end Toy


namespace Toy
open PySem PySem.Spec L2 PyProof.Rows PySem.W
abbrev sLeaf : Stmt := top 43
abbrev sStep : Stmt := top 45
abbrev sTest : Stmt := top 44
abbrev sWalk : Stmt := top 46
theorem fo_same : formOf "same" = some ([] : List Str) := by decide +kernel
theorem fo_field : formOf "field" = some (["key"] : List Str) := by decide +kernel
theorem fo_item : formOf "item" = some (["index"] : List Str) := by decide +kernel
theorem fo_every : formOf "every" = some ([] : List Str) := by decide +kernel
theorem fo_none : formOf "none" = some ([] : List Str) := by decide +kernel
theorem fo_fail : formOf "fail" = some ([] : List Str) := by decide +kernel
theorem fo_pipe : formOf "pipe" = some (["filter", "filter"] : List Str) := by decide +kernel
theorem fo_both : formOf "both" = some (["filter", "filter"] : List Str) := by decide +kernel
theorem fo_if : formOf "if" = some (["test", "filter", "filter"] : List Str) := by decide +kernel
theorem fo_try : formOf "try" = some (["walk"] : List Str) := by decide +kernel
theorem fo_other : formOf "other" = some (["walk", "filter"] : List Str) := by decide +kernel
theorem fo_leaf : formOf "leaf" = some (["leaf"] : List Str) := by decide +kernel
theorem fo_list : formOf "list" = some (["filter"] : List Str) := by decide +kernel
theorem fo_dict : formOf "dict" = some (["entries"] : List Str) := by decide +kernel
theorem fo_sum : formOf "sum" = some (["filter", "filter"] : List Str) := by decide +kernel
theorem fo_less : formOf "less" = some (["filter", "filter"] : List Str) := by decide +kernel
theorem fo_product : formOf "product" = some (["filter", "filter"] : List Str) := by decide +kernel
theorem fo_alike : formOf "alike" = some (["filter", "filter"] : List Str) := by decide +kernel
theorem fo_before : formOf "before" = some (["filter", "filter"] : List Str) := by decide +kernel
theorem fo_as : formOf "as" = some (["filter", "free", "filter"] : List Str) := by decide +kernel
theorem fo_name : formOf "name" = some (["free"] : List Str) := by decide +kernel
theorem fo_when : formOf "when" = some (["filter", "filter", "filter"] : List Str) := by decide +kernel
theorem fo_catch : formOf "catch" = some (["filter", "filter"] : List Str) := by decide +kernel
theorem fo_reduce : formOf "reduce" = some (["filter", "free", "filter", "filter"] : List Str) := by decide +kernel
theorem fo_first : formOf "first" = some (["filter"] : List Str) := by decide +kernel
theorem fo_take : formOf "take" = some (["index", "filter"] : List Str) := by decide +kernel
theorem fo_fails : formOf "fails" = some (["filter"] : List Str) := by decide +kernel
theorem fo_def : formOf "def" = some (["free", "parameters", "filter", "filter"] : List Str) := by decide +kernel
theorem fo_call : formOf "call" = some (["free", "filters"] : List Str) := by decide +kernel
theorem fo_places : formOf "places" = some (["chooser"] : List Str) := by decide +kernel
theorem fo_change : formOf "change" = some (["chooser", "filter"] : List Str) := by decide +kernel
theorem fo_drop : formOf "drop" = some (["chooser"] : List Str) := by decide +kernel
theorem fo_add : formOf "add" = some (["chooser", "key", "filter"] : List Str) := by decide +kernel
theorem fo_append : formOf "append" = some (["chooser", "filter"] : List Str) := by decide +kernel
theorem fo_is : formOf "is" = some (["sort"] : List Str) := by decide +kernel
theorem fo_equal : formOf "equal" = some (["leaf"] : List Str) := by decide +kernel
theorem fo_at : formOf "at" = some (["walk", "test"] : List Str) := by decide +kernel
theorem fo_and : formOf "and" = some (["test", "test"] : List Str) := by decide +kernel
theorem fo_or : formOf "or" = some (["test", "test"] : List Str) := by decide +kernel
theorem fo_not : formOf "not" = some (["test"] : List Str) := by decide +kernel
def leafVs : List V := [.non, .bl false, .bl true, .int 0, .int 1, .int 0, .int 1, .int (-1), .int 2, .int (-2), .int (10 ^ 30), .str "", .str "a", .str "b", .str "ab", .str "it's", .non, .int 1]
def spLeaf : Sp := fun vs H Q _ => ∃ (d l : Addr) (n : Nat), vs = [.ref d] ∧ Tape H d l n ∧ n ≤ 1000000 ∧ ∀ H' v, But d H H' → Tape H' d l (n + 1) → v ∈ leafVs → Q v H'
section
variable {P : Program} {w : World} {K : PySem.W.Frag} {mg : Str → Option Value} {base : Heap}
theorem scLf : FnScope ["_law_tape"] ["_law_tape"] (defScope sLeaf) := ⟨rfl, rfl, rfl, by decide +kernel, rfl, by decide +kernel, by decide +kernel⟩
theorem ok_leaf {f fP : Addr} {fd fdP : FuncData} (F : Fun K "_law_leaf" "_law_leaf" sLeaf f fd) (GP : FnOk P w K mg base CX0 2 fP fdP ["_law_tape", "_law_items"] spPick) (mP : mg "_law_pick" = some (.ref fP)) (kP : PySem.W.keepIn K (.ref fP) = true) (bP : Binds K fdP ["_law_tape", "_law_items"] []) :
    FnOk P w K mg base CX0 3 f fd ["_law_tape"] spLeaf := by
  refine F.ok scLf (fun vs H Q E h => ?_) (fun cdv A outer s H vs Q E hr h => ?_)
  · obtain ⟨d, l, n, rfl, _⟩ := h
    rfl
  · obtain ⟨d, l, n, rfl, hT, hn, q⟩ := h
    refine ⟨_, pss_one (ps_ret (pe_call GP hr (by rfl) mP kP bP .nil pass0 (pa_cons (pv 0) (pa_cons (pe_lst (pa_cons pe_non (pa_cons pe_bl (pa_cons pe_bl (pa_cons pe_int (pa_cons pe_int (pa_cons pe_int (pa_cons pe_int
      (pa_cons (pe_un un_neg pe_int) (pa_cons pe_int (pa_cons (pe_un un_neg pe_int) (pa_cons (pe_op op_pow pe_int pe_int) (pa_cons pe_str (pa_cons pe_str (pa_cons pe_str (pa_cons pe_str (pa_cons pe_str (pa_cons pe_non (pa_cons pe_int pa_nil))))))))))))))))))) pa_nil)))), ?_⟩
    refine ⟨_, rfl, _, rfl, _, rfl, _, _, rfl, rfl, ⟨by decide, by decide, by decide⟩, few (by show 18 ≤ 1000; decide), fun p np => ?_⟩
    obtain ⟨hd, hl⟩ : (∃ o, H d = some o) ∧ ∃ o, H l = some o := by
      obtain ⟨ns, a, f, h1, h2, _⟩ := hT
      exact ⟨⟨_, h1⟩, _, h2⟩
    refine ⟨d, l, p, n, leafVs, rfl, hT.same (same_new (fun _ _ z => z) np), hn, upd_same, (by intro z; cases z), (by show 18 < 1000000; decide), fun H' v b t m => q H' v (fun x o n e => b x o n ((same_new (fun _ _ z => z) np) x o e)) t m⟩
end

def leafP : V → PyData
  | .bl b => .bool b
  | .int i => .int i
  | .str x => .str x
  | _ => .none
theorem leaf_ok {K : PySem.W.Frag} {v : V} (h : v ∈ leafVs) (H : Hp) : ∃ f, Dp K H v f ∧ isLeafD f = true := by
  unfold leafVs at h
  simp only [List.mem_cons, List.not_mem_nil, or_false] at h
  rcases h with rfl | rfl | rfl | rfl | rfl | rfl | rfl | rfl | rfl | rfl | rfl | rfl | rfl | rfl | rfl | rfl | rfl | rfl
  all_goals first | exact ⟨_, .non, by decide +kernel⟩ | exact ⟨_, .bl _, by decide +kernel⟩ | exact ⟨_, .int _, by decide +kernel⟩ | exact ⟨_, .str _, by decide +kernel⟩
/-- keys that are handed on -/
def KeysOk (ks : List Str) : Prop := ks ≠ [] ∧ ks.length ≤ 100 ∧ ∀ k ∈ ks, okK k = true
section
variable {d l : Addr} {J : Hp → Prop} {σ : L2.St}
theorem dr_leaf {K : PySem.W.Frag} (h0 : σ[0]? = some (some (.ref d))) : Dr d l J (tCall spLeaf [] E0 (tCons (tVar 0) tNil)) σ 1 (fun H v => ∃ f, Dp K (delH H d) v f ∧ isLeafD f = true) :=
  fun H n Q j t b q => ⟨_, h0, d, l, n, rfl, t, by omega, fun H1 v b1 t1 hv => q H1 v b1 t1 (leaf_ok hv _)⟩
theorem fv_st {K : PySem.W.Frag} {n : Nat} : ∀ H H' v, But d H H' → Fv K d H n v → Fv K d H' n v := fun _ _ _ b z => z.but b
end
theorem stb_list {d p : Addr} {xs : List V} (h : p ≠ d) : Stb d (fun H => H p = some (.lst xs)) := fun H H' b z => b _ _ h z
def spStep (K : PySem.W.Frag) : Sp := fun vs H Q _ => ∃ (d l p : Addr) (n : Nat) (ks : List Str), vs = [.ref d, .ref p] ∧ Tape H d l n ∧ n + 5 ≤ 900000 ∧ H p = some (.lst (ks.map V.str)) ∧ KeysOk ks ∧ ∀ H' v, But d H H' → Tape H' d l (n + 5) → Fv K d H' 1 v → Q v H'
section
variable {P : Program} {w : World} {K : PySem.W.Frag} {mg : Str → Option Value} {base : Heap}
theorem scSp : FnScope ["_law_tape", "_law_keys", "_law_some"] ["_law_tape", "_law_keys"] (defScope sStep) := ⟨rfl, rfl, rfl, by decide +kernel, rfl, by decide +kernel, by decide +kernel⟩
theorem ok_step {f fP fD : Addr} {fd fdP fdD : FuncData} (F : Fun K "_law_step" "_law_step" sStep f fd) (GP : FnOk P w K mg base CX0 2 fP fdP ["_law_tape", "_law_items"] spPick) (mP : mg "_law_pick" = some (.ref fP)) (kP : PySem.W.keepIn K (.ref fP) = true) (bP : Binds K fdP ["_law_tape", "_law_items"] [])
    (GD : FnOk P w K mg base CX0 1 fD fdD ["_law_tape", "_law_many"] spDraw) (mD : mg "_law_draw" = some (.ref fD)) (kD : PySem.W.keepIn K (.ref fD) = true) (bD : Binds K fdD ["_law_tape", "_law_many"] []) : FnOk P w K mg base CX0 3 f fd ["_law_tape", "_law_keys"] (spStep K) := by
  refine F.ok scSp (fun vs H Q E h => ?_) (fun cdv A outer s H vs Q E hr h => ?_)
  · obtain ⟨d, l, p, n, ks, rfl, _⟩ := h
    rfl
  · obtain ⟨d, l, p, n, ks, rfl, hT, hn, hp, hk, q⟩ := h
    have hr1 : Room 1 _ := hr.mono (show 1 ≤ 2 by omega)
    refine ⟨_, pss_cons (ps_set (i := 2) scSp.nd rfl (Or.inl rfl) (pe_lst (pa_cons (pe_tup (pa_cons pe_str pa_nil)) (pa_cons (pe_tup (pa_cons pe_str (pa_cons (pe_call GP hr (by rfl) mP kP bP .nil pass0 (pa_cons (pv 0) (pa_cons (pv 1) pa_nil))) pa_nil))) (pa_cons (pe_tup (pa_cons pe_str (pa_cons (pe_call GP hr (by rfl) mP kP bP .nil pass0 (pa_cons (pv 0) (pa_cons (pv 1) pa_nil))) pa_nil)))
        (pa_cons (pe_tup (pa_cons pe_str (pa_cons (pe_call GD hr1 (by rfl) mD kD bD .nil pass0 (pa_cons (pv 0) (pa_cons pe_int pa_nil))) pa_nil))) (pa_cons (pe_tup (pa_cons pe_str pa_nil)) pa_nil)))))))
      (pss_one (ps_ret (pe_call GP hr (by rfl) mP kP bP .nil pass0 (pa_cons (pv 0) (pa_cons (pe_op op_cat (pv 2) (pe_lst (pa_cons (pe_tup (pa_cons pe_str (pa_cons pe_int pa_nil))) (pa_cons (pe_tup (pa_cons pe_str pa_nil)) pa_nil)))) pa_nil))))), ?_⟩
    have npd : p ≠ d := by
      obtain ⟨ns, a, f, hd, _⟩ := hT
      exact ne_of hp hd (by intro z; cases z)
    have sj : Stb d (fun H => H p = some (.lst (ks.map V.str))) := stb_list npd
    have key : Dr d l (fun H => H p = some (.lst (ks.map V.str))) (tCall spPick [] E0 (tCons (tVar 0) (tCons (tVar 1) tNil))) [some (.ref d), some (.ref p), none] 1 IsW := dr_key rfl rfl (fun _ z => z) hk
    have a1 := dal_cons (R := fun H v => Fv K d H 1 v) sj fv_st (dr_node sj daf_nil fo_same (by decide)) (dal_cons sj fv_st (dr_node sj (daf_str sj key daf_nil (.inl rfl)) fo_field (by decide)) (dal_cons sj fv_st (dr_node sj (daf_str sj key daf_nil (.inl rfl)) fo_field (by decide))
      (dal_cons sj fv_st (dr_node sj (daf_int sj ((dr_draw (c := 3) rfl (by decide)).mono (fun _ _ ⟨i, e, _⟩ => ⟨i, e⟩) (Nat.le_refl _)) daf_nil) fo_item (by decide)) (dal_cons sj fv_st (dr_node sj daf_nil fo_none (by decide)) dal_nil))))
    refine asg_run (lst_run fv_st a1 (by decide) hp hT (by omega) fun H2 L vs b2 t2 nLd hL r2 => ?_)
    have t2 : Tape H2 d l (n + 3) := t2.more (by omega)
    have hl := r2.1
    let J2 : Hp → Prop := fun H => H L = some (.lst vs) ∧ ∀ v ∈ vs, Fv K d H 1 v
    have sj2 : Stb d J2 := fun Ha Hb b z => ⟨b _ _ nLd z.1, fun v hv => (z.2 v hv).but b⟩
    have a2 := dal_cons (l := l) (σ := [some (.ref d), some (.ref p), some (.ref L)]) (J := J2) (R := fun H v => Fv K d H 1 v) sj2 fv_st (dr_node sj2 (daf_int sj2 (dr_const fun _ => ⟨0, rfl⟩) daf_nil) fo_item (by decide)) (dal_cons sj2 fv_st (dr_node sj2 daf_nil fo_fail (by decide)) dal_nil)
    refine ret_run (dr_pick2 sj2 rfl rfl (fun _ z => z) fv_st a2 ⟨by omega, by omega⟩ H2 (n + 3) _ ⟨hL, r2.2⟩ t2 (by omega) fun H3 v b3 t3 r3 => q H3 v (b2.trans b3) (t3.more (by omega)) r3)
end
end Toy


namespace Toy
open PySem PySem.Spec L2 PyProof.Rows PySem.W
def cT (m : Nat) : Nat := 10 * 4 ^ m
theorem cT_pos (m : Nat) : 10 ≤ cT m := by
  have : 1 ≤ 4 ^ m := Nat.pos_of_ne_zero (by simp)
  unfold cT
  omega
theorem cT_succ (m : Nat) : cT (m + 1) = 4 * cT m := by
  unfold cT
  rw [Nat.pow_succ]
  omega
def spTm (K : PySem.W.Frag) (j : Nat) : Sp := fun vs H Q _ => ∃ (d l p : Addr) (n m : Nat) (ks : List Str), m < j ∧ vs = [.ref d, .ref p, .int m] ∧ Tape H d l n ∧ n + cT m ≤ 900000 ∧ H p = some (.lst (ks.map V.str)) ∧ KeysOk ks ∧ ∀ H' v, But d H H' → Tape H' d l (n + cT m) → Fv K d H' (m + 1) v → Q v H'
abbrev JK (p : Addr) (ks : List Str) : Hp → Prop := fun H => H p = some (.lst (ks.map V.str))
abbrev tSub (i : Nat) : TE := tOp (rI0 fun i j => .int (i - j)) (tVar i) (tC (.int 1))
section
variable {K : PySem.W.Frag} {d l p : Addr} {σ : L2.St} {ks : List Str}
theorem dr_tm {j m : Nat} (h0 : σ[0]? = some (some (.ref d))) (h1 : σ[1]? = some (some (.ref p))) (h2 : σ[2]? = some (some (.int ((m + 1 : Nat) : Int)))) (hm : m < j) (hk : KeysOk ks) : Dr d l (JK p ks) (tCall (spTm K j) [] E0 (tCons (tVar 0) (tCons (tVar 1) (tCons (tSub 2) tNil)))) σ (cT m) (fun H v => Fv K d H (m + 1) v) :=
  fun H n Q j t b q => ⟨_, h0, _, h1, _, h2, _, _, rfl, rfl, d, l, p, n, m, ks, hm, by
    show [V.ref d, V.ref p, V.int (((m + 1 : Nat) : Int) - 1)] = _
    rw [show ((m + 1 : Nat) : Int) - 1 = (m : Int) by omega], t, b, j, hk, q⟩
theorem dr_step (h0 : σ[0]? = some (some (.ref d))) (h1 : σ[1]? = some (some (.ref p))) (hk : KeysOk ks) : Dr d l (JK p ks) (tCall (spStep K) [] E0 (tCons (tVar 0) (tCons (tVar 1) tNil))) σ 5 (fun H v => Fv K d H 1 v) :=
  fun H n Q j t b q => ⟨_, h0, _, h1, d, l, p, n, ks, rfl, t, b, j, hk, q⟩
theorem dr_txt {J : Hp → Prop} {x : Str} (h : okK x = true) : Dr d l J (tC (.str x)) σ 0 IsW := dr_const fun _ => ⟨x, rfl, h⟩
theorem dr_word {J : Hp → Prop} {x : Str} {k : List Str} (h : formOf x = some k) : Dr d l J (tC (.str x)) σ 0 (IsWk k) := dr_const fun _ => ⟨x, rfl, h⟩
theorem st_w : ∀ (H H' : Hp) v, But d H H' → IsW H v → IsW H' v := fun _ _ _ _ z => z
theorem st_k {k : List Str} : ∀ (H H' : Hp) v, But d H H' → IsWk k H v → IsWk k H' v := fun _ _ _ _ z => z
end
abbrev NTt : List Str := ["_law_tape", "_law_keys", "_law_deep", "_law_way"]
section
variable {P : Program} {w : World} {K : PySem.W.Frag} {mg : Str → Option Value} {base : Heap}
theorem scTt : FnScope NTt ["_law_tape", "_law_keys", "_law_deep"] (defScope sTest) := ⟨rfl, rfl, rfl, by decide +kernel, rfl, by decide +kernel, by decide +kernel⟩
theorem scWk : FnScope NTt ["_law_tape", "_law_keys", "_law_deep"] (defScope sWalk) := ⟨rfl, rfl, rfl, by decide +kernel, rfl, by decide +kernel, by decide +kernel⟩
theorem np_of {H : Hp} {d l p : Addr} {n : Nat} {xs : List V} (t : Tape H d l n) (h : H p = some (.lst xs)) : p ≠ d := by
  obtain ⟨ns, a, f, hd, _⟩ := t
  exact ne_of h hd (by intro z; cases z)
theorem ok_test1 {j : Nat} {f fP fD fL fW : Addr} {fd fdP fdD fdL fdW : FuncData} (F : Fun K "_law_test" "_law_test" sTest f fd) (GP : FnOk P w K mg base CX0 2 fP fdP ["_law_tape", "_law_items"] spPick) (mP : mg "_law_pick" = some (.ref fP)) (kP : PySem.W.keepIn K (.ref fP) = true) (bP : Binds K fdP ["_law_tape", "_law_items"] [])
    (GD : FnOk P w K mg base CX0 1 fD fdD ["_law_tape", "_law_many"] spDraw) (mD : mg "_law_draw" = some (.ref fD)) (kD : PySem.W.keepIn K (.ref fD) = true) (bD : Binds K fdD ["_law_tape", "_law_many"] [])
    (GL : FnOk P w K mg base CX0 3 fL fdL ["_law_tape"] spLeaf) (mL : mg "_law_leaf" = some (.ref fL)) (kL : PySem.W.keepIn K (.ref fL) = true) (bL : Binds K fdL ["_law_tape"] [])
    (mF : mg "_law_test" = some (.ref f)) (kF : PySem.W.keepIn K (.ref f) = true) (bF : Binds K fd ["_law_tape", "_law_keys", "_law_deep"] []) (mW : mg "_law_walk" = some (.ref fW)) (kW : PySem.W.keepIn K (.ref fW) = true) (bW : Binds K fdW ["_law_tape", "_law_keys", "_law_deep"] [])
    (ihT : FnOk P w K mg base CX0 (j + 4) f fd ["_law_tape", "_law_keys", "_law_deep"] (spTm K j)) (ihW : FnOk P w K mg base CX0 (j + 4) fW fdW ["_law_tape", "_law_keys", "_law_deep"] (spTm K j)) : FnOk P w K mg base CX0 (j + 5) f fd ["_law_tape", "_law_keys", "_law_deep"] (spTm K (j + 1)) := by
  refine F.ok (k := j + 4) scTt (fun vs H Q E h => ?_) (fun cdv A outer s H vs Q E hr h => ?_)
  · obtain ⟨d, l, p, n, m, ks, _, rfl, _⟩ := h
    rfl
  · obtain ⟨d, l, p, n, m, ks, hmj, rfl, hT, hn, hp, hk, q⟩ := h
    have hr1 : Room 1 _ := hr.mono (show 1 ≤ j + 4 by omega)
    have hr2 : Room 2 _ := hr.mono (show 2 ≤ j + 4 by omega)
    have hr3 : Room 3 _ := hr.mono (show 3 ≤ j + 4 by omega)
    refine ⟨_, pss_cons (ps_set (i := 3) scTt.nd rfl (Or.inl rfl) (pe_ifExp (pt_cmpR op_gt (pv 2) pe_int (nomark _)) (pe_call GD hr1 (by rfl) mD kD bD .nil pass0 (pa_cons (pv 0) (pa_cons pe_int pa_nil))) (pe_call GD hr1 (by rfl) mD kD bD .nil pass0 (pa_cons (pv 0) (pa_cons pe_int pa_nil)))))
      (pss_cons (ps_if (pt_cmpR op_lt (pv 3) pe_int (nomark _)) (pss_one (ps_ret (pe_tup (pa_cons pe_str (pa_cons (pe_call GP hr2 (by rfl) mP kP bP .nil pass0 (pa_cons (pv 0) (pa_cons (pe_lst (pa_cons pe_str (pa_cons pe_str (pa_cons pe_str (pa_cons pe_str (pa_cons pe_str (pa_cons pe_str (pa_cons pe_str (pa_cons pe_str (pa_cons pe_str pa_nil)))))))))) pa_nil))) pa_nil))))) pss_nil)
      (pss_cons (ps_if (pt_cmpR op_eq (pv 3) pe_int (nomark _)) (pss_one (ps_ret (pe_tup (pa_cons pe_str (pa_cons (pe_call GL hr3 (by rfl) mL kL bL .nil pass0 (pa_cons (pv 0) pa_nil)) pa_nil))))) pss_nil)
      (pss_cons (ps_if (pt_cmpR op_eq (pv 3) pe_int (nomark _)) (pss_one (ps_ret (pe_tup (pa_cons pe_str (pa_cons (pe_call ihW hr (by rfl) mW kW bW .nil pass0 (pa_cons (pv 0) (pa_cons (pv 1) (pa_cons (pe_op op_sub (pv 2) pe_int) pa_nil)))) (pa_cons (pe_call ihT hr (by rfl) mF kF bF .nil pass0 (pa_cons (pv 0) (pa_cons (pv 1) (pa_cons (pe_op op_sub (pv 2) pe_int) pa_nil)))) pa_nil)))))) pss_nil)
      (pss_cons (ps_if (pt_cmpR op_eq (pv 3) pe_int (nomark _)) (pss_one (ps_ret (pe_tup (pa_cons pe_str (pa_cons (pe_call ihT hr (by rfl) mF kF bF .nil pass0 (pa_cons (pv 0) (pa_cons (pv 1) (pa_cons (pe_op op_sub (pv 2) pe_int) pa_nil)))) pa_nil))))) pss_nil)
      (pss_one (ps_ret (pe_tup (pa_cons (pe_call GP hr2 (by rfl) mP kP bP .nil pass0 (pa_cons (pv 0) (pa_cons (pe_lst (pa_cons pe_str (pa_cons pe_str pa_nil))) pa_nil))) (pa_cons (pe_call ihT hr (by rfl) mF kF bF .nil pass0 (pa_cons (pv 0) (pa_cons (pv 1) (pa_cons (pe_op op_sub (pv 2) pe_int) pa_nil)))) (pa_cons (pe_call ihT hr (by rfl) mF kF bF .nil pass0 (pa_cons (pv 0) (pa_cons (pv 1) (pa_cons (pe_op op_sub (pv 2) pe_int) pa_nil)))) pa_nil)))))))))), ?_⟩
    have cp := cT_pos m
    have sj : Stb d (JK p ks) := stb_list (np_of hT hp)
    have a_is : ∀ r : Int, Dr d l (JK p ks) _ [some (.ref d), some (.ref p), some (.int m), some (.int r)] _ (fun H v => Fv K d H 1 v) := fun r => dr_node sj (daf_str sj (dr_pick sj rfl st_w (dal_cons sj st_w (dr_txt (x := "null") (by decide +kernel)) (dal_cons sj st_w (dr_txt (x := "no") (by decide +kernel)) (dal_cons sj st_w (dr_txt (x := "yes") (by decide +kernel)) (dal_cons sj st_w (dr_txt (x := "number") (by decide +kernel)) (dal_cons sj st_w (dr_txt (x := "text") (by decide +kernel)) (dal_cons sj st_w (dr_txt (x := "list") (by decide +kernel)) (dal_cons sj st_w (dr_txt (x := "dict") (by decide +kernel)) (dal_cons sj st_w (dr_txt (x := "list") (by decide +kernel)) (dal_cons sj st_w (dr_txt (x := "dict") (by decide +kernel)) dal_nil))))))))) (by decide)) daf_nil (.inr (.inr rfl))) fo_is (by decide)
    have a_eq : ∀ r : Int, Dr d l (JK p ks) _ [some (.ref d), some (.ref p), some (.int m), some (.int r)] _ (fun H v => Fv K d H 1 v) := fun r => dr_node sj (daf_any sj (F := isLeafD) (dr_leaf (K := K) rfl) daf_nil (fun f h => fld_leaf h)) fo_equal (by decide)
    refine ⟨_, rfl, _, _, rfl, rfl, _, rfl, ite2 (fun c => ?_) (fun c => ?_)⟩
    · have c0 : 0 < (m : Int) := of_decide_eq_true c
      obtain ⟨k, rfl⟩ : ∃ k, m = k + 1 := ⟨m - 1, by omega⟩
      have ck := cT_pos k
      have cs := cT_succ k
      have tm : ∀ r : Int, Dr d l (JK p ks) _ [some (.ref d), some (.ref p), some (.int ((k + 1 : Nat) : Int)), some (.int r)] _ (fun H v => Fv K d H (k + 1) v) := fun r => dr_tm (j := j) rfl rfl rfl (by omega) hk
      refine ⟨_, rfl, d, l, n, 7, rfl, hT, by omega, by decide, by decide, fun H1 r b1 t1 r0 r1 => ?_⟩
      have hp1 := sj _ _ b1 hp
      refine ⟨_, rfl, _, _, rfl, rfl, _, rfl, ite2 (fun c1 => ?_) (fun c1 => ?_)⟩
      · exact ret_run (a_is r H1 (n + 1) _ hp1 t1 (by omega) fun H2 v b2 t2 r2 => q H2 v (b1.trans b2) (t2.more (by omega)) (r2.mono (by omega)))
      refine ⟨_, rfl, rfl, _, rfl, ite2 (fun c2 => ?_) (fun c2 => ?_)⟩
      · exact ret_run (a_eq r H1 (n + 1) _ hp1 t1 (by omega) fun H2 v b2 t2 r2 => q H2 v (b1.trans b2) (t2.more (by omega)) (r2.mono (by omega)))
      refine ⟨_, rfl, rfl, _, rfl, ite2 (fun c3 => ?_) (fun c3 => ?_)⟩
      · exact ret_run (dr_node sj (daf_part sj (tm r) (daf_part sj (tm r) daf_nil pk_t) pk_w) fo_at (by decide) H1 (n + 1) _ hp1 t1 (by omega) fun H2 v b2 t2 r2 => q H2 v (b1.trans b2) (t2.more (by omega)) (r2.mono (by omega)))
      refine ⟨_, rfl, rfl, _, rfl, ite2 (fun c4 => ?_) (fun c4 => ?_)⟩
      · exact ret_run (dr_node sj (daf_part sj (tm r) daf_nil pk_t) fo_not (by decide) H1 (n + 1) _ hp1 t1 (by omega) fun H2 v b2 t2 r2 => q H2 v (b1.trans b2) (t2.more (by omega)) (r2.mono (by omega)))
      · exact ret_run (dr_nodeW sj (dr_pick sj rfl st_k (dal_cons sj st_k (dr_word fo_and) (dal_cons sj st_k (dr_word fo_or) dal_nil)) (by decide)) (daf_part sj (tm r) (daf_part sj (tm r) daf_nil pk_t) pk_t) (by decide) H1 (n + 1) _ hp1 t1 (by omega) fun H2 v b2 t2 r2 => q H2 v (b1.trans b2) (t2.more (by omega)) (r2.mono (by omega)))
    · refine ⟨_, rfl, d, l, n, 3, rfl, hT, by omega, by decide, by decide, fun H1 r b1 t1 r0 r1 => ?_⟩
      have hp1 := sj _ _ b1 hp
      refine ⟨_, rfl, _, _, rfl, rfl, _, rfl, ite2 (fun c1 => ?_) (fun c1 => ?_)⟩
      · exact ret_run (a_is r H1 (n + 1) _ hp1 t1 (by omega) fun H2 v b2 t2 r2 => q H2 v (b1.trans b2) (t2.more (by omega)) (r2.mono (by omega)))
      refine ⟨_, rfl, rfl, _, rfl, ite2 (fun c2 => ?_) (fun c2 => ?_)⟩
      · exact ret_run (a_eq r H1 (n + 1) _ hp1 t1 (by omega) fun H2 v b2 t2 r2 => q H2 v (b1.trans b2) (t2.more (by omega)) (r2.mono (by omega)))
      · exfalso
        have x1 : ¬ r < 2 := fun z => c1 (decide_eq_true z)
        have x2 : ¬ r = 2 := fun z => c2 (decide_eq_true (by rw [z]))
        omega
end
end Toy


namespace Toy
open PySem PySem.Spec L2 PyProof.Rows PySem.W
abbrev sChs : Stmt := top 47
section
variable {P : Program} {w : World} {K : PySem.W.Frag} {mg : Str → Option Value} {base : Heap}
theorem scCh : FnScope NTt ["_law_tape", "_law_keys", "_law_deep"] (defScope sChs) := ⟨rfl, rfl, rfl, by decide +kernel, rfl, by decide +kernel, by decide +kernel⟩
theorem ok_walk1 {j : Nat} {f fS fD fT : Addr} {fd fdS fdD fdT : FuncData} (F : Fun K "_law_walk" "_law_walk" sWalk f fd) (GS : FnOk P w K mg base CX0 3 fS fdS ["_law_tape", "_law_keys"] (spStep K)) (mS : mg "_law_step" = some (.ref fS)) (kS : PySem.W.keepIn K (.ref fS) = true) (bS : Binds K fdS ["_law_tape", "_law_keys"] [])
    (GD : FnOk P w K mg base CX0 1 fD fdD ["_law_tape", "_law_many"] spDraw) (mD : mg "_law_draw" = some (.ref fD)) (kD : PySem.W.keepIn K (.ref fD) = true) (bD : Binds K fdD ["_law_tape", "_law_many"] [])
    (mF : mg "_law_walk" = some (.ref f)) (kF : PySem.W.keepIn K (.ref f) = true) (bF : Binds K fd ["_law_tape", "_law_keys", "_law_deep"] []) (mT : mg "_law_test" = some (.ref fT)) (kT : PySem.W.keepIn K (.ref fT) = true) (bT : Binds K fdT ["_law_tape", "_law_keys", "_law_deep"] [])
    (ihT : FnOk P w K mg base CX0 (j + 4) fT fdT ["_law_tape", "_law_keys", "_law_deep"] (spTm K j)) (ihW : FnOk P w K mg base CX0 (j + 4) f fd ["_law_tape", "_law_keys", "_law_deep"] (spTm K j)) : FnOk P w K mg base CX0 (j + 5) f fd ["_law_tape", "_law_keys", "_law_deep"] (spTm K (j + 1)) := by
  refine F.ok (k := j + 4) scWk (fun vs H Q E h => ?_) (fun cdv A outer s H vs Q E hr h => ?_)
  · obtain ⟨d, l, p, n, m, ks, _, rfl, _⟩ := h
    rfl
  · obtain ⟨d, l, p, n, m, ks, hmj, rfl, hT, hn, hp, hk, q⟩ := h
    have hr1 : Room 1 _ := hr.mono (show 1 ≤ j + 4 by omega)
    have hr3 : Room 3 _ := hr.mono (show 3 ≤ j + 4 by omega)
    refine ⟨_, pss_cons (ps_set (i := 3) scWk.nd rfl (Or.inl rfl) (pe_ifExp (pt_cmpR op_gt (pv 2) pe_int (nomark _)) (pe_call GD hr1 (by rfl) mD kD bD .nil pass0 (pa_cons (pv 0) (pa_cons pe_int pa_nil))) pe_int))
      (pss_cons (ps_if (pt_cmpR op_lt (pv 3) pe_int (nomark _)) (pss_one (ps_ret (pe_call GS hr3 (by rfl) mS kS bS .nil pass0 (pa_cons (pv 0) (pa_cons (pv 1) pa_nil))))) pss_nil)
      (pss_cons (ps_if (pt_cmpR op_eq (pv 3) pe_int (nomark _)) (pss_one (ps_ret (pe_tup (pa_cons pe_str (pa_cons (pe_call ihW hr (by rfl) mF kF bF .nil pass0 (pa_cons (pv 0) (pa_cons (pv 1) (pa_cons (pe_op op_sub (pv 2) pe_int) pa_nil)))) (pa_cons (pe_call ihW hr (by rfl) mF kF bF .nil pass0 (pa_cons (pv 0) (pa_cons (pv 1) (pa_cons (pe_op op_sub (pv 2) pe_int) pa_nil)))) pa_nil)))))) pss_nil)
      (pss_one (ps_ret (pe_tup (pa_cons pe_str (pa_cons (pe_call ihT hr (by rfl) mT kT bT .nil pass0 (pa_cons (pv 0) (pa_cons (pv 1) (pa_cons (pe_op op_sub (pv 2) pe_int) pa_nil)))) (pa_cons (pe_call ihW hr (by rfl) mF kF bF .nil pass0 (pa_cons (pv 0) (pa_cons (pv 1) (pa_cons (pe_op op_sub (pv 2) pe_int) pa_nil)))) (pa_cons (pe_call ihW hr (by rfl) mF kF bF .nil pass0 (pa_cons (pv 0) (pa_cons (pv 1) (pa_cons (pe_op op_sub (pv 2) pe_int) pa_nil)))) pa_nil))))))))), ?_⟩
    have cp := cT_pos m
    have sj : Stb d (JK p ks) := stb_list (np_of hT hp)
    have a_st : ∀ r : Int, Dr d l (JK p ks) _ [some (.ref d), some (.ref p), some (.int m), some (.int r)] _ (fun H v => Fv K d H 1 v) := fun r => dr_step rfl rfl hk
    refine ⟨_, rfl, _, _, rfl, rfl, _, rfl, ite2 (fun c => ?_) (fun c => ?_)⟩
    · have c0 : 0 < (m : Int) := of_decide_eq_true c
      obtain ⟨k, rfl⟩ : ∃ k, m = k + 1 := ⟨m - 1, by omega⟩
      have ck := cT_pos k
      have cs := cT_succ k
      have tm : ∀ r : Int, Dr d l (JK p ks) _ [some (.ref d), some (.ref p), some (.int ((k + 1 : Nat) : Int)), some (.int r)] _ (fun H v => Fv K d H (k + 1) v) := fun r => dr_tm (j := j) rfl rfl rfl (by omega) hk
      refine ⟨_, rfl, d, l, n, 4, rfl, hT, by omega, by decide, by decide, fun H1 r b1 t1 r0 r1 => ?_⟩
      have hp1 := sj _ _ b1 hp
      refine ⟨_, rfl, _, _, rfl, rfl, _, rfl, ite2 (fun c1 => ?_) (fun c1 => ?_)⟩
      · exact ret_run (a_st r H1 (n + 1) _ hp1 t1 (by omega) fun H2 v b2 t2 r2 => q H2 v (b1.trans b2) (t2.more (by omega)) (r2.mono (by omega)))
      refine ⟨_, rfl, rfl, _, rfl, ite2 (fun c2 => ?_) (fun c2 => ?_)⟩
      · exact ret_run (dr_node sj (daf_part sj (tm r) (daf_part sj (tm r) daf_nil pk_f) pk_f) fo_pipe (by decide) H1 (n + 1) _ hp1 t1 (by omega) fun H2 v b2 t2 r2 => q H2 v (b1.trans b2) (t2.more (by omega)) (r2.mono (by omega)))
      · exact ret_run (dr_node sj (daf_part sj (tm r) (daf_part sj (tm r) (daf_part sj (tm r) daf_nil pk_f) pk_f) pk_t) fo_if (by decide) H1 (n + 1) _ hp1 t1 (by omega) fun H2 v b2 t2 r2 => q H2 v (b1.trans b2) (t2.more (by omega)) (r2.mono (by omega)))
    · refine ⟨_, rfl, _, _, rfl, rfl, _, rfl, ite2 (fun c1 => ?_) (fun c1 => absurd rfl c1)⟩
      exact ret_run (a_st 0 H n _ hp hT (by omega) fun H2 v b2 t2 r2 => q H2 v b2 (t2.more (by omega)) (r2.mono (by omega)))
theorem ok_chs1 {j : Nat} {f fS fD fT fW : Addr} {fd fdS fdD fdT fdW : FuncData} (F : Fun K "_law_chooser" "_law_chooser" sChs f fd) (GS : FnOk P w K mg base CX0 3 fS fdS ["_law_tape", "_law_keys"] (spStep K)) (mS : mg "_law_step" = some (.ref fS)) (kS : PySem.W.keepIn K (.ref fS) = true) (bS : Binds K fdS ["_law_tape", "_law_keys"] [])
    (GD : FnOk P w K mg base CX0 1 fD fdD ["_law_tape", "_law_many"] spDraw) (mD : mg "_law_draw" = some (.ref fD)) (kD : PySem.W.keepIn K (.ref fD) = true) (bD : Binds K fdD ["_law_tape", "_law_many"] [])
    (mF : mg "_law_chooser" = some (.ref f)) (kF : PySem.W.keepIn K (.ref f) = true) (bF : Binds K fd ["_law_tape", "_law_keys", "_law_deep"] []) (mT : mg "_law_test" = some (.ref fT)) (kT : PySem.W.keepIn K (.ref fT) = true) (bT : Binds K fdT ["_law_tape", "_law_keys", "_law_deep"] []) (mW : mg "_law_walk" = some (.ref fW)) (kW : PySem.W.keepIn K (.ref fW) = true) (bW : Binds K fdW ["_law_tape", "_law_keys", "_law_deep"] [])
    (ihT : FnOk P w K mg base CX0 (j + 4) fT fdT ["_law_tape", "_law_keys", "_law_deep"] (spTm K j)) (ihW : FnOk P w K mg base CX0 (j + 4) fW fdW ["_law_tape", "_law_keys", "_law_deep"] (spTm K j)) (ihC : FnOk P w K mg base CX0 (j + 4) f fd ["_law_tape", "_law_keys", "_law_deep"] (spTm K j)) : FnOk P w K mg base CX0 (j + 5) f fd ["_law_tape", "_law_keys", "_law_deep"] (spTm K (j + 1)) := by
  refine F.ok (k := j + 4) scCh (fun vs H Q E h => ?_) (fun cdv A outer s H vs Q E hr h => ?_)
  · obtain ⟨d, l, p, n, m, ks, _, rfl, _⟩ := h
    rfl
  · obtain ⟨d, l, p, n, m, ks, hmj, rfl, hT, hn, hp, hk, q⟩ := h
    have hr1 : Room 1 _ := hr.mono (show 1 ≤ j + 4 by omega)
    have hr3 : Room 3 _ := hr.mono (show 3 ≤ j + 4 by omega)
    refine ⟨_, pss_cons (ps_set (i := 3) scCh.nd rfl (Or.inl rfl) (pe_ifExp (pt_cmpR op_gt (pv 2) pe_int (nomark _)) (pe_call GD hr1 (by rfl) mD kD bD .nil pass0 (pa_cons (pv 0) (pa_cons pe_int pa_nil))) (pe_call GD hr1 (by rfl) mD kD bD .nil pass0 (pa_cons (pv 0) (pa_cons pe_int pa_nil)))))
      (pss_cons (ps_if (pt_cmpR op_eq (pv 3) pe_int (nomark _)) (pss_one (ps_ret (pe_call GS hr3 (by rfl) mS kS bS .nil pass0 (pa_cons (pv 0) (pa_cons (pv 1) pa_nil))))) pss_nil)
      (pss_cons (ps_if (pt_cmpR op_eq (pv 3) pe_int (nomark _)) (pss_one (ps_ret (pe_tup (pa_cons pe_str pa_nil)))) pss_nil)
      (pss_cons (ps_if (pt_cmpR op_lt (pv 3) pe_int (nomark _)) (pss_one (ps_ret (pe_tup (pa_cons pe_str (pa_cons (pe_call ihC hr (by rfl) mF kF bF .nil pass0 (pa_cons (pv 0) (pa_cons (pv 1) (pa_cons (pe_op op_sub (pv 2) pe_int) pa_nil)))) (pa_cons (pe_call ihC hr (by rfl) mF kF bF .nil pass0 (pa_cons (pv 0) (pa_cons (pv 1) (pa_cons (pe_op op_sub (pv 2) pe_int) pa_nil)))) pa_nil)))))) pss_nil)
      (pss_cons (ps_if (pt_cmpR op_lt (pv 3) pe_int (nomark _)) (pss_one (ps_ret (pe_tup (pa_cons pe_str (pa_cons (pe_call ihC hr (by rfl) mF kF bF .nil pass0 (pa_cons (pv 0) (pa_cons (pv 1) (pa_cons (pe_op op_sub (pv 2) pe_int) pa_nil)))) (pa_cons (pe_call ihC hr (by rfl) mF kF bF .nil pass0 (pa_cons (pv 0) (pa_cons (pv 1) (pa_cons (pe_op op_sub (pv 2) pe_int) pa_nil)))) pa_nil)))))) pss_nil)
      (pss_cons (ps_if (pt_cmpR op_eq (pv 3) pe_int (nomark _)) (pss_one (ps_ret (pe_tup (pa_cons pe_str (pa_cons (pe_call ihT hr (by rfl) mT kT bT .nil pass0 (pa_cons (pv 0) (pa_cons (pv 1) (pa_cons (pe_op op_sub (pv 2) pe_int) pa_nil)))) (pa_cons (pe_call ihC hr (by rfl) mF kF bF .nil pass0 (pa_cons (pv 0) (pa_cons (pv 1) (pa_cons (pe_op op_sub (pv 2) pe_int) pa_nil)))) (pa_cons (pe_call ihC hr (by rfl) mF kF bF .nil pass0 (pa_cons (pv 0) (pa_cons (pv 1) (pa_cons (pe_op op_sub (pv 2) pe_int) pa_nil)))) pa_nil))))))) pss_nil)
      (pss_cons (ps_if (pt_cmpR op_eq (pv 3) pe_int (nomark _)) (pss_one (ps_ret (pe_tup (pa_cons pe_str (pa_cons (pe_call ihW hr (by rfl) mW kW bW .nil pass0 (pa_cons (pv 0) (pa_cons (pv 1) (pa_cons (pe_op op_sub (pv 2) pe_int) pa_nil)))) pa_nil))))) pss_nil)
      (pss_one (ps_ret (pe_tup (pa_cons pe_str (pa_cons (pe_call ihW hr (by rfl) mW kW bW .nil pass0 (pa_cons (pv 0) (pa_cons (pv 1) (pa_cons (pe_op op_sub (pv 2) pe_int) pa_nil)))) (pa_cons (pe_call ihC hr (by rfl) mF kF bF .nil pass0 (pa_cons (pv 0) (pa_cons (pv 1) (pa_cons (pe_op op_sub (pv 2) pe_int) pa_nil)))) pa_nil)))))))))))), ?_⟩
    have cp := cT_pos m
    have sj : Stb d (JK p ks) := stb_list (np_of hT hp)
    have a_st : ∀ r : Int, Dr d l (JK p ks) _ [some (.ref d), some (.ref p), some (.int m), some (.int r)] _ (fun H v => Fv K d H 1 v) := fun r => dr_step rfl rfl hk
    have a_ev : ∀ r : Int, Dr d l (JK p ks) _ [some (.ref d), some (.ref p), some (.int m), some (.int r)] _ (fun H v => Fv K d H 1 v) := fun r => dr_node sj daf_nil fo_every (by decide)
    refine ⟨_, rfl, _, _, rfl, rfl, _, rfl, ite2 (fun c => ?_) (fun c => ?_)⟩
    · have c0 : 0 < (m : Int) := of_decide_eq_true c
      obtain ⟨k, rfl⟩ : ∃ k, m = k + 1 := ⟨m - 1, by omega⟩
      have ck := cT_pos k
      have cs := cT_succ k
      have tm : ∀ r : Int, Dr d l (JK p ks) _ [some (.ref d), some (.ref p), some (.int ((k + 1 : Nat) : Int)), some (.int r)] _ (fun H v => Fv K d H (k + 1) v) := fun r => dr_tm (j := j) rfl rfl rfl (by omega) hk
      refine ⟨_, rfl, d, l, n, 9, rfl, hT, by omega, by decide, by decide, fun H1 r b1 t1 r0 r1 => ?_⟩
      have hp1 := sj _ _ b1 hp
      refine ⟨_, rfl, rfl, _, rfl, ite2 (fun c1 => ?_) (fun c1 => ?_)⟩
      · exact ret_run (a_st r H1 (n + 1) _ hp1 t1 (by omega) fun H2 v b2 t2 r2 => q H2 v (b1.trans b2) (t2.more (by omega)) (r2.mono (by omega)))
      refine ⟨_, rfl, rfl, _, rfl, ite2 (fun c2 => ?_) (fun c2 => ?_)⟩
      · exact ret_run (a_ev r H1 (n + 1) _ hp1 t1 (by omega) fun H2 v b2 t2 r2 => q H2 v (b1.trans b2) (t2.more (by omega)) (r2.mono (by omega)))
      refine ⟨_, rfl, _, _, rfl, rfl, _, rfl, ite2 (fun c3 => ?_) (fun c3 => ?_)⟩
      · exact ret_run (dr_node sj (daf_part sj (tm r) (daf_part sj (tm r) daf_nil pk_f) pk_f) fo_pipe (by decide) H1 (n + 1) _ hp1 t1 (by omega) fun H2 v b2 t2 r2 => q H2 v (b1.trans b2) (t2.more (by omega)) (r2.mono (by omega)))
      refine ⟨_, rfl, _, _, rfl, rfl, _, rfl, ite2 (fun c4 => ?_) (fun c4 => ?_)⟩
      · exact ret_run (dr_node sj (daf_part sj (tm r) (daf_part sj (tm r) daf_nil pk_f) pk_f) fo_both (by decide) H1 (n + 1) _ hp1 t1 (by omega) fun H2 v b2 t2 r2 => q H2 v (b1.trans b2) (t2.more (by omega)) (r2.mono (by omega)))
      refine ⟨_, rfl, rfl, _, rfl, ite2 (fun c5 => ?_) (fun c5 => ?_)⟩
      · exact ret_run (dr_node sj (daf_part sj (tm r) (daf_part sj (tm r) (daf_part sj (tm r) daf_nil pk_f) pk_f) pk_t) fo_if (by decide) H1 (n + 1) _ hp1 t1 (by omega) fun H2 v b2 t2 r2 => q H2 v (b1.trans b2) (t2.more (by omega)) (r2.mono (by omega)))
      refine ⟨_, rfl, rfl, _, rfl, ite2 (fun c6 => ?_) (fun c6 => ?_)⟩
      · exact ret_run (dr_node sj (daf_part sj (tm r) daf_nil pk_w) fo_try (by decide) H1 (n + 1) _ hp1 t1 (by omega) fun H2 v b2 t2 r2 => q H2 v (b1.trans b2) (t2.more (by omega)) (r2.mono (by omega)))
      · exact ret_run (dr_node sj (daf_part sj (tm r) (daf_part sj (tm r) daf_nil pk_f) pk_w) fo_other (by decide) H1 (n + 1) _ hp1 t1 (by omega) fun H2 v b2 t2 r2 => q H2 v (b1.trans b2) (t2.more (by omega)) (r2.mono (by omega)))
    · refine ⟨_, rfl, d, l, n, 2, rfl, hT, by omega, by decide, by decide, fun H1 r b1 t1 r0 r1 => ?_⟩
      have hp1 := sj _ _ b1 hp
      refine ⟨_, rfl, rfl, _, rfl, ite2 (fun c1 => ?_) (fun c1 => ?_)⟩
      · exact ret_run (a_st r H1 (n + 1) _ hp1 t1 (by omega) fun H2 v b2 t2 r2 => q H2 v (b1.trans b2) (t2.more (by omega)) (r2.mono (by omega)))
      refine ⟨_, rfl, rfl, _, rfl, ite2 (fun c2 => ?_) (fun c2 => ?_)⟩
      · exact ret_run (a_ev r H1 (n + 1) _ hp1 t1 (by omega) fun H2 v b2 t2 r2 => q H2 v (b1.trans b2) (t2.more (by omega)) (r2.mono (by omega)))
      · exfalso
        have x1 : ¬ r = 0 := fun z => c1 (decide_eq_true (by rw [z]))
        have x2 : ¬ r = 1 := fun z => c2 (decide_eq_true (by rw [z]))
        omega
theorem tm_zero {f : Addr} {fd : FuncData} {x : Str} {st : Stmt} {N : List Str} (F : Fun K x x st f fd) (S : FnScope N ["_law_tape", "_law_keys", "_law_deep"] (defScope st)) : FnOk P w K mg base CX0 4 f fd ["_law_tape", "_law_keys", "_law_deep"] (spTm K 0) :=
  F.ok (k := 3) S (fun vs H Q E h => by obtain ⟨d, l, p, n, m, ks, h0, _⟩ := h; exact absurd h0 (Nat.not_lt_zero _)) (fun cdv A outer s H vs Q E hr h => by obtain ⟨d, l, p, n, m, ks, h0, _⟩ := h; exact absurd h0 (Nat.not_lt_zero _))
end
end Toy


namespace Toy
open PySem PySem.Spec L2 PyProof.Rows PySem.W
abbrev sFl : Stmt := top 48
section
variable {K : PySem.W.Frag} {d l : Addr} {J : Hp → Prop} {σ : L2.St} {te : TE} {ta : TA} {m m' n c : Nat} {R : Hp → V → Prop}
def DpF (K : PySem.W.Frag) (d : Addr) (F : PyData → Bool) (H : Hp) (v : V) : Prop := ∃ f, Dp K (delH H d) v f ∧ F f = true
theorem st_f {F : PyData → Bool} : ∀ (H H' : Hp) v, But d H H' → DpF K d F H v → DpF K d F H' v := fun _ _ _ b ⟨f, z1, z2⟩ => ⟨f, dpM (But.off b) z1, z2⟩
theorem dps_of {F : PyData → Bool} {H : Hp} : ∀ {vs : List V}, (∀ v ∈ vs, DpF K d F H v) → ∃ fs, DpAll K (delH H d) vs fs ∧ fs.all F = true
  | [], _ => ⟨[], .nil, rfl⟩
  | v :: vs, h => by
    obtain ⟨fs, h1, h2⟩ := dps_of fun x hx => h x (List.mem_cons_of_mem _ hx)
    obtain ⟨f, g1, g2⟩ := h v List.mem_cons_self
    exact ⟨f :: fs, .cons g1 h1, by rw [List.all_cons, g2, h2]; rfl⟩
theorem dr_tup {F : PyData → Bool} (r : DrA d l J ta σ m (AllR c (DpF K d F))) (hc : c ≤ 8) : Dr d l J (tTup ta) σ m (DpF K d (tupAll F)) :=
  fun H n Q j t b q => r H n _ j t b fun H1 vs b1 t1 ⟨hl, r1⟩ => ⟨few (by omega), fun T nT => by
    obtain ⟨o, ho⟩ := t1.at.1
    have nTd : T ≠ d := (ne_of_none ho nT).symm
    have s : Same H1 (upd H1 T (.tup vs)) := same_new same_id nT
    obtain ⟨fs, h1, h2⟩ := dps_of r1
    have lf := dpAll_len h1
    refine q _ (.ref T) (b1.trans (Same.but s d)) (t1.same s) ⟨.tuple fs, .tup (SqT.of ((delH_ne nTd).trans upd_same)) (dpAllM (Same.delH s d) h1), ?_⟩
    unfold tupAll
    rw [Bool.and_eq_true]
    exact ⟨decide_eq_true (by omega), h2⟩⟩
theorem dr_ent {x : Str} (hx : okK x = true) (h : Dr d l J te σ m (fun H v => Fv K d H n v)) : Dr d l J (tTup (tCons (tC (.str x)) (tCons te tNil))) σ m (DpF K d (isEnt (wf n))) :=
  fun H N Q j t b q => h H N _ j t b fun H1 v b1 t1 ⟨f, r1, r2⟩ => ⟨few (by show 2 ≤ 1000; decide), fun T nT => by
    obtain ⟨o, ho⟩ := t1.at.1
    have nTd : T ≠ d := (ne_of_none ho nT).symm
    have s : Same H1 (upd H1 T (.tup [.str x, v])) := same_new same_id nT
    refine q _ (.ref T) (b1.trans (Same.but s d)) (t1.same s) ⟨.tuple [.str x, f], .tup (SqT.of ((delH_ne nTd).trans upd_same)) (.cons (.str x) (.cons (dpM (Same.delH s d) r1) .nil)), ?_⟩
    show (okK x && wf n f) = true
    rw [hx, r2]
    rfl⟩
theorem dr_strF {x : Str} (h : okK x = true) : Dr d l J (tC (.str x)) σ 0 (DpF K d isStrD) := dr_const fun _ => ⟨.str x, .str x, h⟩
theorem daf_F {F : PyData → Bool} {k : Str} {ks : List Str} (sj : Stb d J) (h : Dr d l J te σ m (DpF K d F)) (r : DrA d l J ta σ m' (fun H vs => Fa K d H n vs ks)) (hk : ∀ f, F f = true → fldOk (wf n) k f = true) : DrA d l J (tCons te ta) σ (m + m') (fun H vs => Fa K d H n vs (k :: ks)) := daf_any sj h r hk
/-- a list at a slot, and a display put behind it -/
theorem cat_run {i : Nat} {p : Addr} {xs : List V} (sj : Stb d J) (hi : σ[i]? = some (some (.ref p))) (hp : ∀ H, J H → H p = some (.lst xs) ∧ ∀ v ∈ xs, R H v) (sr : ∀ H H' v, But d H H' → R H v → R H' v) (r : DrA d l J ta σ m (AllR c R)) (hc : c + xs.length ≤ 100) {H : Hp} {n : Nat} {Q : VK} (j : J H) (t : Tape H d l n) (b : n + m ≤ 900000)
    (q : ∀ H' L ys, But d H H' → Tape H' d l (n + m) → L ≠ d → H' L = some (.lst ys) → AllR (xs.length + c) R H' ys → Q (.ref L) H') : tOp rCat (tVar i) (tLst ta) σ H Q :=
  ⟨_, hi, r H n _ j t b fun H1 vs b1 t1 ⟨hl, r1⟩ => ⟨few (by omega), fun T nT => by
    have s : Same H1 (upd H1 T (.lst vs)) := same_new same_id nT
    obtain ⟨hp1, hr1⟩ := hp _ (sj _ _ b1 j)
    refine ⟨p, T, xs, vs, rfl, rfl, s _ _ hp1, upd_same, few (by omega), fun L nL => ?_⟩
    have s2 : Same H1 (upd (upd H1 T (.lst vs)) L (.lst (xs ++ vs))) := same_new s nL
    have nLd : L ≠ d := by
      obtain ⟨o, ho⟩ := t1.at.1
      exact (ne_of_none (s _ _ ho) nL).symm
    refine q _ L (xs ++ vs) (b1.trans (Same.but s2 d)) (t1.same s2) nLd upd_same ⟨by rw [List.length_append, hl], fun v hv => sr _ _ _ (Same.but s2 d) ?_⟩
    rcases List.mem_append.mp hv with z | z
    · exact hr1 v z
    · exact r1 v z⟩⟩
end
def cF : Nat → Nat
  | 0 => 10
  | m + 1 => 3 * cF m + 100
theorem cF_pos : ∀ m, 10 ≤ cF m
  | 0 => Nat.le_refl _
  | m + 1 => by
    have := cF_pos m
    rw [cF]
    omega
theorem cF_le {a b : Nat} (h : a ≤ b) : cF a ≤ cF b := by
  induction h with
  | refl => exact Nat.le_refl _
  | step _ ih =>
    rw [cF]
    omega
def spFl (K : PySem.W.Frag) (j : Nat) : Sp := fun vs H Q _ => ∃ (d l p : Addr) (n : Nat) (z : Int) (ks : List Str), (z < (j : Int) ∧ 0 < j) ∧ vs = [.ref d, .ref p, .int z] ∧ Tape H d l n ∧ n + cF z.toNat ≤ 900000 ∧ H p = some (.lst (ks.map V.str)) ∧ KeysOk ks ∧ ∀ H' v, But d H H' → Tape H' d l (n + cF z.toNat) → Fv K d H' (z.toNat + 3) v → Q v H'
theorem dr_tm1 {K : PySem.W.Frag} {d l p : Addr} {σ : L2.St} {ks : List Str} {J : Hp → Prop} (hJ : ∀ H, J H → JK p ks H) (h0 : σ[0]? = some (some (.ref d))) (h1 : σ[1]? = some (some (.ref p))) (hk : KeysOk ks) : Dr d l J (tCall (spTm K 2) [] E0 (tCons (tVar 0) (tCons (tVar 1) (tCons (tC (.int 1)) tNil)))) σ 40 (fun H v => Fv K d H 2 v) :=
  fun H n Q j t b q => ⟨_, h0, _, h1, d, l, p, n, 1, ks, by decide, rfl, t, b, hJ _ j, hk, q⟩
theorem dr_fl0 {K : PySem.W.Frag} {d l p : Addr} {σ : L2.St} {ks : List Str} {J : Hp → Prop} {i : Nat} (hi : 0 < i) (hJ : ∀ H, J H → JK p ks H) (h0 : σ[0]? = some (some (.ref d))) (h1 : σ[1]? = some (some (.ref p))) (hk : KeysOk ks) : Dr d l J (tCall (spFl K i) [] E0 (tCons (tVar 0) (tCons (tVar 1) (tCons (tC (.int 0)) tNil)))) σ 10 (fun H v => Fv K d H 3 v) :=
  fun H n Q j t b q => ⟨_, h0, _, h1, d, l, p, n, 0, ks, ⟨by omega, hi⟩, rfl, t, b, hJ _ j, hk, q⟩
theorem dr_fv {K : PySem.W.Frag} {d l : Addr} {σ : L2.St} {J : Hp → Prop} {te : TE} {m n n' : Nat} (h : Dr d l J te σ m (fun H v => Fv K d H n v)) (k : n ≤ n') : Dr d l J te σ m (fun H v => Fv K d H n' v) := h.mono (fun _ _ z => z.mono k) (Nat.le_refl _)
end Toy


namespace Toy
open PySem PySem.Spec L2 PyProof.Rows PySem.W
abbrev NFl : List Str := ["_law_tape", "_law_keys", "_law_deep", "_law_some", "_law_way", "_law_one", "_law_two", "_law_seat"]
abbrev tKey : TE := tCall spPick [] E0 (tCons (tVar 0) (tCons (tVar 1) tNil))
def JX (K : PySem.W.Frag) (d : Addr) (J : Hp → Prop) (L : Addr) (vs : List V) (m : Nat) : Hp → Prop := fun H => J H ∧ (H L = some (.lst vs) ∧ ∀ v ∈ vs, Fv K d H m v)
theorem stb_x {K : PySem.W.Frag} {d : Addr} {J : Hp → Prop} {L : Addr} {vs : List V} {m : Nat} (sj : Stb d J) (n : L ≠ d) : Stb d (JX K d J L vs m) := fun H H' b z => ⟨sj _ _ b z.1, b _ _ n z.2.1, fun v hv => (z.2.2 v hv).but b⟩
def J12 (K : PySem.W.Frag) (d p : Addr) (ks : List Str) (one two : V) (m : Nat) : Hp → Prop := fun H => JK p ks H ∧ (Fv K d H m one ∧ Fv K d H m two)
theorem stb_12 {K : PySem.W.Frag} {d p : Addr} {ks : List Str} {one two : V} {m : Nat} (sj : Stb d (JK p ks)) : Stb d (J12 K d p ks one two m) := fun H H' b z => ⟨sj _ _ b z.1, z.2.1.but b, z.2.2.but b⟩
def JC (K : PySem.W.Frag) (d : Addr) (J : Hp → Prop) (seat : V) (m : Nat) : Hp → Prop := fun H => J H ∧ Fv K d H m seat
theorem stb_c {K : PySem.W.Frag} {d : Addr} {J : Hp → Prop} {seat : V} {m : Nat} (sj : Stb d J) : Stb d (JC K d J seat m) := fun H H' b z => ⟨sj _ _ b z.1, z.2.but b⟩
theorem dr_int {d l : Addr} {J : Hp → Prop} {σ : L2.St} {c : Int} (h0 : σ[0]? = some (some (.ref d))) (hc : 0 < c ∧ c < 1000) : Dr d l J (tCall spDraw [] E0 (tCons (tVar 0) (tCons (tC (.int c)) tNil))) σ 1 (fun _ v => ∃ i, v = .int i) := (dr_draw h0 hc).mono (fun _ _ ⟨i, e, _⟩ => ⟨i, e⟩) (Nat.le_refl _)
theorem dr_xy {d l : Addr} {J : Hp → Prop} {σ : L2.St} {x y : Str} (sj : Stb d J) (h0 : σ[0]? = some (some (.ref d))) (hx : okK x = true) (hy : okK y = true) : Dr d l J (tCall spPick [] E0 (tCons (tVar 0) (tCons (tLst (tCons (tC (.str x)) (tCons (tC (.str y)) tNil))) tNil))) σ 1 IsW :=
  (dr_pick sj h0 st_w (dal_cons sj st_w (dr_txt hx) (dal_cons sj st_w (dr_txt hy) dal_nil)) (by decide)).mono (fun _ _ z => z) (by decide)
section
variable {P : Program} {w : World} {K : PySem.W.Frag} {mg : Str → Option Value} {base : Heap}
theorem scFl : FnScope NFl ["_law_tape", "_law_keys", "_law_deep"] (defScope sFl) := ⟨rfl, rfl, rfl, by decide +kernel, rfl, by decide +kernel, by decide +kernel⟩
theorem ok_fl1 {j : Nat} {f fP fD fL fT fW fC : Addr} {fd fdP fdD fdL fdT fdW fdC : FuncData} (F : Fun K "_law_filter" "_law_filter" sFl f fd) (GP : FnOk P w K mg base CX0 2 fP fdP ["_law_tape", "_law_items"] spPick) (mP : mg "_law_pick" = some (.ref fP)) (kP : PySem.W.keepIn K (.ref fP) = true) (bP : Binds K fdP ["_law_tape", "_law_items"] [])
    (GD : FnOk P w K mg base CX0 1 fD fdD ["_law_tape", "_law_many"] spDraw) (mD : mg "_law_draw" = some (.ref fD)) (kD : PySem.W.keepIn K (.ref fD) = true) (bD : Binds K fdD ["_law_tape", "_law_many"] [])
    (GL : FnOk P w K mg base CX0 3 fL fdL ["_law_tape"] spLeaf) (mL : mg "_law_leaf" = some (.ref fL)) (kL : PySem.W.keepIn K (.ref fL) = true) (bL : Binds K fdL ["_law_tape"] [])
    (GT : FnOk P w K mg base CX0 6 fT fdT ["_law_tape", "_law_keys", "_law_deep"] (spTm K 2)) (mT : mg "_law_test" = some (.ref fT)) (kT : PySem.W.keepIn K (.ref fT) = true) (bT : Binds K fdT ["_law_tape", "_law_keys", "_law_deep"] [])
    (GW : FnOk P w K mg base CX0 6 fW fdW ["_law_tape", "_law_keys", "_law_deep"] (spTm K 2)) (mW : mg "_law_walk" = some (.ref fW)) (kW : PySem.W.keepIn K (.ref fW) = true) (bW : Binds K fdW ["_law_tape", "_law_keys", "_law_deep"] [])
    (GC : FnOk P w K mg base CX0 6 fC fdC ["_law_tape", "_law_keys", "_law_deep"] (spTm K 2)) (mC : mg "_law_chooser" = some (.ref fC)) (kC : PySem.W.keepIn K (.ref fC) = true) (bC : Binds K fdC ["_law_tape", "_law_keys", "_law_deep"] [])
    (mF : mg "_law_filter" = some (.ref f)) (kF : PySem.W.keepIn K (.ref f) = true) (bF : Binds K fd ["_law_tape", "_law_keys", "_law_deep"] [])
    (ih : FnOk P w K mg base CX0 (j + 7) f fd ["_law_tape", "_law_keys", "_law_deep"] (spFl K j)) : FnOk P w K mg base CX0 (j + 8) f fd ["_law_tape", "_law_keys", "_law_deep"] (spFl K (j + 1)) := by
  refine F.ok (k := j + 7) scFl (fun vs H Q E h => ?_) (fun cdv A outer s H vs Q E hr h => ?_)
  · obtain ⟨d, l, p, n, z, ks, _, rfl, _⟩ := h
    rfl
  · obtain ⟨d, l, p, n, z, ks, hzj, rfl, hT, hn, hp, hk, q⟩ := h
    have hr1 : Room 1 _ := hr.mono (show 1 ≤ j + 7 by omega)
    have hr2 : Room 2 _ := hr.mono (show 2 ≤ j + 7 by omega)
    have hr3 : Room 3 _ := hr.mono (show 3 ≤ j + 7 by omega)
    have hr6 : Room 6 _ := hr.mono (show 6 ≤ j + 7 by omega)
    refine ⟨_, pss_cons (ps_if (pt_cmpR op_le (pv 2) pe_int (nomark _))
        (pss_cons (ps_set (i := 3) scFl.nd rfl (Or.inl rfl) (pe_lst (pa_cons (pe_tup (pa_cons pe_str pa_nil)) (pa_cons (pe_tup (pa_cons pe_str pa_nil)) (pa_cons (pe_tup (pa_cons pe_str (pa_cons (pe_call GP hr2 (by rfl) mP kP bP .nil pass0 (pa_cons (pv 0) (pa_cons (pv 1) pa_nil))) pa_nil)))
            (pa_cons (pe_tup (pa_cons pe_str (pa_cons (pe_call GD hr1 (by rfl) mD kD bD .nil pass0 (pa_cons (pv 0) (pa_cons pe_int pa_nil))) pa_nil))) (pa_cons (pe_tup (pa_cons pe_str pa_nil)) (pa_cons (pe_tup (pa_cons pe_str pa_nil)) pa_nil))))))))
        (pss_cons (ps_set (i := 3) scFl.nd rfl (Or.inl rfl) (pe_op op_cat (pv 3) (pe_lst (pa_cons (pe_tup (pa_cons pe_str (pa_cons (pe_call GL hr3 (by rfl) mL kL bL .nil pass0 (pa_cons (pv 0) pa_nil)) pa_nil)))
            (pa_cons (pe_tup (pa_cons pe_str (pa_cons (pe_call GP hr2 (by rfl) mP kP bP .nil pass0 (pa_cons (pv 0) (pa_cons (pe_lst (pa_cons pe_str (pa_cons pe_str pa_nil))) pa_nil))) pa_nil))) pa_nil)))))
        (pss_one (ps_ret (pe_call GP hr2 (by rfl) mP kP bP .nil pass0 (pa_cons (pv 0) (pa_cons (pe_op op_cat (pv 3) (pe_lst (pa_cons (pe_tup (pa_cons pe_str (pa_cons (pe_call GP hr2 (by rfl) mP kP bP .nil pass0 (pa_cons (pv 0) (pa_cons (pe_lst (pa_cons pe_str (pa_cons pe_str pa_nil))) pa_nil))) (pa_cons (pe_tup pa_nil) pa_nil)))) pa_nil))) pa_nil))))))) pss_nil)
      (pss_cons (ps_set (i := 4) scFl.nd rfl (Or.inl rfl) (pe_call GD hr1 (by rfl) mD kD bD .nil pass0 (pa_cons (pv 0) (pa_cons pe_int pa_nil))))
      (pss_cons (ps_par (i := 5) (j := 6) rfl scFl.nd rfl rfl (by decide) rfl rfl (pa_cons (pe_call ih hr (by rfl) mF kF bF .nil pass0 (pa_cons (pv 0) (pa_cons (pv 1) (pa_cons (pe_op op_sub (pv 2) pe_int) pa_nil)))) (pa_cons (pe_call ih hr (by rfl) mF kF bF .nil pass0 (pa_cons (pv 0) (pa_cons (pv 1) (pa_cons (pe_op op_sub (pe_op op_sub (pv 2) pe_int) (pe_call GD hr1 (by rfl) mD kD bD .nil pass0 (pa_cons (pv 0) (pa_cons pe_int pa_nil)))) pa_nil)))) pa_nil)) (by rfl))
      (pss_cons (ps_if (pt_cmpR op_lt (pv 4) pe_int (nomark _)) (pss_one (ps_ret (pe_tup (pa_cons (pe_call GP hr2 (by rfl) mP kP bP .nil pass0 (pa_cons (pv 0) (pa_cons (pe_lst (pa_cons pe_str (pa_cons pe_str (pa_cons pe_str (pa_cons pe_str (pa_cons pe_str (pa_cons pe_str (pa_cons pe_str (pa_cons pe_str (pa_cons pe_str pa_nil)))))))))) pa_nil))) (pa_cons (pv 5) (pa_cons (pv 6) pa_nil)))))) pss_nil)
      (pss_cons (ps_if (pt_cmpR op_eq (pv 4) pe_int (nomark _)) (pss_one (ps_ret (pe_tup (pa_cons pe_str (pa_cons (pe_call GT hr6 (by rfl) mT kT bT .nil pass0 (pa_cons (pv 0) (pa_cons (pv 1) (pa_cons pe_int pa_nil)))) (pa_cons (pv 5) (pa_cons (pv 6) pa_nil))))))) pss_nil)
      (pss_cons (ps_if (pt_cmpR op_eq (pv 4) pe_int (nomark _)) (pss_one (ps_ret (pe_call GP hr2 (by rfl) mP kP bP .nil pass0 (pa_cons (pv 0) (pa_cons (pe_lst (pa_cons (pe_tup (pa_cons pe_str (pa_cons (pe_call GW hr6 (by rfl) mW kW bW .nil pass0 (pa_cons (pv 0) (pa_cons (pv 1) (pa_cons pe_int pa_nil)))) pa_nil)))
          (pa_cons (pe_tup (pa_cons pe_str (pa_cons (pe_call GW hr6 (by rfl) mW kW bW .nil pass0 (pa_cons (pv 0) (pa_cons (pv 1) (pa_cons pe_int pa_nil)))) (pa_cons (pv 5) pa_nil)))) pa_nil))) pa_nil))))) pss_nil)
      (pss_cons (ps_if (pt_cmpR op_eq (pv 4) pe_int (nomark _))
        (pss_cons (ps_set (i := 3) scFl.nd rfl (Or.inl rfl) (pe_lst (pa_cons (pe_tup (pa_cons pe_str (pa_cons (pv 5) pa_nil))) (pa_cons (pe_tup (pa_cons pe_str (pa_cons (pe_tup (pa_cons (pe_tup (pa_cons pe_str (pa_cons (pv 5) pa_nil))) (pa_cons (pe_tup (pa_cons pe_str (pa_cons (pv 6) pa_nil))) pa_nil))) pa_nil))) (pa_cons (pe_tup (pa_cons pe_str (pa_cons (pe_tup pa_nil) pa_nil))) (pa_cons (pe_tup (pa_cons pe_str (pa_cons (pv 5) pa_nil))) pa_nil))))))
        (pss_one (ps_ret (pe_call GP hr2 (by rfl) mP kP bP .nil pass0 (pa_cons (pv 0) (pa_cons (pe_op op_cat (pv 3) (pe_lst (pa_cons (pe_tup (pa_cons pe_str (pa_cons (pv 5) pa_nil))) pa_nil))) pa_nil)))))) pss_nil)
      (pss_cons (ps_if (pt_cmpR op_eq (pv 4) pe_int (nomark _)) (pss_one (ps_ret (pe_tup (pa_cons pe_str (pa_cons (pv 5) (pa_cons (pe_call GP hr2 (by rfl) mP kP bP .nil pass0 (pa_cons (pv 0) (pa_cons (pe_lst (pa_cons pe_str (pa_cons pe_str pa_nil))) pa_nil))) (pa_cons (pv 6) pa_nil))))))) pss_nil)
      (pss_cons (ps_if (pt_cmpR op_eq (pv 4) pe_int (nomark _)) (pss_one (ps_ret (pe_tup (pa_cons pe_str (pa_cons (pv 5) (pa_cons (pv 6) (pa_cons (pe_call ih hr (by rfl) mF kF bF .nil pass0 (pa_cons (pv 0) (pa_cons (pv 1) (pa_cons pe_int pa_nil)))) pa_nil))))))) pss_nil)
      (pss_cons (ps_if (pt_cmpR op_eq (pv 4) pe_int (nomark _)) (pss_one (ps_ret (pe_tup (pa_cons pe_str (pa_cons (pv 5) (pa_cons (pe_call GP hr2 (by rfl) mP kP bP .nil pass0 (pa_cons (pv 0) (pa_cons (pe_lst (pa_cons pe_str (pa_cons pe_str pa_nil))) pa_nil))) (pa_cons (pe_call ih hr (by rfl) mF kF bF .nil pass0 (pa_cons (pv 0) (pa_cons (pv 1) (pa_cons pe_int pa_nil)))) (pa_cons (pv 6) pa_nil)))))))) pss_nil)
      (pss_cons (ps_if (pt_cmpR op_eq (pv 4) pe_int (nomark _)) (pss_one (ps_ret (pe_tup (pa_cons pe_str (pa_cons (pe_call GP hr2 (by rfl) mP kP bP .nil pass0 (pa_cons (pv 0) (pa_cons (pe_lst (pa_cons pe_str (pa_cons pe_str pa_nil))) pa_nil)))
          (pa_cons (pe_call GP hr2 (by rfl) mP kP bP .nil pass0 (pa_cons (pv 0) (pa_cons (pe_lst (pa_cons (pe_tup pa_nil) (pa_cons (pe_tup (pa_cons pe_str pa_nil)) (pa_cons (pe_tup (pa_cons pe_str (pa_cons pe_str pa_nil))) pa_nil)))) pa_nil))) (pa_cons (pv 5) (pa_cons (pv 6) pa_nil)))))))) pss_nil)
      (pss_cons (ps_if (pt_cmpR op_eq (pv 4) pe_int (nomark _))
        (pss_cons (ps_set (i := 3) scFl.nd rfl (Or.inl rfl) (pe_lst (pa_cons (pe_tup (pa_cons pe_str (pa_cons (pe_call GP hr2 (by rfl) mP kP bP .nil pass0 (pa_cons (pv 0) (pa_cons (pe_lst (pa_cons pe_str (pa_cons pe_str (pa_cons pe_str pa_nil)))) pa_nil))) (pa_cons (pe_tup (pa_cons (pv 5) pa_nil)) pa_nil)))) (pa_cons (pe_tup (pa_cons pe_str (pa_cons pe_str (pa_cons (pe_tup (pa_cons (pv 5) (pa_cons (pv 6) pa_nil))) pa_nil)))) pa_nil))))
        (pss_one (ps_ret (pe_call GP hr2 (by rfl) mP kP bP .nil pass0 (pa_cons (pv 0) (pa_cons (pe_op op_cat (pv 3) (pe_lst (pa_cons (pe_tup (pa_cons pe_str (pa_cons (pe_call GD hr1 (by rfl) mD kD bD .nil pass0 (pa_cons (pv 0) (pa_cons pe_int pa_nil))) (pa_cons (pv 5) pa_nil)))) pa_nil))) pa_nil)))))) pss_nil)
      (pss_cons (ps_set (i := 7) scFl.nd rfl (Or.inl rfl) (pe_call GC hr6 (by rfl) mC kC bC .nil pass0 (pa_cons (pv 0) (pa_cons (pv 1) (pa_cons pe_int pa_nil)))))
      (pss_cons (ps_set (i := 3) scFl.nd rfl (Or.inl rfl) (pe_lst (pa_cons (pe_tup (pa_cons pe_str (pa_cons (pv 7) pa_nil))) (pa_cons (pe_tup (pa_cons pe_str (pa_cons (pv 7) pa_nil))) (pa_cons (pe_tup (pa_cons pe_str (pa_cons (pv 7) (pa_cons (pv 5) pa_nil)))) (pa_cons (pe_tup (pa_cons pe_str (pa_cons (pv 7) (pa_cons pe_str (pa_cons (pv 5) pa_nil))))) pa_nil))))))
      (pss_one (ps_ret (pe_call GP hr2 (by rfl) mP kP bP .nil pass0 (pa_cons (pv 0) (pa_cons (pe_op op_cat (pv 3) (pe_lst (pa_cons (pe_tup (pa_cons pe_str (pa_cons (pv 7) (pa_cons (pv 5) pa_nil)))) pa_nil))) pa_nil)))))))))))))))))), ?_⟩
    have npd := np_of hT hp
    have sj : Stb d (JK p ks) := stb_list npd
    refine ⟨_, rfl, _, _, rfl, rfl, _, rfl, ite2 (fun c => ?_) (fun c => ?_)⟩
    · have c0 : z ≤ 0 := of_decide_eq_true c
      have ez : z.toNat = 0 := by omega
      rw [ez] at hn q
      have e10 : cF 0 = 10 := rfl
      rw [e10] at hn q
      have key : Dr d l (JK p ks) tKey [some (.ref d), some (.ref p), some (.int z), none, none, none, none, none] 1 IsW := dr_key rfl rfl (fun _ z => z) hk
      have a1 := dal_cons (l := l) (σ := [some (.ref d), some (.ref p), some (.int z), none, none, none, none, none]) (R := fun H v => Fv K d H 1 v) sj fv_st (dr_node sj daf_nil fo_same (by decide)) (dal_cons sj fv_st (dr_node sj daf_nil fo_every (by decide)) (dal_cons sj fv_st (dr_node sj (daf_str sj key daf_nil (.inl rfl)) fo_field (by decide))
        (dal_cons sj fv_st (dr_node sj (daf_int sj (dr_int (c := 3) rfl (by decide)) daf_nil) fo_item (by decide)) (dal_cons sj fv_st (dr_node sj daf_nil fo_none (by decide)) (dal_cons sj fv_st (dr_node sj daf_nil fo_fail (by decide)) dal_nil)))))
      refine asg_run (lst_run fv_st a1 (by decide) hp hT (by omega) fun H1 L vs b1 t1 nLd hL r1 => ?_)
      have t1 : Tape H1 d l (n + 2) := t1.more (by omega)
      have sj1 : Stb d (JX K d (JK p ks) L vs 1) := stb_x sj nLd
      have a2 := dal_cons (l := l) (σ := [some (.ref d), some (.ref p), some (.int z), some (.ref L), none, none, none, none]) (R := fun H v => Fv K d H 1 v) sj1 fv_st (dr_node sj1 (daf_any sj1 (F := isLeafD) (dr_leaf (K := K) rfl) daf_nil (fun f h => fld_leaf h)) fo_leaf (by decide))
        (dal_cons sj1 fv_st (dr_node sj1 (daf_str sj1 (dr_xy sj1 rfl (x := "x") (y := "y") (by decide +kernel) (by decide +kernel)) daf_nil (.inr (.inl rfl))) fo_name (by decide)) dal_nil)
      have hl1 := r1.1
      refine asg_run (cat_run sj1 rfl (fun _ z => z.2) fv_st a2 (by omega) ⟨sj _ _ b1 hp, hL, r1.2⟩ t1 (by omega) fun H2 L2 ys b2 t2 nL2 hL2 r2 => ?_)
      have t2 : Tape H2 d l (n + 4) := t2.more (by omega)
      have hl2 := r2.1
      have sj2 : Stb d (JX K d (JK p ks) L2 ys 1) := stb_x sj nL2
      have a3 := dal_cons (l := l) (σ := [some (.ref d), some (.ref p), some (.int z), some (.ref L2), none, none, none, none]) (R := fun H v => Fv K d H 1 v) sj2 fv_st (dr_node sj2 (daf_str sj2 (dr_xy sj2 rfl (x := "f") (y := "g") (by decide +kernel) (by decide +kernel)) (daf_F sj2 (F := tupAll (wf 0)) (dr_tup dal_nil (by decide)) daf_nil (fun f h => fld_filters h)) (.inr (.inl rfl))) fo_call (by decide)) dal_nil
      refine ret_run (dr_pick2 sj2 rfl rfl (fun _ z => z.2) fv_st a3 ⟨by omega, by omega⟩ H2 (n + 4) _ ⟨sj _ _ (b1.trans b2) hp, hL2, r2.2⟩ t2 (by omega) fun H3 v b3 t3 r3 => q H3 v ((b1.trans b2).trans b3) (t3.more (by omega)) (r3.mono (by omega)))
    · have c0 : ¬ z ≤ 0 := fun e => c (decide_eq_true e)
      obtain ⟨k, rfl⟩ : ∃ k : Nat, z = ((k + 1 : Nat) : Int) := ⟨z.toNat - 1, by omega⟩
      have ez : (((k + 1 : Nat) : Int)).toNat = k + 1 := by omega
      rw [ez, cF] at hn q
      have cp := cF_pos k
      refine ⟨_, rfl, d, l, n, 12, rfl, hT, by omega, by decide, by decide, fun H1 r b1 t1 r0 r1 => ?_⟩
      have ek : (((k : Nat) : Int)).toNat = k := by omega
      refine ⟨_, rfl, _, rfl, _, rfl, _, _, rfl, rfl, d, l, p, n + 1, ((k : Nat) : Int), ks, by omega, ?_, t1, by rw [ek]; omega, sj _ _ b1 hp, hk, fun H2 one b2 t2 f1 => ?_⟩
      · show [V.ref d, V.ref p, V.int (((k + 1 : Nat) : Int) - 1)] = _
        rw [show ((k + 1 : Nat) : Int) - 1 = (k : Int) by omega]
      rw [ek] at t2 f1
      refine ⟨_, rfl, _, rfl, _, rfl, _, _, rfl, rfl, _, rfl, d, l, n + 1 + cF k, 2, rfl, t2, by omega, by decide, by decide, fun H3 r' b3 t3 r0' r1' => ?_⟩
      have hz2 : (((k + 1 : Nat) : Int) - 1 - r').toNat ≤ k := by omega
      have cz := cF_le hz2
      refine ⟨_, _, rfl, rfl, d, l, p, n + 1 + cF k + 1, ((k + 1 : Nat) : Int) - 1 - r', ks, by omega, rfl, t3, by omega, sj _ _ ((b1.trans b2).trans b3) hp, hk, fun H4 two b4 t4 f2 => ⟨_, _, rfl, ?_⟩⟩
      have t4 : Tape H4 d l (n + 2 + 2 * cF k) := t4.more (by omega)
      have b14 : But d H1 H4 := (b2.trans b3).trans b4
      have hp4 : JK p ks H4 := sj _ _ (b1.trans b14) hp
      have g1 : Fv K d H4 (k + 3) one := f1.but (b3.trans b4)
      have g2 : Fv K d H4 (k + 3) two := f2.mono (by omega)
      have s12 : Stb d (J12 K d p ks one two (k + 3)) := stb_12 sj
      have j4 : J12 K d p ks one two (k + 3) H4 := ⟨hp4, g1, g2⟩
      have q4 : ∀ H' v, But d H4 H' → Tape H' d l (n + (3 * cF k + 100)) → Fv K d H' (k + 3 + 1) v → Q v H' := fun H' v b t z => q H' v ((b1.trans b14).trans b) t z
      have o1 : ∀ σ : L2.St, σ[5]? = some (some one) → Dr d l (J12 K d p ks one two (k + 3)) (tVar 5) σ 0 (fun H v => Fv K d H (k + 3) v) := fun σ h => dr_var h fun H j => j.2.1
      have o2 : ∀ σ : L2.St, σ[6]? = some (some two) → Dr d l (J12 K d p ks one two (k + 3)) (tVar 6) σ 0 (fun H v => Fv K d H (k + 3) v) := fun σ h => dr_var h fun H j => j.2.2
      -- pipes and the like
      refine ⟨_, rfl, _, _, rfl, rfl, _, rfl, ite2 (fun c1 => ?_) (fun c1 => ?_)⟩
      · exact ret_run (dr_nodeW s12 (dr_pick s12 rfl st_k (dal_cons s12 st_k (dr_word fo_pipe) (dal_cons s12 st_k (dr_word fo_both) (dal_cons s12 st_k (dr_word fo_pipe) (dal_cons s12 st_k (dr_word fo_sum) (dal_cons s12 st_k (dr_word fo_less) (dal_cons s12 st_k (dr_word fo_product) (dal_cons s12 st_k (dr_word fo_alike) (dal_cons s12 st_k (dr_word fo_before) (dal_cons s12 st_k (dr_word fo_catch) dal_nil))))))))) (by decide)) (daf_part s12 (o1 _ rfl) (daf_part s12 (o2 _ rfl) daf_nil pk_f) pk_f) (by decide) H4 _ _ j4 t4 (by omega) fun H5 v b5 t5 r5 => q4 H5 v b5 (t5.more (by omega)) r5)
      refine ⟨_, rfl, rfl, _, rfl, ite2 (fun c2 => ?_) (fun c2 => ?_)⟩
      · exact ret_run (dr_node s12 (daf_part s12 (dr_fv (dr_tm1 (K := K) (fun _ j => j.1) rfl rfl hk) (by omega)) (daf_part s12 (o1 _ rfl) (daf_part s12 (o2 _ rfl) daf_nil pk_f) pk_f) pk_t) fo_if (by decide) H4 _ _ j4 t4 (by omega) fun H5 v b5 t5 r5 => q4 H5 v b5 (t5.more (by omega)) r5)
      refine ⟨_, rfl, rfl, _, rfl, ite2 (fun c3 => ?_) (fun c3 => ?_)⟩
      · exact ret_run (dr_pick s12 rfl fv_st (dal_cons s12 fv_st (dr_node s12 (daf_part s12 (dr_fv (dr_tm1 (K := K) (fun _ j => j.1) rfl rfl hk) (by omega)) daf_nil pk_w) fo_try (by decide)) (dal_cons s12 fv_st (dr_node s12 (daf_part s12 (dr_fv (dr_tm1 (K := K) (fun _ j => j.1) rfl rfl hk) (by omega)) (daf_part s12 (o1 _ rfl) daf_nil pk_f) pk_w) fo_other (by decide)) dal_nil)) (by decide) H4 _ _ j4 t4 (by omega) fun H5 v b5 t5 r5 => q4 H5 v b5 (t5.more (by omega)) r5)
      refine ⟨_, rfl, rfl, _, rfl, ite2 (fun c4 => ?_) (fun c4 => ?_)⟩
      · have a1 := dal_cons (l := l) (σ := [some (.ref d), some (.ref p), some (.int ((k + 1 : Nat) : Int)), none, some (.int r), some one, some two, none]) (R := fun H v => Fv K d H (k + 3 + 1) v) s12 fv_st (dr_node s12 (daf_part s12 (o1 _ rfl) daf_nil pk_f) fo_list (by decide)) (dal_cons s12 fv_st (dr_node s12 (daf_F s12 (F := tupAll (isEnt (wf (k + 3)))) (dr_tup (dal_cons s12 st_f (dr_ent (x := "a") (by decide +kernel) (o1 _ rfl)) (dal_cons s12 st_f (dr_ent (x := "b") (by decide +kernel) (o2 _ rfl)) dal_nil)) (by decide)) daf_nil (fun f h => fld_entries h)) fo_dict (by decide))
          (dal_cons s12 fv_st (dr_node s12 (daf_F s12 (F := tupAll (isEnt (wf (k + 3)))) (dr_tup dal_nil (by decide)) daf_nil (fun f h => fld_entries h)) fo_dict (by decide)) (dal_cons s12 fv_st (dr_node s12 (daf_part s12 (o1 _ rfl) daf_nil pk_f) fo_first (by decide)) dal_nil)))
        refine asg_run (lst_run fv_st a1 (by decide) j4 t4 (by omega) fun H5 L vs b5 t5 nLd hL r5 => ?_)
        have t5 : Tape H5 d l (n + 2 + 2 * cF k) := t5.more (by omega)
        have hl := r5.1
        have sx : Stb d (JX K d (J12 K d p ks one two (k + 3)) L vs (k + 3 + 1)) := stb_x s12 nLd
        have a2 := dal_cons (l := l) (σ := [some (.ref d), some (.ref p), some (.int ((k + 1 : Nat) : Int)), some (.ref L), some (.int r), some one, some two, none]) (R := fun H v => Fv K d H (k + 3 + 1) v) sx fv_st (dr_node sx (daf_part sx (dr_var (i := 5) rfl fun H j => j.1.2.1) daf_nil pk_f) fo_fails (by decide)) dal_nil
        exact ret_run (dr_pick2 sx rfl rfl (fun _ z => z.2) fv_st a2 ⟨by omega, by omega⟩ H5 _ _ ⟨s12 _ _ b5 j4, hL, r5.2⟩ t5 (by omega) fun H6 v b6 t6 r6 => q4 H6 v (b5.trans b6) (t6.more (by omega)) r6)
      refine ⟨_, rfl, rfl, _, rfl, ite2 (fun c5 => ?_) (fun c5 => ?_)⟩
      · exact ret_run (dr_node s12 (daf_part s12 (o1 _ rfl) (daf_str s12 (dr_xy s12 rfl (x := "x") (y := "y") (by decide +kernel) (by decide +kernel)) (daf_part s12 (o2 _ rfl) daf_nil pk_f) (.inr (.inl rfl))) pk_f) fo_as (by decide) H4 _ _ j4 t4 (by omega) fun H5 v b5 t5 r5 => q4 H5 v b5 (t5.more (by omega)) r5)
      refine ⟨_, rfl, rfl, _, rfl, ite2 (fun c6 => ?_) (fun c6 => ?_)⟩
      · exact ret_run (dr_node s12 (daf_part s12 (o1 _ rfl) (daf_part s12 (o2 _ rfl) (daf_part s12 (dr_fv (dr_fl0 (K := K) (i := j) (by omega) (fun _ j => j.1) rfl rfl hk) (by omega)) daf_nil pk_f) pk_f) pk_f) fo_when (by decide) H4 _ _ j4 t4 (by omega) fun H5 v b5 t5 r5 => q4 H5 v b5 (t5.more (by omega)) r5)
      refine ⟨_, rfl, rfl, _, rfl, ite2 (fun c7 => ?_) (fun c7 => ?_)⟩
      · exact ret_run (dr_node s12 (daf_part s12 (o1 _ rfl) (daf_str s12 (dr_xy s12 rfl (x := "x") (y := "y") (by decide +kernel) (by decide +kernel)) (daf_part s12 (dr_fv (dr_fl0 (K := K) (i := j) (by omega) (fun _ j => j.1) rfl rfl hk) (by omega)) (daf_part s12 (o2 _ rfl) daf_nil pk_f) pk_f) (.inr (.inl rfl))) pk_f) fo_reduce (by decide) H4 _ _ j4 t4 (by omega) fun H5 v b5 t5 r5 => q4 H5 v b5 (t5.more (by omega)) r5)
      refine ⟨_, rfl, rfl, _, rfl, ite2 (fun c8 => ?_) (fun c8 => ?_)⟩
      · exact ret_run (dr_node s12 (daf_str s12 (dr_xy s12 rfl (x := "f") (y := "g") (by decide +kernel) (by decide +kernel)) (daf_F s12 (F := tupAll isStrD) (dr_pick s12 rfl st_f (dal_cons s12 st_f (dr_tup dal_nil (by decide)) (dal_cons s12 st_f (dr_tup (dal_cons s12 st_f (dr_strF (x := "g") (by decide +kernel)) dal_nil) (by decide)) (dal_cons s12 st_f (dr_tup (dal_cons s12 st_f (dr_strF (x := "f") (by decide +kernel)) (dal_cons s12 st_f (dr_strF (x := "h") (by decide +kernel)) dal_nil)) (by decide)) dal_nil))) (by decide))
          (daf_part s12 (o1 _ rfl) (daf_part s12 (o2 _ rfl) daf_nil pk_f) pk_f) (fun f h => fld_params h)) (.inr (.inl rfl))) fo_def (by decide) H4 _ _ j4 t4 (by omega) fun H5 v b5 t5 r5 => q4 H5 v b5 (t5.more (by omega)) r5)
      refine ⟨_, rfl, rfl, _, rfl, ite2 (fun c9 => ?_) (fun c9 => ?_)⟩
      · have of1 : ∀ σ : L2.St, σ[5]? = some (some one) → Dr d l (J12 K d p ks one two (k + 3)) (tVar 5) σ 0 (DpF K d (wf (k + 3))) := fun σ h => dr_var h fun H j => j.2.1
        have of2 : ∀ σ : L2.St, σ[6]? = some (some two) → Dr d l (J12 K d p ks one two (k + 3)) (tVar 6) σ 0 (DpF K d (wf (k + 3))) := fun σ h => dr_var h fun H j => j.2.2
        have a1 := dal_cons (l := l) (σ := [some (.ref d), some (.ref p), some (.int ((k + 1 : Nat) : Int)), none, some (.int r), some one, some two, none]) (R := fun H v => Fv K d H (k + 3 + 1) v) s12 fv_st (dr_node s12 (daf_str s12 (dr_pick s12 rfl st_w (dal_cons s12 st_w (dr_txt (x := "f") (by decide +kernel)) (dal_cons s12 st_w (dr_txt (x := "g") (by decide +kernel)) (dal_cons s12 st_w (dr_txt (x := "h") (by decide +kernel)) dal_nil))) (by decide)) (daf_F s12 (F := tupAll (wf (k + 3))) (dr_tup (dal_cons s12 st_f (of1 _ rfl) dal_nil) (by decide)) daf_nil (fun f h => fld_filters h)) (.inr (.inl rfl))) fo_call (by decide))
          (dal_cons s12 fv_st (dr_node s12 (daf_str s12 (dr_txt (x := "f") (by decide +kernel)) (daf_F s12 (F := tupAll (wf (k + 3))) (dr_tup (dal_cons s12 st_f (of1 _ rfl) (dal_cons s12 st_f (of2 _ rfl) dal_nil)) (by decide)) daf_nil (fun f h => fld_filters h)) (.inr (.inl rfl))) fo_call (by decide)) dal_nil)
        refine asg_run (lst_run fv_st a1 (by decide) j4 t4 (by omega) fun H5 L vs b5 t5 nLd hL r5 => ?_)
        have t5 : Tape H5 d l (n + 3 + 2 * cF k) := t5.more (by omega)
        have hl := r5.1
        have sx : Stb d (JX K d (J12 K d p ks one two (k + 3)) L vs (k + 3 + 1)) := stb_x s12 nLd
        have a2 := dal_cons (l := l) (σ := [some (.ref d), some (.ref p), some (.int ((k + 1 : Nat) : Int)), some (.ref L), some (.int r), some one, some two, none]) (R := fun H v => Fv K d H (k + 3 + 1) v) sx fv_st (dr_node sx (daf_int sx (dr_int (c := 4) rfl (by decide)) (daf_part sx (dr_var (i := 5) rfl fun H j => j.1.2.1) daf_nil pk_f)) fo_take (by decide)) dal_nil
        exact ret_run (dr_pick2 sx rfl rfl (fun _ z => z.2) fv_st a2 ⟨by omega, by omega⟩ H5 _ _ ⟨s12 _ _ b5 j4, hL, r5.2⟩ t5 (by omega) fun H6 v b6 t6 r6 => q4 H6 v (b5.trans b6) (t6.more (by omega)) r6)
      -- a seat
      refine asg_run (dr_tm1 (K := K) (J := J12 K d p ks one two (k + 3)) (fun _ j => j.1) rfl rfl hk H4 _ _ j4 t4 (by omega) fun H5 seat b5 t5 f5 => ?_)
      have t5 : Tape H5 d l (n + 2 + 2 * cF k + 40) := t5
      have sc : Stb d (JC K d (J12 K d p ks one two (k + 3)) seat (k + 3)) := stb_c s12
      have p1 : ∀ σ : L2.St, σ[5]? = some (some one) → Dr d l (JC K d (J12 K d p ks one two (k + 3)) seat (k + 3)) (tVar 5) σ 0 (fun H v => Fv K d H (k + 3) v) := fun σ h => dr_var h fun H j => j.1.2.1
      have p7 : ∀ σ : L2.St, σ[7]? = some (some seat) → Dr d l (JC K d (J12 K d p ks one two (k + 3)) seat (k + 3)) (tVar 7) σ 0 (fun H v => Fv K d H (k + 3) v) := fun σ h => dr_var h fun H j => j.2
      have a1 := dal_cons (l := l) (σ := [some (.ref d), some (.ref p), some (.int ((k + 1 : Nat) : Int)), none, some (.int r), some one, some two, some seat]) (R := fun H v => Fv K d H (k + 3 + 1) v) sc fv_st (dr_node sc (daf_part sc (p7 _ rfl) daf_nil pk_c) fo_places (by decide)) (dal_cons sc fv_st (dr_node sc (daf_part sc (p7 _ rfl) daf_nil pk_c) fo_drop (by decide)) (dal_cons sc fv_st (dr_node sc (daf_part sc (p7 _ rfl) (daf_part sc (p1 _ rfl) daf_nil pk_f) pk_c) fo_change (by decide))
        (dal_cons sc fv_st (dr_node sc (daf_part sc (p7 _ rfl) (daf_str sc (dr_txt (x := "a") (by decide +kernel)) (daf_part sc (p1 _ rfl) daf_nil pk_f) (.inl rfl)) pk_c) fo_add (by decide)) dal_nil)))
      refine asg_run (lst_run fv_st a1 (by decide) ⟨s12 _ _ b5 j4, f5.mono (by omega)⟩ t5 (by omega) fun H6 L vs b6 t6 nLd hL r6 => ?_)
      have t6 : Tape H6 d l (n + 2 + 2 * cF k + 40) := t6.more (by omega)
      have hl := r6.1
      have sx : Stb d (JX K d (JC K d (J12 K d p ks one two (k + 3)) seat (k + 3)) L vs (k + 3 + 1)) := stb_x sc nLd
      have a2 := dal_cons (l := l) (σ := [some (.ref d), some (.ref p), some (.int ((k + 1 : Nat) : Int)), some (.ref L), some (.int r), some one, some two, some seat]) (R := fun H v => Fv K d H (k + 3 + 1) v) sx fv_st (dr_node sx (daf_part sx (dr_var (i := 7) rfl fun H j => j.1.2) (daf_part sx (dr_var (i := 5) rfl fun H j => j.1.1.2.1) daf_nil pk_f) pk_c) fo_append (by decide)) dal_nil
      exact ret_run (dr_pick2 sx rfl rfl (fun _ z => z.2) fv_st a2 ⟨by omega, by omega⟩ H6 _ _ ⟨sc _ _ b6 ⟨s12 _ _ b5 j4, f5.mono (by omega)⟩, hL, r6.2⟩ t6 (by omega) fun H7 v b7 t7 r7 => q4 H7 v ((b5.trans b6).trans b7) (t7.more (by omega)) r7)
end
end Toy


namespace Toy
open PySem L2
section
variable {P : Program} {w : World} {K : PySem.W.Frag} {mg : Str → Option Value} {base : Heap}
theorem ok_tw {fP fD fL fS fT fW : Addr} {fdP fdD fdL fdS fdT fdW : FuncData} (FT : Fun K "_law_test" "_law_test" sTest fT fdT) (FW : Fun K "_law_walk" "_law_walk" sWalk fW fdW) (GP : FnOk P w K mg base CX0 2 fP fdP ["_law_tape", "_law_items"] spPick) (mP : mg "_law_pick" = some (.ref fP)) (kP : PySem.W.keepIn K (.ref fP) = true) (bP : Binds K fdP ["_law_tape", "_law_items"] [])
    (GD : FnOk P w K mg base CX0 1 fD fdD ["_law_tape", "_law_many"] spDraw) (mD : mg "_law_draw" = some (.ref fD)) (kD : PySem.W.keepIn K (.ref fD) = true) (bD : Binds K fdD ["_law_tape", "_law_many"] [])
    (GL : FnOk P w K mg base CX0 3 fL fdL ["_law_tape"] spLeaf) (mL : mg "_law_leaf" = some (.ref fL)) (kL : PySem.W.keepIn K (.ref fL) = true) (bL : Binds K fdL ["_law_tape"] [])
    (GS : FnOk P w K mg base CX0 3 fS fdS ["_law_tape", "_law_keys"] (spStep K)) (mS : mg "_law_step" = some (.ref fS)) (kS : PySem.W.keepIn K (.ref fS) = true) (bS : Binds K fdS ["_law_tape", "_law_keys"] [])
    (mT : mg "_law_test" = some (.ref fT)) (kT : PySem.W.keepIn K (.ref fT) = true) (bT : Binds K fdT ["_law_tape", "_law_keys", "_law_deep"] []) (mW : mg "_law_walk" = some (.ref fW)) (kW : PySem.W.keepIn K (.ref fW) = true) (bW : Binds K fdW ["_law_tape", "_law_keys", "_law_deep"] []) (j : Nat) :
    FnOk P w K mg base CX0 (j + 4) fT fdT ["_law_tape", "_law_keys", "_law_deep"] (spTm K j) ∧ FnOk P w K mg base CX0 (j + 4) fW fdW ["_law_tape", "_law_keys", "_law_deep"] (spTm K j) := by
  induction j with
  | zero => exact ⟨tm_zero FT scTt, tm_zero FW scWk⟩
  | succ j ih => exact ⟨ok_test1 FT GP mP kP bP GD mD kD bD GL mL kL bL mT kT bT mW kW bW ih.1 ih.2, ok_walk1 FW GS mS kS bS GD mD kD bD mW kW bW mT kT bT ih.1 ih.2⟩
theorem ok_chs {fD fS fT fW f : Addr} {fdD fdS fdT fdW fd : FuncData} (F : Fun K "_law_chooser" "_law_chooser" sChs f fd) (GS : FnOk P w K mg base CX0 3 fS fdS ["_law_tape", "_law_keys"] (spStep K)) (mS : mg "_law_step" = some (.ref fS)) (kS : PySem.W.keepIn K (.ref fS) = true) (bS : Binds K fdS ["_law_tape", "_law_keys"] [])
    (GD : FnOk P w K mg base CX0 1 fD fdD ["_law_tape", "_law_many"] spDraw) (mD : mg "_law_draw" = some (.ref fD)) (kD : PySem.W.keepIn K (.ref fD) = true) (bD : Binds K fdD ["_law_tape", "_law_many"] [])
    (mF : mg "_law_chooser" = some (.ref f)) (kF : PySem.W.keepIn K (.ref f) = true) (bF : Binds K fd ["_law_tape", "_law_keys", "_law_deep"] []) (mT : mg "_law_test" = some (.ref fT)) (kT : PySem.W.keepIn K (.ref fT) = true) (bT : Binds K fdT ["_law_tape", "_law_keys", "_law_deep"] []) (mW : mg "_law_walk" = some (.ref fW)) (kW : PySem.W.keepIn K (.ref fW) = true) (bW : Binds K fdW ["_law_tape", "_law_keys", "_law_deep"] [])
    (ih : ∀ j, FnOk P w K mg base CX0 (j + 4) fT fdT ["_law_tape", "_law_keys", "_law_deep"] (spTm K j) ∧ FnOk P w K mg base CX0 (j + 4) fW fdW ["_law_tape", "_law_keys", "_law_deep"] (spTm K j)) (j : Nat) : FnOk P w K mg base CX0 (j + 4) f fd ["_law_tape", "_law_keys", "_law_deep"] (spTm K j) := by
  induction j with
  | zero => exact tm_zero F scCh
  | succ j z => exact ok_chs1 F GS mS kS bS GD mD kD bD mF kF bF mT kT bT mW kW bW (ih j).1 (ih j).2 z
theorem ok_fl {f fP fD fL fT fW fC : Addr} {fd fdP fdD fdL fdT fdW fdC : FuncData} (F : Fun K "_law_filter" "_law_filter" sFl f fd) (GP : FnOk P w K mg base CX0 2 fP fdP ["_law_tape", "_law_items"] spPick) (mP : mg "_law_pick" = some (.ref fP)) (kP : PySem.W.keepIn K (.ref fP) = true) (bP : Binds K fdP ["_law_tape", "_law_items"] [])
    (GD : FnOk P w K mg base CX0 1 fD fdD ["_law_tape", "_law_many"] spDraw) (mD : mg "_law_draw" = some (.ref fD)) (kD : PySem.W.keepIn K (.ref fD) = true) (bD : Binds K fdD ["_law_tape", "_law_many"] [])
    (GL : FnOk P w K mg base CX0 3 fL fdL ["_law_tape"] spLeaf) (mL : mg "_law_leaf" = some (.ref fL)) (kL : PySem.W.keepIn K (.ref fL) = true) (bL : Binds K fdL ["_law_tape"] [])
    (GT : FnOk P w K mg base CX0 6 fT fdT ["_law_tape", "_law_keys", "_law_deep"] (spTm K 2)) (mT : mg "_law_test" = some (.ref fT)) (kT : PySem.W.keepIn K (.ref fT) = true) (bT : Binds K fdT ["_law_tape", "_law_keys", "_law_deep"] [])
    (GW : FnOk P w K mg base CX0 6 fW fdW ["_law_tape", "_law_keys", "_law_deep"] (spTm K 2)) (mW : mg "_law_walk" = some (.ref fW)) (kW : PySem.W.keepIn K (.ref fW) = true) (bW : Binds K fdW ["_law_tape", "_law_keys", "_law_deep"] [])
    (GC : FnOk P w K mg base CX0 6 fC fdC ["_law_tape", "_law_keys", "_law_deep"] (spTm K 2)) (mC : mg "_law_chooser" = some (.ref fC)) (kC : PySem.W.keepIn K (.ref fC) = true) (bC : Binds K fdC ["_law_tape", "_law_keys", "_law_deep"] [])
    (mF : mg "_law_filter" = some (.ref f)) (kF : PySem.W.keepIn K (.ref f) = true) (bF : Binds K fd ["_law_tape", "_law_keys", "_law_deep"] []) (j : Nat) : FnOk P w K mg base CX0 (j + 7) f fd ["_law_tape", "_law_keys", "_law_deep"] (spFl K j) := by
  induction j with
  | zero => exact F.ok (k := 6) scFl (fun vs H Q E h => by obtain ⟨d, l, p, n, m, ks, h0, _⟩ := h; exact absurd h0.2 (Nat.not_lt_zero _)) (fun cdv A outer s H vs Q E hr h => by obtain ⟨d, l, p, n, m, ks, h0, _⟩ := h; exact absurd h0.2 (Nat.not_lt_zero _))
  | succ j ih => exact ok_fl1 F GP mP kP bP GD mD kD bD GL mL kL bL GT mT kT bT GW mW kW bW GC mC kC bC mF kF bF ih
end
end Toy


/-! a set of texts, of a list or tuple of any length: how many it has is told by a bound -/
namespace SS2
open PySem PySem.Spec PyProof.Rows
def emptyS (led : Bool) : Obj := { cls := .type "set", dict := none, data := .set #[] 0 (.fresh 0 0 led) }
section
variable {prog : Program} {w : World} {A : Around} {R : Result → Shared → Prop} {I : Addr} {fp wr : List Addr} {G : Array GenState → Array GenState → Prop} {n : Nat} {P : Nat → Value → Prop} {St : Nat → Shared → Prop}
theorem loopS (W : WalksS prog w A.in1 I fp wr G n P St) (S : Addr) (hSf : S ∉ fp) (zs : List Str) (hsz : zs.length = n) (hn : n + 1 < scanBound) (hval : ∀ i v, P i v → ∃ t, v = .str (zs.getD i Str.empty) t) :
    ∀ (k i : Nat) (s : Shared), n - i = k → i ≤ n → St i s → (∃ c, c ≤ i ∧ ∃ T, s.heap.SetOf (PySem.strKind prog w) S T c) → (∀ s', Moved (S :: wr) G s s' → (∃ c, c ≤ n ∧ ∃ T, s'.heap.SetOf (PySem.strKind prog w) S T c) → R (.ok (.ret .none)) s') → codeAny (model prog w) A (.builtin "set.update.loop" ⟨[.ref S, .ref I], []⟩) R s := by
  have hSw : S ∉ wr := fun h => hSf (W.sub _ h)
  have move : ∀ {s s' : Shared} {c : Nat} {T : Str → Bool}, Moved wr G s s' → s.heap.SetOf (PySem.strKind prog w) S T c → s'.heap.SetOf (PySem.strKind prog w) S T c := fun hm hS => by
    obtain ⟨o, es, ep, t, ho, rest⟩ := hS
    exact ⟨o, es, ep, t, hm.heap S _ hSw ho, rest⟩
  intro k
  induction k with
  | zero =>
    rintro i s hk hi hst ⟨c, hc, T, hS⟩ hR
    obtain rfl : i = n := by omega
    refine codeAny_builtin PyProof.Rows.F.entry_set_update_loop ?_
    rw [Around.under_plainId PyProof.Rows.F.plain_set_update_loop _]
    refine (show wpAny _ A.in1 (pyNext (.ref I) >>= _) _ _ s from wpAny_bind (W.done s _ _ hst fun s' hm => ?_))
    exact (show wpAny _ A.in1 (ret Value.none) _ _ s' from wpAny_pure (hR s' (hm.mono fun b hb => List.mem_cons_of_mem _ hb) ⟨c, hc, T, move hm hS⟩))
  | succ k ih =>
    rintro i s hk hi hst ⟨c, hc, T, hS⟩ hR
    have hlt : i < n := by omega
    refine codeAny_builtin PyProof.Rows.F.entry_set_update_loop ?_
    rw [Around.under_plainId PyProof.Rows.F.plain_set_update_loop _]
    refine (show wpAny _ A.in1 (pyNext (.ref I) >>= _) _ _ s from wpAny_bind (W.item i s _ _ hlt hst fun v s' hP hst' hm => ?_))
    obtain ⟨t, rfl⟩ := hval i v hP
    have hS1 := move hm hS
    refine (show wpAny _ A.in1 (holding [Value.str (zs.getD i Str.empty) t] (setAdd S (.str (zs.getD i Str.empty) t)) >>= _) _ _ s' from wpAny_bind (wpAny_holding ?_))
    unfold setAdd
    refine wpAny_holding (wpAny_bind ((PySem.strKind prog w).pyHash (k := zs.getD i Str.empty) (strKind_is _ _ _ _) ?_))
    refine wpAny_setAddHashed_of (knd := PySem.strKind prog w) (s := { s' with toks := s'.toks + 1 }) (strKind_is _ _ _ _) rfl hS1 (by omega) fun h' hsb hS2 => ?_
    have le : (if T (zs.getD i Str.empty) = true then c else c + 1) ≤ i + 1 := by split <;> omega
    refine wpAny_pure ⟨plainId_quiet PyProof.Rows.F.plain_set_update_loop _, ih (i + 1) _ (by omega) hlt (W.frame _ s' _ _ hst' (Nat.le_succ _) fun b hb o e => ?_) ⟨_, le, _, hS2⟩ fun s2 hm2 hS3 => hR s2 (Moved.trans W.gtrans ((hm.mono fun b hb => List.mem_cons_of_mem _ hb).then_heap (Nat.le_succ _) fun b o hb e => ?_) hm2) hS3⟩
    · exact (hsb.2 b (fun z : b = S => hSf (by rw [← z]; exact hb))).trans e
    · exact (hsb.2 b (fun z : b = S => hb (by rw [z]; exact List.mem_cons_self))).trans e
end
section
variable {prog : Program} {w : World} {A : Around} {E : Value → Shared → Prop} {s : Shared}
theorem call_setL {l : Addr} {ys : Array Value} {zs : List Str} {Q : Value → Shared → Prop} (hh : A.handled = none) (hl : s.heap.IsList l ys) (hi : PyProof.Rows.StrsAre ys.toList zs) (hn : zs.length + 1 < scanBound)
    (h : ∀ (h' : Heap) (tk c : Nat), c ≤ zs.length → (∃ S, h'.SetOf (PySem.strKind prog w) s.heap.objs.size S c) → (∀ b o, b < s.heap.objs.size → s.heap.get? b = some o → h'.get? b = some o) → Q (.ref s.heap.objs.size) { s with heap := h', toks := tk }) :
    wpAny (model prog w) A (call (.type "set") [.ref l]) Q E s := by
  have facts := And.intro PySem.F.called_set.made PySem.F.called_set.sub
  obtain ⟨hmade, hsub⟩ := facts
  obtain ⟨c0, tl0, hmro⟩ := PySem.F.called_set.mro
  refine wpAny_call (codeAny_of_tree (show wpAny _ _ (callAny (.type "set") _) _ _ _ from wpAny_pure ⟨Code.quiet_builtin _ (by decide +kernel), codeAny_builtin PySem.F.entry_type_call ?_⟩))
  rw [Around.under_plain (weight_type_call_type "set" [.ref l] []) rfl]
  have facts2 := And.intro PySem.F.called_set.notType (And.intro PySem.F.called_set.canCreate (PySem.F.typeCall_set_1 (.ref l)))
  obtain ⟨h1, h2, hct⟩ := facts2
  repeat (any_goals (first | assumption | wp_step))
  refine codeAny_mono (code_set_new_1 (.ref l) (E := E) (Q₁ := fun ob s1 => ∃ led : Bool, ob = .ref s.heap.objs.size ∧ s1 = { s with heap := s.heap.push (emptyS led) }) fun led => ⟨led, rfl, rfl⟩) fun r s1 hr => ?_
  cases r with
  | error e => exact hr
  | ok fl =>
    cases fl with
    | ret ob =>
      obtain ⟨led, rfl, rfl⟩ := hr
      have hS : (s.heap.push (emptyS led)).get? s.heap.objs.size = some (emptyS led) := Heap.get?_push_size _ rfl
      have hT : Shared.TypeIs { s with heap := s.heap.push (emptyS led) } (.ref s.heap.objs.size) "set" := ⟨_, hS, rfl⟩
      have facts3 := And.intro PySem.F.called_set.init.lookup (PySem.F.called_set.init.bind (.ref s.heap.objs.size))
      obtain ⟨hli, hbi⟩ := facts3
      repeat (any_goals (first | assumption | wp_step))
      refine codeAny_mono (codeAny_call_builtin (R := wants (fun r s2 => r = .none ∧ ∃ h' tk c, s2 = { s with heap := h', toks := tk } ∧ (c ≤ zs.length ∧ ∃ S, h'.SetOf (PySem.strKind prog w) s.heap.objs.size S c) ∧ (∀ b o, b < s.heap.objs.size → s.heap.get? b = some o → h'.get? b = some o)) E) PySem.F.called_set.init.plain PySem.F.entry_set_init (check_set_init_1 hT ?_)) fun r2 s2 hr2 => ?_
      · obtain ⟨⟨oc, odi, oda, osl⟩, hol, hcl, nl, hdl⟩ := hl
        simp only at hcl hdl
        subst hcl hdl
        have hol' : (s.heap.push (emptyS led)).get? l = some { cls := .type "list", dict := odi, data := .seq ys nl, slots := osl } := Heap.get?_push_of_some _ hol
        have facts4 := And.intro PySem.F.sub_list_set PySem.F.sub_list_frozenset
        obtain ⟨hsls, hslf⟩ := facts4
        have hne : (Value.type "list" == Value.type "dict") = false := by decide
        have hl1 : (s.heap.push (emptyS led)).IsList l ys := ⟨_, hol', rfl, nl, rfl⟩
        unfold Builtin.«set.__init__» noKeywords Builtin.Frozenset.updateFrom
        generalize hPI : pyIter = PI
        wp_walk
        subst hPI
        refine wpAny_pyIter_list hl1 (wpAny_bind (wpAny_runValue ?_))
        have hlS : l < s.heap.objs.size := Heap.lt_size hol
        have hneI : l ≠ (s.heap.push (emptyS led)).objs.size := by
          rw [Heap.size_push]
          exact Nat.ne_of_lt (Nat.lt_succ_of_lt hlS)
        have hSf : s.heap.objs.size ∉ [(s.heap.push (emptyS led)).objs.size, l] := by
          rw [Heap.size_push]
          simp only [List.mem_cons, List.not_mem_nil, or_false, not_or]
          exact ⟨Nat.ne_of_lt (Nat.lt_succ_self _), Nat.ne_of_gt hlS⟩
        have hsz : zs.length = ys.size := by rw [← StrsAre.len_eq hi, Array.length_toList]
        have hval : ∀ (i : Nat) (v : Value), ys[i]? = some v → ∃ t, v = .str (zs.getD i Str.empty) t := fun i v hv => SS.strs_at hi i v (by rw [Array.getElem?_toList]; exact hv)
        refine loopS ((Walks.list (by simp [hh] : A.in1.in1.in1.handled = none) _ l hneI ys).toS) s.heap.objs.size hSf zs hsz (by rw [← hsz]; exact hn) hval (ys.size - 0) 0 _ (by omega) (Nat.zero_le _) ⟨⟨_, Heap.get?_push_size _ rfl, rfl, rfl⟩, (hl1.push _)⟩ ?hS0 ?hR
        case hS0 =>
          have hget : ((s.heap.push (emptyS led)).push { cls := .type "list_iterator", data := .fields #[.ref l, .int 0 0] }).get? s.heap.objs.size = some (emptyS led) := Heap.get?_push_of_some _ hS
          exact ⟨0, Nat.le_refl _, _, (PyProof.Rows.setObjOf_fresh (knd := PySem.strKind prog w) led).setOf hget (by unfold scanBound; omega)⟩
        case hR =>
          rintro ⟨h', g', d', tk', os'⟩ hm ⟨c, hc, S, hS'⟩
          obtain rfl : g' = s.gens := hm.gens
          obtain rfl : d' = s.drawn := hm.drawn
          obtain rfl : os' = s.os := hm.os
          show wpAny _ _ _ _ _ _
          refine wpAny_pure (show wpAny _ _ (ret Value.none) _ _ _ from wpAny_pure ⟨rfl, h', tk', c, rfl, ⟨by omega, S, hS'⟩, fun b o hb e => ?_⟩)
          refine hm.heap b o ?_ (Heap.get?_push_of_some _ (Heap.get?_push_of_some _ e))
          rw [Heap.size_push]
          simp only [List.mem_cons, List.not_mem_nil, or_false, not_or]
          exact ⟨Nat.ne_of_lt hb, Nat.ne_of_lt (Nat.lt_succ_of_lt hb)⟩
      · cases r2 with
        | error e => exact hr2
        | ok fl2 =>
          cases fl2 with
          | ret r =>
            obtain ⟨rfl, h', tk, c, rfl, ⟨hc, hS'⟩, hk'⟩ := hr2
            repeat (any_goals (first | assumption | wp_step))
            exact h _ _ c hc hS' hk'
          | _ => exact hr2.elim
    | _ => exact hr.elim
theorem call_setT {l : Addr} {ys : Array Value} {zs : List Str} {Q : Value → Shared → Prop} (hh : A.handled = none) (hl : s.heap.IsTuple l ys) (hi : PyProof.Rows.StrsAre ys.toList zs) (hn : zs.length + 1 < scanBound)
    (h : ∀ (h' : Heap) (tk c : Nat), c ≤ zs.length → (∃ S, h'.SetOf (PySem.strKind prog w) s.heap.objs.size S c) → (∀ b o, b < s.heap.objs.size → s.heap.get? b = some o → h'.get? b = some o) → Q (.ref s.heap.objs.size) { s with heap := h', toks := tk }) :
    wpAny (model prog w) A (call (.type "set") [.ref l]) Q E s := by
  have facts := And.intro PySem.F.called_set.made PySem.F.called_set.sub
  obtain ⟨hmade, hsub⟩ := facts
  obtain ⟨c0, tl0, hmro⟩ := PySem.F.called_set.mro
  refine wpAny_call (codeAny_of_tree (show wpAny _ _ (callAny (.type "set") _) _ _ _ from wpAny_pure ⟨Code.quiet_builtin _ (by decide +kernel), codeAny_builtin PySem.F.entry_type_call ?_⟩))
  rw [Around.under_plain (weight_type_call_type "set" [.ref l] []) rfl]
  have facts2 := And.intro PySem.F.called_set.notType (And.intro PySem.F.called_set.canCreate (PySem.F.typeCall_set_1 (.ref l)))
  obtain ⟨h1, h2, hct⟩ := facts2
  repeat (any_goals (first | assumption | wp_step))
  refine codeAny_mono (code_set_new_1 (.ref l) (E := E) (Q₁ := fun ob s1 => ∃ led : Bool, ob = .ref s.heap.objs.size ∧ s1 = { s with heap := s.heap.push (emptyS led) }) fun led => ⟨led, rfl, rfl⟩) fun r s1 hr => ?_
  cases r with
  | error e => exact hr
  | ok fl =>
    cases fl with
    | ret ob =>
      obtain ⟨led, rfl, rfl⟩ := hr
      have hS : (s.heap.push (emptyS led)).get? s.heap.objs.size = some (emptyS led) := Heap.get?_push_size _ rfl
      have hT : Shared.TypeIs { s with heap := s.heap.push (emptyS led) } (.ref s.heap.objs.size) "set" := ⟨_, hS, rfl⟩
      have facts3 := And.intro PySem.F.called_set.init.lookup (PySem.F.called_set.init.bind (.ref s.heap.objs.size))
      obtain ⟨hli, hbi⟩ := facts3
      repeat (any_goals (first | assumption | wp_step))
      refine codeAny_mono (codeAny_call_builtin (R := wants (fun r s2 => r = .none ∧ ∃ h' tk c, s2 = { s with heap := h', toks := tk } ∧ (c ≤ zs.length ∧ ∃ S, h'.SetOf (PySem.strKind prog w) s.heap.objs.size S c) ∧ (∀ b o, b < s.heap.objs.size → s.heap.get? b = some o → h'.get? b = some o)) E) PySem.F.called_set.init.plain PySem.F.entry_set_init (check_set_init_1 hT ?_)) fun r2 s2 hr2 => ?_
      · obtain ⟨⟨oc, odi, oda, osl⟩, hol, hcl, nl, hdl⟩ := hl
        simp only at hcl hdl
        subst hcl hdl
        have hol' : (s.heap.push (emptyS led)).get? l = some { cls := .type "tuple", dict := odi, data := .seq ys nl, slots := osl } := Heap.get?_push_of_some _ hol
        have facts4 := And.intro PySem.F.sub_tuple_set PySem.F.sub_tuple_frozenset
        obtain ⟨hsls, hslf⟩ := facts4
        have hne : (Value.type "tuple" == Value.type "dict") = false := by decide
        have hl1 : (s.heap.push (emptyS led)).IsTuple l ys := ⟨_, hol', rfl, nl, rfl⟩
        unfold Builtin.«set.__init__» noKeywords Builtin.Frozenset.updateFrom
        generalize hPI : pyIter = PI
        wp_walk
        subst hPI
        refine wpAny_pyIter_tuple hl1 (wpAny_bind (wpAny_runValue ?_))
        have hlS : l < s.heap.objs.size := Heap.lt_size hol
        have hneI : l ≠ (s.heap.push (emptyS led)).objs.size := by
          rw [Heap.size_push]
          exact Nat.ne_of_lt (Nat.lt_succ_of_lt hlS)
        have hSf : s.heap.objs.size ∉ [(s.heap.push (emptyS led)).objs.size, l] := by
          rw [Heap.size_push]
          simp only [List.mem_cons, List.not_mem_nil, or_false, not_or]
          exact ⟨Nat.ne_of_lt (Nat.lt_succ_self _), Nat.ne_of_gt hlS⟩
        have hsz : zs.length = ys.size := by rw [← StrsAre.len_eq hi, Array.length_toList]
        have hval : ∀ (i : Nat) (v : Value), ys[i]? = some v → ∃ t, v = .str (zs.getD i Str.empty) t := fun i v hv => SS.strs_at hi i v (by rw [Array.getElem?_toList]; exact hv)
        refine loopS ((Walks.tuple (by simp [hh] : A.in1.in1.in1.handled = none) _ l hneI ys).toS) s.heap.objs.size hSf zs hsz (by rw [← hsz]; exact hn) hval (ys.size - 0) 0 _ (by omega) (Nat.zero_le _) ⟨⟨_, Heap.get?_push_size _ rfl, rfl, rfl⟩, (hl1.push _)⟩ ?hS0 ?hR
        case hS0 =>
          have hget : ((s.heap.push (emptyS led)).push { cls := .type "tuple_iterator", data := .fields #[.ref l, .int 0 0] }).get? s.heap.objs.size = some (emptyS led) := Heap.get?_push_of_some _ hS
          exact ⟨0, Nat.le_refl _, _, (PyProof.Rows.setObjOf_fresh (knd := PySem.strKind prog w) led).setOf hget (by unfold scanBound; omega)⟩
        case hR =>
          rintro ⟨h', g', d', tk', os'⟩ hm ⟨c, hc, S, hS'⟩
          obtain rfl : g' = s.gens := hm.gens
          obtain rfl : d' = s.drawn := hm.drawn
          obtain rfl : os' = s.os := hm.os
          show wpAny _ _ _ _ _ _
          refine wpAny_pure (show wpAny _ _ (ret Value.none) _ _ _ from wpAny_pure ⟨rfl, h', tk', c, rfl, ⟨by omega, S, hS'⟩, fun b o hb e => ?_⟩)
          refine hm.heap b o ?_ (Heap.get?_push_of_some _ (Heap.get?_push_of_some _ e))
          rw [Heap.size_push]
          simp only [List.mem_cons, List.not_mem_nil, or_false, not_or]
          exact ⟨Nat.ne_of_lt hb, Nat.ne_of_lt (Nat.lt_succ_of_lt hb)⟩
      · cases r2 with
        | error e => exact hr2
        | ok fl2 =>
          cases fl2 with
          | ret r =>
            obtain ⟨rfl, h', tk, c, rfl, ⟨hc, hS'⟩, hk'⟩ := hr2
            repeat (any_goals (first | assumption | wp_step))
            exact h _ _ c hc hS' hk'
          | _ => exact hr2.elim
    | _ => exact hr.elim
end
end SS2
namespace L2
open PySem PySem.Spec PyProof.Rows
/-- len(set(xs)), xs a list or tuple of texts -/
def tLenSetA (K : PySem.W.Frag) (ta : TE) : TE := fun σ H Q => ta σ H fun x H1 => ∃ l, ∃ xs : List Str, x = .ref l ∧ (SqL K H1 l (xs.map V.str) ∨ SqT K H1 l (xs.map V.str)) ∧ xs.length ≤ 100 ∧ ∀ c : Nat, c ≤ xs.length → Q (.int c) H1
theorem pe_lenSetA {X : Cx} {a : Expr} {ta : TE} {p p2 q pos : Pos} (hc : X.calm = true) (hg : Gl X "len") (hm : X.mg "len" = none) (hg2 : Gl X "set") (hm2 : X.mg "set" = none) (ha : PE X a ta) (na : starEach [a] X.env = (false, eval a X.env) :: starEach [] X.env := by rfl) :
    PE X (.Call (.Name "len" p) [.Call (.Name "set" p2) [a] [] q] [] pos) (tLenSetA X.K ta) := by
  refine ⟨fun pins s σ H Q I h => Call_ (ld_blt I hg hm boot_len (PyProof.Rows.callWith_builtin1 (PyProof.Rows.args_cons (Call_ (ld_blt I hg2 hm2 boot_set ?_)) rfl) rfl rfl))⟩
  refine PyProof.Rows.callWith_type1 (PyProof.Rows.args_cons (thn (ha.run pins s σ H _ I h) fun v s1 ⟨x, H1, I1, r1, l, xs, ex, hq, h1, q1⟩ => PyProof.Rows.args_nil ?_) na) na rfl
  subst ex
  cases r1
  have sb : xs.length + 1 < scanBound := by
    unfold scanBound
    omega
  have fin : ∀ (h' : Heap) (tk c : Nat), c ≤ xs.length → (∃ S, h'.SetOf (PySem.strKind X.prog X.w) s1.heap.objs.size S c) → (∀ b o, b < s1.heap.objs.size → s1.heap.get? b = some o → h'.get? b = some o) →
      wpAny (model X.prog X.w) X.A (spliced (backTo pos (starEach [] X.env))) (fun vs s2 => wpAny (model X.prog X.w) X.A (call (.builtin "len") (Value.ref s1.heap.objs.size :: vs)) (EP X pins σ Q) X.xe s2) X.xe { s1 with heap := h', toks := tk } := fun h' tk c hc' ⟨S, hS⟩ hk => by
    obtain ⟨o, es, ep, t, ho, hex, hd, _, _, _, hf, hn⟩ := hS
    have I2 : Inv X pins σ H1 { s1 with heap := h', toks := tk } := I1.kept fun b o e => hk b o (Heap.lt_size e) e
    exact PyProof.Rows.args_nil (call_len_set ho hex hd hf (by rw [hn] <;> omega) ⟨.int c, H1, I2.tok _, ⟨_, by rw [hn]⟩, q1 c hc'⟩)
  rcases hq with hq | hq
  · obtain ⟨its, r, pl, hz⟩ := I1.list hq
    exact SS2.call_setL (I1.ok.hd hc) pl.isList (by simpa using strsAre_of r) sb fin
  · obtain ⟨its, r, pl, hz⟩ := I1.tuple hq
    exact SS2.call_setT (I1.ok.hd hc) pl (by simpa using strsAre_of r) sb fin
end L2


namespace Toy
open PySem L2
section
variable {P : Program} {w : World} {A : Around} {E : Value → Shared → Prop} {s : Shared}
theorem dictPut_pairs {d : Addr} {kvs : List (Key × Value)} {k : Key} {key v : Value} {Q : Unit → Shared → Prop} (hkey : (mixKind P w).is k key = true) (hm : s.heap.DictOf (mixKind P w) d kvs)
    (hQ : ∀ h', h'.DictOf (mixKind P w) d (stored kvs k v) → Heap.SameBut d s.heap h' → Q () { s with heap := h' })
    (hsz : kvs.length ≤ sizeLine) :
    wpAny (model P w) A (dictPut d ((mixKind P w).hash k) key v) Q E s := by
  obtain ⟨o, es, ep, ho, hc, hd, hk, hp, hn⟩ := hm
  have hes : es.size ≤ sizeLine := by
    have e1 := hp.length
    have e2 : es.toList.length = es.size := by simp
    omega
  unfold dictPut
  refine wpAny_bind (wpAny_dictFind_of hkey ho hd hk ?_)
  have hidx : (es.findIdx? fun e => (mixKind P w).is k e.key) = kvs.findIdx? fun kv => decide (kv.1 = k) := by
    rw [← hp.findIdx k]; obtain ⟨l⟩ := es; simp
  cases hi : es.findIdx? fun e => (mixKind P w).is k e.key with
  | some i =>
    refine wpAny_updateDict ho hd (hQ _ ⟨_, _, ep, Heap.get?_update_self _ ho (Obj.isFreed_of_dict (Obj.data_mapDict hd _)),
      hc.mapDict _, Obj.data_mapDict hd _, hk.modify _ _, ?_, ?_⟩ (Heap.SameBut.update ..))
    · rw [stored, if_pos (any_of_findIdx_some (hidx ▸ hi))]
      have hl : (es.toList.findIdx? fun e => (mixKind P w).is k e.key) = some i := by rw [← hi]; obtain ⟨l⟩ := es; simp
      have := hp.modify hn hl v
      obtain ⟨l⟩ := es
      simpa using this
    · rw [stored, if_pos (any_of_findIdx_some (hidx ▸ hi)), keys_map_store]; exact hn
  | none =>
    have hnot : k ∉ kvs.map (·.1) := not_mem_of_findIdx_none (hidx ▸ hi)
    have hany : ¬ (kvs.any fun kv => decide (kv.1 = k)) = true := by
      rw [List.any_eq_true]; rintro ⟨kv, hkv, he⟩
      exact hnot (List.mem_map.mpr ⟨kv, hkv, of_decide_eq_true he⟩)
    refine wpAny_updateDictKeys (hz := hes) ho hd (hQ _ ⟨_, _, ep + 1, Heap.get?_update_self _ ho (Obj.isFreed_of_dict (Obj.data_mapDictKeys hd _)),
      hc.mapDictKeys _, Obj.data_mapDictKeys hd _, hk.push hkey _, ?_, ?_⟩ (Heap.SameBut.update ..))
    · rw [stored, if_neg hany]
      have := hp.append hkey ((mixKind P w).hash k) v
      obtain ⟨l⟩ := es
      simpa using this
    · rw [stored, if_neg hany, List.map_append, List.nodup_append]
      refine ⟨hn, by simp, ?_⟩
      intro a ha b hb
      simp only [List.map_cons, List.map_nil, List.mem_singleton] at hb
      subst hb
      exact fun e => hnot (e ▸ ha)
theorem mergeMap {d o : Addr} {kvs more : List (Key × Value)} {Q : Unit → Shared → Prop} (hdo : d ≠ o) (hoS : (o == sysModules) = false)
    (hd : s.heap.DictOf (mixKind P w) d kvs) (ho : s.heap.DictOf (mixKind P w) o more)
    (hQ : ∀ h', h'.DictOf (mixKind P w) d (merged kvs more) → h'.DictOf (mixKind P w) o more → Heap.SameBut d s.heap h' → Q () { s with heap := h' })
    (hsz : kvs.length + more.length ≤ sizeLine) :
    wpAny (model P w) A (mergeMapping d (.ref o) false) Q E s := by
  obtain ⟨od, esd, epd, hod, hcd, hdd, hkd, hpd, hnd⟩ := id hd
  obtain ⟨oo, eso, epo, hoo, hco, hdo', hko, hpo, hno⟩ := id ho
  unfold mergeMapping
  have hlen : more.length = eso.size := by rw [← hpo.length]; simp
  refine wpAny_bind (wpAny_isInstance ho.typeIs isSubtype_dict_dict ?_)
  rw [if_pos rfl]
  refine wpAny_bind (wpAny_specialOf ho.typeIs F.slot_dict_iter.lookup (wpAny_bind (wpAny_pure ?_)))
  rw [beq_self_eq_true]
  dsimp only
  rw [if_neg (by rw [hoS]; exact Bool.false_ne_true)]
  have loop : wpAny (model P w) A (do
      let l ← dictEntries o
      let epoch ← dictEpoch o
      forIn (List.range l.size) PUnit.unit fun i (_ : PUnit) => (do
          let l' ← dictEntries o
          match l'[i]? with
            | some e => do
              holding [e.key, e.val] (dictPut d e.hash e.key e.val)
              let ep' ← dictEpoch o
              if (ep' != epoch) = true then do
                  (unsupported "dict.changed-during-merge" : Sem PUnit)
                  pure (ForInStep.yield PUnit.unit)
                else pure (ForInStep.yield PUnit.unit)
            | _ => do
              (unsupported "dict.changed-during-merge" : Sem PUnit)
              pure (ForInStep.yield PUnit.unit) : Sem (ForInStep PUnit))
      pure ()) Q E s := by
    refine wpAny_bind (wpAny_dictEntries hoo hdo' ?_)
    refine wpAny_bind (wpAny_dictEpoch hoo hdo' ?_)
    refine wpAny_bind ?_
    rw [List.range_eq_range']
    refine wpAny_forIn_list _
      (fun rest _ s' => ∃ h' i, s' = { s with heap := h' } ∧ rest = List.range' i (eso.size - i) ∧ i ≤ eso.size ∧ h'.DictOf (mixKind P w) d (merged kvs (more.take i)) ∧ h'.get? o = some oo ∧ Heap.SameBut d s.heap h')
      _ ?_ ?_ _ _ ⟨s.heap, 0, rfl, by simp, Nat.zero_le _, by simpa [merged] using hd, hoo, Heap.SameBut.refl _ _⟩
    · rintro x rest b s' ⟨h', i, rfl, hr, hi, hd', hoo', hs'⟩
      have hlt : i < eso.size := by
        rcases Nat.lt_or_ge i eso.size with h | h
        · exact h
        · rw [Nat.sub_eq_zero_of_le h] at hr; simp at hr
      obtain ⟨rfl, hrest⟩ : x = i ∧ rest = List.range' (i + 1) (eso.size - (i + 1)) := by
        have e : eso.size - i = (eso.size - (i + 1)) + 1 := by omega
        rw [e, List.range'_succ] at hr
        injection hr with h1 h2
        exact ⟨h1, h2⟩
      refine wpAny_bind (wpAny_dictEntries hoo' hdo' ?_)
      rw [Array.getElem?_eq_getElem hlt]
      obtain ⟨kv, hkv⟩ : ∃ kv, more[x]? = some kv := ⟨more[x]'(by rw [hlen]; exact hlt), List.getElem?_eq_getElem _⟩
      obtain ⟨k, v⟩ := kv
      obtain ⟨hkey, hval⟩ := hpo.get? (e := eso[x]) (by simp [hlt]) hkv
      obtain ⟨k', hkey', hhash⟩ := hko eso[x] (Array.getElem_mem hlt)
      obtain rfl : k' = k := (mixKind P w).inj _ _ _ hkey' hkey
      show wpAny _ _ (holding [eso[x].key, eso[x].val] (dictPut d eso[x].hash eso[x].key eso[x].val) >>= _) _ _ _
      rw [hhash, hval]
      have hmx : (merged kvs (more.take x)).length ≤ sizeLine := by
        have e1 := merged_length_le kvs (more.take x)
        have e2 : (more.take x).length ≤ more.length := by rw [List.length_take]; omega
        omega
      refine wpAny_bind (wpAny_holding (dictPut_pairs (hsz := hmx) hkey hd' fun h'' hd'' hs'' => ?_))
      have hoo'' : h''.get? o = some oo := (hs''.2 o (Ne.symm hdo)).trans hoo'
      refine wpAny_bind (wpAny_dictEpoch hoo'' hdo' ?_)
      rw [if_neg (by simp)]
      exact wpAny_pure ⟨h'', x + 1, rfl, hrest, hlt, by rw [merged_take_succ kvs more x (k', v) hkv]; exact hd'', hoo'', hs'.trans hs''⟩
    · rintro b s' ⟨h', i, rfl, hr, hi, hd', hoo', hs'⟩
      have hin : i = eso.size := by
        rcases Nat.lt_or_ge i eso.size with h | h
        · have e : eso.size - i = (eso.size - (i + 1)) + 1 := by omega
          rw [e, List.range'_succ] at hr; exact nomatch hr
        · exact Nat.le_antisymm hi h
      refine wpAny_pure (hQ h' ?_ ⟨oo, eso, epo, hoo', hco, hdo', hko, hpo, hno⟩ hs')
      rw [hin, ← hlen, List.take_length] at hd'; exact hd'
  refine wpAny_bind (wpAny_dictEntries hod hdd ?_)
  split
  · refine wpAny_bind (wpAny_dictEntries hoo hdo' ?_)
    refine wpAny_bind ?_
    rw [← Array.forIn_toList]
    refine wpAny_forIn_list _ (fun rest _ s' => s' = s ∧ ∀ e ∈ rest, e ∈ eso.toList) _ ?_ ?_ _ _ ⟨rfl, fun _ h => h⟩
    · rintro x rest b s' ⟨rfl, hr⟩
      obtain ⟨k', hkey', _⟩ := hko x (Array.mem_toList_iff.mp (hr x List.mem_cons_self))
      rcases keyIs_shape hkey' with ⟨i, t, e1, e⟩ | ⟨y, t, e1, e⟩
      · rw [e]
        exact wpAny_pure ⟨rfl, fun e he => hr e (List.mem_cons_of_mem _ he)⟩
      · rw [e]
        exact wpAny_pure ⟨rfl, fun e he => hr e (List.mem_cons_of_mem _ he)⟩
    · rintro b s' ⟨rfl, _⟩
      exact loop
  · exact loop
end
end Toy


namespace Toy
open PySem L2
theorem star_two (m k v : Sem Value) : dictDisplay [(none, m), (some k, v)] = (do
    let d ← alloc { cls := .type "dict", data := .dict #[] }
    let x ← holding [.ref d] m
    (((holding [.ref d, x] (mergeMapping d x false)).onRaise fun y => do let _ ← holding [.ref d, x, y] (runValue (.builtin "proto.let_go" {}))).tryCatch fun e => do
        if ← isInstance e (.type "AttributeError") then
          rule "dict.display.not-a-mapping"; raiseError "TypeError" s!"'{← typeNameOf x}' object is not a mapping"
        throw e).onRaise fun y => do let _ ← holding [.ref d, y] (runValue (.builtin "proto.let_go" {}))
    let sub ← holding [.ref d] (subDict [(k, v)])
    (holding [.ref d, .ref sub] (mergeMapping d (.ref sub) false)).onRaise fun x => do let _ ← holding [.ref d, x] (runValue (.builtin "proto.let_go" {}))
    pure (.ref d)) := by
  unfold dictDisplay
  dsimp only
  rw [List.forIn_cons]
  simp only [List.isEmpty_nil, if_true, pure_bind, bind_assoc, List.forIn_cons, List.forIn_nil, List.nil_append, List.length_singleton, List.isEmpty_cons, show ((1 : Nat) == 17) = false from rfl, Bool.false_eq_true, if_false]
  try rfl
section
variable {X : Cx} {m k v : Expr} {tm tk tv : TE} {pos : Pos}
theorem KV.nd {P : Program} {w : World} {h : Heap} {a : Addr} {vs : List (Key × Value)} (d : h.DictOf (mixKind P w) a vs) : (vs.map (·.1)).Nodup := by
  obtain ⟨_, _, _, _, _, _, _, _, n⟩ := d
  exact n
/-- {**m, k: v}: the new dict, and the dict of the pair, which is put into it -/
def tStar (tm tk tv : TE) : TE := fun σ H Q => ∀ p, H p = none → tm σ (upd H p (.dK [])) fun x H1 => H1 p = some (.dK []) ∧ ∃ a more, x = .ref a ∧ a ≠ p ∧ H1 a = some (.dK more) ∧ ∀ q, (upd H1 p (.dK more)) q = none → tk σ (upd (upd H1 p (.dK more)) q (.dK [])) fun y H2 => tv σ H2 fun z H3 => H3 q = some (.dK []) ∧ ∃ k kvs, y = kV k ∧ H3 p = some (.dK kvs) ∧ p ≠ q ∧ kvs.length + 1 ≤ sizeLine ∧ Q (.ref p) (upd (upd H3 q (.dK [(k, z)])) p (.dK (putK kvs k z)))
theorem pe_star (hm : PE X m tm) (hk : PE X k tk) (hv : PE X v tv) : PE X (.Dict [none, some k] [m, v] pos) (tStar tm tk tv) := by
  refine ⟨fun pins s σ H Q I q => ?_⟩
  have hn := I.hok.fresh (Nat.le_refl s.heap.objs.size)
  have I1 := I.laid (a := s.heap.objs.size) (o := .dK []) (h' := s.heap.push { cls := .type "dict", data := .dict #[] }) (t' := s.toks) (fun _ _ q => Heap.get?_push_of_some _ q) (Nat.le_refl _) (dk_empty s.heap I.big)
  rw [arm_eval_Dict]
  refine wpAny_bind (wpAny_standAt ?_)
  show wpAny _ _ (dictDisplay [(none, do let x ← eval m X.env; standAt pos; pure x), (some (eval k X.env), do let x ← eval v X.env; standAt pos; pure x)]) _ _ _
  rw [star_two]
  refine wpAny_bind (wpAny_alloc ?_)
  refine wpAny_bind (wpAny_holding (wpAny_bind (thn (hm.run pins _ σ _ _ I1 (q _ hn)) fun u s1 ⟨x, H1, I2, rx, e1, a, more, ex, nap, ea, q1⟩ => wpAny_bind (wpAny_standAt (wpAny_pure ?_)))))
  subst ex
  obtain rfl : u = Value.ref a := rx
  obtain ⟨_, hd0, vs0, r0, d0⟩ := dk_of I2.hok e1
  cases r0
  obtain ⟨za, hda, vsa, ra, da⟩ := dk_of I2.hok ea
  have zl : vsa.length ≤ sizeLine := by rw [← ra.length]; exact za
  refine wpAny_bind (wpAny_onRaise (wpAny_tryCatch (wpAny_onRaise (wpAny_holding (mergeMap nap.symm hda d0 da (fun h' dp' da' hs => ?_) (by rw [List.length_nil]; omega))))))
  rw [merged_nil_of_nodup vsa (KV.nd da)] at dp'
  have he : ∃ q, h'.get? s.heap.objs.size = some q := let ⟨q, _, _, hq, _⟩ := dp'; ⟨q, hq⟩
  have I3 : Inv X pins σ (upd H1 s.heap.objs.size (.dK more)) { s1 with heap := h', toks := s1.toks } := d_write I2 (by rw [e1]; exact True.intro) hs he (dk_new za hd0 ra dp')
  have hn3 := I3.hok.fresh (Nat.le_refl h'.objs.size)
  have I4 := I3.laid (a := h'.objs.size) (o := .dK []) (h' := h'.push { cls := .type "dict", data := .dict #[] }) (t' := s1.toks) (fun _ _ q => Heap.get?_push_of_some _ q) (Nat.le_refl _) (dk_empty h' I3.big)
  refine wpAny_bind (wpAny_holding (wpAny_subDict (knd := mixKind X.prog X.w) (by show 1 ≤ 15; decide) (evalPairs_cons (thn (hk.run pins _ σ _ _ I4 (q1 _ hn3)) fun u2 s4 ⟨y, H2, I5, ry, q2⟩ => wpAny_bind (thn (hv.run pins _ σ _ _ I5 q2) fun u3 s5 ⟨z, H3, I6, rz, eq, kk, kvs, ey, ep, npq, zz, q3⟩ => wpAny_bind (wpAny_standAt (wpAny_pure (evalPairs_nil ?_))))))))
  subst ey
  obtain ⟨_, hq0, vq, rq, dq⟩ := dk_of I6.hok eq
  cases rq
  refine ⟨[(kk, u3)], ⟨kV_is ry, rfl, True.intro⟩, dq, fun h6 dq6 hs6 => ?_⟩
  have he6 : ∃ q, h6.get? h'.objs.size = some q := let ⟨q, _, _, hq, _⟩ := dq6; ⟨q, hq⟩
  have rk6 : KV [(kk, z)] [(kk, u3)] := .cons ⟨rfl, rz⟩ .nil
  have I7 : Inv X pins σ (upd H3 h'.objs.size (.dK [(kk, z)])) { s5 with heap := h6, toks := s5.toks + 1 } := d_write I6 (by rw [eq]; exact True.intro) hs6 he6 (dk_new (by rw [sizeLine_eq]; show 1 ≤ 16777216; omega) hq0 rk6 dq6)
  have ep7 : (upd H3 h'.objs.size (.dK [(kk, z)])) s.heap.objs.size = some (.dK kvs) := Eq.trans (upd_ne npq) ep
  obtain ⟨_, hp7, vp, rp, dp⟩ := dk_of I7.hok ep7
  obtain ⟨_, hq7, vq7, rq7, dq7⟩ := dk_of I7.hok upd_same
  have l7 : vq7.length = 1 := rq7.length.symm
  have lp : kvs.length = vp.length := rp.length
  refine wpAny_bind (wpAny_onRaise (wpAny_holding (mergeMap npq hq7 dp dq7 (fun h8 dp8 _ hs8 => wpAny_pure ?_) (by omega))))
  have he8 : ∃ q, h8.get? s.heap.objs.size = some q := let ⟨q, _, _, hq, _⟩ := dp8; ⟨q, hq⟩
  have lz : (putK kvs kk z).length ≤ sizeLine := by
    have := length_putK kvs kk z
    omega
  exact ⟨.ref s.heap.objs.size, _, d_write I7 (by rw [ep7]; exact True.intro) hs8 he8 (dk_new lz hp7 (rq7.merge rp) dp8), rfl, q3⟩
end
end Toy


namespace Toy
open PySem L2
/-- d.update(e), both dicts -/
def rDUpd : V → List V → Hp → VK → Prop := fun x vs H Q => ∃ (a b : Addr) (kvs more : List (Key × V)), x = .ref a ∧ vs = [.ref b] ∧ a ≠ b ∧ H a = some (.dK kvs) ∧ H b = some (.dK more) ∧ kvs.length + more.length ≤ sizeLine ∧ Q .non (upd H a (.dK (mergeK kvs more)))
theorem mtd_update {X : Cx} : MtR X "dict.update" rDUpd := by
  intro pins s σ H x vs v us Q I rx rv h
  obtain ⟨a, b, kvs, more, ex, ev, nab, ea, eb, z, q⟩ := h
  subst ex
  subst ev
  obtain rfl : v = Value.ref a := rx
  obtain ⟨u, eu, ru⟩ := vals1 rv
  subst eu
  obtain rfl : u = Value.ref b := ru
  obtain ⟨_, hda, va, ra, da⟩ := dk_of I.hok ea
  obtain ⟨_, hdb, vb, rb, db⟩ := dk_of I.hok eb
  have la : kvs.length = va.length := ra.length
  have lb : more.length = vb.length := rb.length
  refine call_meetsIn PySem.F.slot_dict_update da.typeIs PySem.F.entry_dict_update (PySem.F.args_dict_update_2 _ _) (meets_dict_update (mixKind X.prog X.w) a b nab hdb)
    ⟨va, vb, da, db, by omega, fun h' dd _ hs => ?_⟩
  have he : ∃ q, h'.get? a = some q := let ⟨q, _, _, hq, _⟩ := dd; ⟨q, hq⟩
  have lz : (mergeK kvs more).length ≤ sizeLine := by
    have := length_mergeK more kvs
    omega
  exact ⟨.non, _, d_write (t' := s.toks) I (by rw [ea]; exact True.intro) hs he (dk_new lz hda (rb.merge ra) dd), rfl, q⟩
end Toy


namespace Toy
open PySem PySem.Spec PyProof.Rows L2 RZ
section
variable {prog : Program} {w : World} {A : Around} {E : Value → Shared → Prop} {s : Shared}
theorem drawsTuple (hh : A.handled = none) (it l : Addr) (hne : l ≠ it) (items : Array Value) :
    Draws prog w A it [it, l] items.size (fun i v => items[i]? = some v) (fun i h => h.IsTupleIter it l i ∧ h.IsTuple l items) where
  live := fun _ _ st => let ⟨o, ho, _⟩ := st.1; ⟨o, ho⟩
  frame := fun _ _ _ st hk => ⟨st.1.at fun o e => hk it (by simp) o e, by obtain ⟨o, e, r⟩ := st.2; exact ⟨o, hk l (by simp) o e, r⟩⟩
  item := fun i s Q E hi st hQ => by
    refine nextOf_tuple_item st.1 st.2 (x := items[i]) (by simp [hi]) fun h' hit' hs' => ?_
    exact hQ _ h' s.toks (by simp [hi]) ⟨hit', st.2.extBut hs'.extBut hne⟩ hs'
  done := fun s Q E st hE => nextOf_tuple_end hh st.1 st.2 (by simp) hE
abbrev zipSH1 (h : Heap) (x : Str) (t : Tok) : Heap := h.push { cls := .type "str_ascii_iterator", data := .fields #[.str x t, .int 0 0] }
abbrev zipSH2 (h : Heap) (x : Str) (t : Tok) (l2 : Addr) : Heap := (zipSH1 h x t).push { cls := .type "tuple_iterator", data := .fields #[.ref l2, .int 0 0] }
abbrev zipSH3 (h : Heap) (x : Str) (t : Tok) (l2 : Addr) : Heap := (zipSH2 h x t l2).push { cls := .type "tuple", data := .seq #[.ref h.objs.size, .ref (zipSH1 h x t).objs.size] }
abbrev zipSH4 (h : Heap) (x : Str) (t : Tok) (l2 : Addr) : Heap := (zipSH3 h x t l2).push { cls := .type "tuple", data := .seq #[.none, .none] }
abbrev zipSH5 (h : Heap) (x : Str) (t : Tok) (l2 : Addr) : Heap := (zipSH4 h x t l2).push { cls := .type "zip", data := .fields #[.none, .bool false, .bool false, .ref (zipSH2 h x t l2).objs.size, .ref (zipSH3 h x t l2).objs.size] }
theorem meets_zipS_new (x : Str) (t : Tok) (ha : x.cps.all (· < 128) = true) (l2 : Addr) (ys : Array Value) :
    Meets (Builtin.«zip.__new__» ⟨[.type "zip", .str x t, .ref l2], []⟩) (fun _ R s => s.heap.IsTuple l2 ys ∧
      R (.ok (.ret (.ref (zipSH4 s.heap x t l2).objs.size))) { s with heap := zipSH5 s.heap x t l2 }) :=
  .of_wp fun prog w A R s h => by
    obtain ⟨hp, g, d, tk, os⟩ := s; obtain ⟨hl2, h⟩ := h
    have hsub := sub_zip
    have hL2 : Heap.IsTuple (Shared.heap ⟨hp.push { cls := .type "str_ascii_iterator", data := .fields #[.str x t, .int 0 0] }, g, d, tk, os⟩) l2 ys := Heap.IsTuple.push hl2 _
    wp_walk using wpAny_pyIter_ascii ha, wpAny_pyIter_tuple hL2
    exact ⟨_, rfl, h⟩
theorem call_zipS {x : Str} {t : Tok} (ha : x.cps.all (· < 128) = true) {l2 : Addr} {ys : Array Value} {Q : Value → Shared → Prop} (hl2 : s.heap.IsTuple l2 ys)
    (h : ∀ h', IsZip h' (s.heap.objs.size + 4) (s.heap.objs.size + 2) (s.heap.objs.size + 3) .none → IsPair h' (s.heap.objs.size + 2) (.ref s.heap.objs.size) (.ref (s.heap.objs.size + 1)) →
      IsPair h' (s.heap.objs.size + 3) .none .none → h'.IsStrIter s.heap.objs.size "str_ascii_iterator" x t 0 → h'.IsTupleIter (s.heap.objs.size + 1) l2 0 → h'.objs.size = s.heap.objs.size + 5 →
      (∀ c o, s.heap.get? c = some o → h'.get? c = some o) → Q (.ref (s.heap.objs.size + 4)) { s with heap := h' }) :
    wpAny (model prog w) A (call (.type "zip") [.str x t, .ref l2]) Q E s := by
  refine callType_new F.called_zip (by decide) (F.typeCall_zip_2 _ _) (F.newCall_zip_2 _ _) (fun obj => F.args_object_init_3 obj _ _) F.entry_zip_new
    (meets_zipS_new x t ha l2 ys) ⟨hl2, ?_⟩
  have z1 : (zipSH1 s.heap x t).objs.size = s.heap.objs.size + 1 := Heap.size_push ..
  have z2 : (zipSH2 s.heap x t l2).objs.size = s.heap.objs.size + 2 := by rw [Heap.size_push, z1]
  have z3 : (zipSH3 s.heap x t l2).objs.size = s.heap.objs.size + 3 := by rw [Heap.size_push, z2]
  have z4 : (zipSH4 s.heap x t l2).objs.size = s.heap.objs.size + 4 := by rw [Heap.size_push, z3]
  have z5 : (zipSH5 s.heap x t l2).objs.size = s.heap.objs.size + 5 := by rw [Heap.size_push, z4]
  have g5 : (zipSH5 s.heap x t l2).get? (zipSH4 s.heap x t l2).objs.size = some _ := Heap.get?_push_size _ rfl
  have g4 : (zipSH5 s.heap x t l2).get? (zipSH3 s.heap x t l2).objs.size = some _ := Heap.get?_push_of_some _ (Heap.get?_push_size _ rfl)
  have g3 : (zipSH5 s.heap x t l2).get? (zipSH2 s.heap x t l2).objs.size = some _ := Heap.get?_push_of_some _ (Heap.get?_push_of_some _ (Heap.get?_push_size _ rfl))
  have g2 : (zipSH5 s.heap x t l2).get? (zipSH1 s.heap x t).objs.size = some _ := Heap.get?_push_of_some _ (Heap.get?_push_of_some _ (Heap.get?_push_of_some _ (Heap.get?_push_size _ rfl)))
  have g1 : (zipSH5 s.heap x t l2).get? s.heap.objs.size = some _ := Heap.get?_push_of_some _ (Heap.get?_push_of_some _ (Heap.get?_push_of_some _ (Heap.get?_push_of_some _ (Heap.get?_push_size _ rfl))))
  show _ ∧ _
  rw [z2, z3, z4] at g5
  rw [z1, z2] at g3
  rw [z3] at g4
  rw [z1] at g2
  rw [z4]
  exact ⟨⟨_, g5, rfl⟩, h _ g5 g3 g4 ⟨_, g1, rfl, rfl⟩ ⟨_, g2, rfl, rfl⟩ z5 fun c o x =>
    Heap.get?_push_of_some _ (Heap.get?_push_of_some _ (Heap.get?_push_of_some _ (Heap.get?_push_of_some _ (Heap.get?_push_of_some _ x))))⟩
end
/-- the letters of x and the tuple at b -/
def ItzS (K : PySem.W.Frag) (x : Str) (b : Addr) : It :=
  ⟨fun i H => ∃ (ys : List V), SqT K H b ys ∧ i < ys.length ∧ i < x.cps.size,
    fun i H v H' => ∃ T c y, v = .ref T ∧ H T = none ∧ x.cps[i]? = some c ∧ H' = upd H T (.tup [.str ⟨#[c]⟩, y]) ∧ ∀ ys, SqT K H b ys → ys[i]? = some y,
    fun i H => ∃ ys : List V, SqT K H b ys ∧ i ≤ ys.length ∧ i ≤ x.cps.size ∧ (i = x.cps.size ∨ i = ys.length)⟩
theorem turn_zipS {P : Program} {w : World} {K : PySem.W.Frag} {elts : List Expr} {kk : Nat} {tpos : Pos} {x : Str} {t : Tok} {b z TI TO i1 i2 : Addr} (D : ZipApart z TI TO i1 i2 b b) :
    Turn P w K (.Tuple elts kk tpos) (ItzS K x b) [z, TI, TO, i1, i2] z (fun i h => IsZip h z TI TO .none ∧ IsPair h TI (.ref i1) (.ref i2) ∧ (∃ x y, IsPair h TO x y) ∧ h.IsStrIter i1 "str_ascii_iterator" x t i ∧ h.IsTupleIter i2 b i) where
  mem := by simp
  obj := fun i h st c hc => by
    obtain ⟨hz, hTI, ⟨x, y, hTO⟩, ⟨o1, e1, _, d1⟩, ⟨o2, e2, _, d2⟩⟩ := st
    have e' : c = z ∨ c = TI ∨ c = TO ∨ c = i1 ∨ c = i2 := by simpa using hc
    rcases e' with q | q | q | q | q
    · rw [q]; exact ⟨_, hz, fun v q => nomatch q⟩
    · rw [q]; exact ⟨_, hTI, fun v q => nomatch q⟩
    · rw [q]; exact ⟨_, hTO, fun v q => nomatch q⟩
    · rw [q]; exact ⟨o1, e1, fun v q => by rw [d1] at q; cases q⟩
    · rw [q]; exact ⟨o2, e2, fun v q => by rw [d2] at q; cases q⟩
  keep := fun i h h' st k => by
    obtain ⟨hz, hTI, ⟨x, y, hTO⟩, ⟨o1, e1, r1⟩, h2⟩ := st
    exact ⟨k z (by simp) _ hz, k TI (by simp) _ hTI, ⟨x, y, k TO (by simp) _ hTO⟩, ⟨o1, k i1 (by simp) _ e1, r1⟩, h2.at fun o q => k i2 (by simp) o q⟩
  item := by
    intro X hP hw hK hc i pins s σ H E I hf st hg
    subst hP hw hK
    obtain ⟨hz, hTI, ⟨x0, y0, hTO⟩, h1, h2⟩ := st
    obtain ⟨ys, hqy, hiy, hix⟩ := hg
    obtain ⟨its2, rv2, p2, _⟩ := I.tuple hqy
    have hl2 := rv2.length
    have hzl : z < s.heap.objs.size := Heap.lt_size hz
    have hh : X.A.in1.handled = none := I.ok.hd hc
    refine wpAny_pyNext_zipD2_item (a1 := x0) (a2 := y0) (St1 := fun i h => h.IsStrIter i1 "str_ascii_iterator" x t i) (St2 := fun i h => h.IsTupleIter i2 b i ∧ h.IsTuple b its2.toArray)
      ⟨D.TIz, D.TOz, D.TITO, D.TIi1, by simp, by simp [D.i1z.symm], by simp [D.TOi1], D.TIi2, by simp, by simp [D.i2z.symm, D.l2z.symm], by simp [D.TOi2, D.l2TO.symm], by simp [D.i12, D.l2i1.symm], by simp [D.i12.symm]⟩
      (Draws.strAscii hh i1 x t) (drawsTuple hh i2 b D.l2i2 its2.toArray) hz hTI hTO h1 ⟨h2, p2⟩ hix (by simp; omega) fun u1 u2 h' tk P1 P2 z' TO' h1' h2' hT hsz hk => ?_
    obtain ⟨c, t1, ec, eu⟩ := P1
    subst eu
    have hy : ys[i]? = some ys[i] := List.getElem?_eq_getElem hiy
    obtain ⟨u, hu, ru⟩ := rv2.get hy
    obtain rfl : u = u2 := by
      have : its2.toArray[i]? = some u2 := P2
      rw [show its2.toArray[i]? = its2[i]? by simp] at this
      rw [hu] at this
      exact Option.some.inj this
    refine ⟨_, rfl, wpAny_letOwnedTupleGo_zip (s := { s with heap := h', toks := tk }) z' fun h'' z'' sb => ?_⟩
    have hT2 : h''.get? s.heap.objs.size = some { cls := .type "tuple", data := .seq #[.str ⟨#[c]⟩ t1, u] } := (sb.2 _ (Nat.ne_of_gt hzl)).trans hT
    have new : ObjOk X.prog X.w (upd H s.heap.objs.size (.tup [.str ⟨#[c]⟩, ys[i]])) h'' s.heap.objs.size (.tup [.str ⟨#[c]⟩, ys[i]]) :=
      ⟨by show 2 ≤ sizeLine; decide, [.str ⟨#[c]⟩ t1, u], .cons ⟨t1, rfl⟩ (.cons ru .nil), ⟨_, hT2, rfl, _, rfl⟩⟩
    have I1 : Inv X pins σ (upd H s.heap.objs.size (.tup [.str ⟨#[c]⟩, ys[i]])) { s with heap := h'', toks := tk } :=
      I.turnedNew (t' := tk) (ch := [z, TI, TO, i1, i2]) (fun c o hb q => (sb.2 c (fun q' => hb (by simp [q']))).trans (hk c o (fun q' => hb (by simp [q'])) (fun q' => hb (by simp [q'])) (fun q' => hb (by simp [q'])) (fun q' => hb (by simp [q'])) q)) hf (Nat.le_refl _) new
    refine ⟨.ref s.heap.objs.size, _, I1, rfl, ⟨_, c, ys[i], rfl, I.hok.fresh (Nat.le_refl _), ec, rfl, fun l hl => by rw [I.tuple_inj hl hqy]; exact hy⟩, ⟨z'', ?_, ⟨.str ⟨#[c]⟩ t1, u, ?_⟩, ?_, ?_⟩, fun c hcm => ?_⟩
    · exact (sb.2 _ D.TIz).trans (hk _ _ D.TIz D.TITO D.TIi1 D.TIi2 hTI)
    · exact (sb.2 _ D.TOz).trans TO'
    · obtain ⟨o1, e1, r1⟩ := h1'
      exact ⟨o1, (sb.2 _ D.i1z).trans e1, r1⟩
    · exact h2'.1.at fun o q => (sb.2 _ D.i2z).trans q
    · have hlt : c < s.heap.objs.size := by
        have e' : c = z ∨ c = TI ∨ c = TO ∨ c = i1 ∨ c = i2 := by simpa using hcm
        rcases e' with q | q | q | q | q
        · rw [q]; exact hzl
        · rw [q]; exact Heap.lt_size hTI
        · rw [q]; exact Heap.lt_size hTO
        · rw [q]; obtain ⟨_, e1, _⟩ := h1; exact Heap.lt_size e1
        · rw [q]; obtain ⟨_, e2, _⟩ := h2; exact Heap.lt_size e2
      rw [upd_ne (Nat.ne_of_lt hlt)]
      exact (hf c hcm).1
  done := by
    intro X hP hw hK hc i pins s σ H E I hf st hg
    subst hP hw hK
    obtain ⟨hz, hTI, ⟨x0, y0, hTO⟩, h1, h2⟩ := st
    obtain ⟨ys, hqy, hly, hlx, hend⟩ := hg
    obtain ⟨its2, rv2, p2, _⟩ := I.tuple hqy
    have hl2 := rv2.length
    have hh : X.A.in1.handled = none := I.ok.hd hc
    refine wpAny_pyNext_zipD2_end (a1 := x0) (a2 := y0) (St1 := fun i h => h.IsStrIter i1 "str_ascii_iterator" x t i) (St2 := fun i h => h.IsTupleIter i2 b i ∧ h.IsTuple b its2.toArray)
      ⟨D.TIz, D.TOz, D.TITO, D.TIi1, by simp, by simp [D.i1z.symm], by simp [D.TOi1], D.TIi2, by simp, by simp [D.i2z.symm, D.l2z.symm], by simp [D.TOi2, D.l2TO.symm], by simp [D.i12, D.l2i1.symm], by simp [D.i12.symm]⟩
      (Draws.strAscii hh i1 x t) (drawsTuple hh i2 b D.l2i2 its2.toArray) hz hTI hTO h1 ⟨h2, p2⟩ hlx (by simp; omega) (by simp; omega) fun h' tk hk => ?_
    exact ⟨rfl, I.turnedL (t' := tk) (ch := [z, TI, TO, i1, i2]) (fun c o hb q =>
      hk c o (fun q' => hb (by simp [q'])) (fun q' => hb (by simp [q'])) (fun q' => hb (by simp [q'])) (fun q' => hb (by simp [q'])) q) hf⟩
  self := fun A i s Q E st h => wpAny_pyIter_zip st.1 h
def iZipS (K : PySem.W.Frag) (ta : TA) : TI := fun σ H R => ta σ H fun vs H1 => ∃ (x : Str) (b : Addr) (ys : List V), vs = [.str x, .ref b] ∧ x.cps.all (· < 128) = true ∧ SqT K H1 b ys ∧ R (ItzS K x b) H1
theorem pi_zipS {X : Cx} {e e2 : Expr} {ta : TA} {p pos tpos : Pos} {elts : List Expr} {kk : Nat} (hg : Gl X "zip") (hm : X.mg "zip" = none) (ha : PA X [e, e2] ta)
    (hs : starEach [e, e2] X.env = (false, eval e X.env) :: starEach [e2] X.env := by rfl) (hpl : (backTo pos (starEach [e2] X.env)).any (·.1) = false := by rfl) :
    PI X (.Tuple elts kk tpos) (.Call (.Name "zip" p) [e, e2] [] pos) (iZipS X.K ta) := by
  refine ⟨fun pins s σ H R I h => ?_⟩
  refine Call_ (ld_blt I hg hm PyProof.Rows.boot_zip (PyProof.Rows.callWith_type1 (thn (ha.run pos pins s σ H _ I h) fun us s1 ⟨vs, H1, I1, r1, q1⟩ => ?_) hs hpl))
  obtain ⟨x, b, ys, ex, hx, hqy, q⟩ := q1
  subst ex
  cases r1 with
  | cons r rr =>
    cases rr with
    | cons r' rr =>
      cases rr
      obtain ⟨t, rfl⟩ := r
      cases r'
      have fresh5 : ∀ c, c ∈ [s1.heap.objs.size + 4, s1.heap.objs.size + 2, s1.heap.objs.size + 3, s1.heap.objs.size, s1.heap.objs.size + 1] → FpOk X pins H1 c := fun c hcm => by
        have e' : c = s1.heap.objs.size + 4 ∨ c = s1.heap.objs.size + 2 ∨ c = s1.heap.objs.size + 3 ∨ c = s1.heap.objs.size ∨ c = s1.heap.objs.size + 1 := by simpa using hcm
        have hle : s1.heap.objs.size ≤ c := by
          rcases e' with z | z | z | z | z
          · rw [z]; exact Nat.le_add_right _ _
          · rw [z]; exact Nat.le_add_right _ _
          · rw [z]; exact Nat.le_add_right _ _
          · rw [z]; exact Nat.le_refl _
          · rw [z]; exact Nat.le_add_right _ _
        exact I1.fpOk hle (I1.hok.fresh hle)
      obtain ⟨its2, rv2, p2, _⟩ := I1.tuple hqy
      obtain ⟨o2, ho2, _⟩ := id p2
      refine call_zipS hx (show s1.heap.IsTuple b its2.toArray from p2) fun h' hz hTI hTO h1 h2 hsz hk => wpAny_pyIter_zip hz ?_
      have I2 : Inv X pins σ H1 { s1 with heap := h' } := I1.kept (t' := s1.toks) hk
      exact ⟨s1.heap.objs.size + 4, [s1.heap.objs.size + 4, s1.heap.objs.size + 2, s1.heap.objs.size + 3, s1.heap.objs.size, s1.heap.objs.size + 1], _, _, H1, rfl, I2, turn_zipS (PySem.W.ktu_apart s1.heap.objs.size b b (Heap.lt_size ho2) (Heap.lt_size ho2)), ⟨hz, hTI, ⟨_, _, hTO⟩, h1, h2⟩, fresh5, q⟩
end Toy


namespace Toy
open PySem PySem.Spec L2 PyProof.Rows PySem.W
abbrev sSlots : Stmt := top 49
abbrev sTSlots : Stmt := top 50
def slA : List (Str × Str) := [("same", ""), ("every", ""), ("none", ""), ("fail", ""), ("field", "k"), ("item", "i"), ("pipe", "ff"), ("both", "ff")]
def slB : List (Str × Str) := [("if", "tff"), ("try", "w"), ("other", "wf"), ("leaf", "x"), ("list", "f"), ("dict", "e"), ("sum", "ff"), ("less", "ff")]
def slC : List (Str × Str) := [("product", "ff"), ("alike", "ff"), ("before", "ff"), ("as", "fnf"), ("name", "n"), ("when", "fff"), ("catch", "ff")]
def slD : List (Str × Str) := [("reduce", "fnff"), ("first", "f"), ("take", "if"), ("fails", "f"), ("def", "npff"), ("call", "na"), ("places", "c")]
def slE : List (Str × Str) := [("change", "cf"), ("drop", "c"), ("add", "ckf"), ("append", "cf")]
def slT : List (Str × Str) := [("is", "s"), ("equal", "x"), ("at", "wt"), ("and", "tt"), ("or", "tt"), ("not", "t")]
def slF : List (Str × Str) := slA ++ (slB ++ (slC ++ (slD ++ slE)))
def kvO (xs : List (Str × Str)) : List (Key × V) := xs.map fun p => (.inr p.1, .str p.2)
def optS : Option Str → V
  | some x => .str x
  | none => .non
def spSlot (L : List (Str × Str)) : Sp := fun vs H Q _ => ∃ x : Str, vs = [.str x] ∧ ∀ H', Same H H' → Q (optS (L.lookup x)) H'
theorem valV_kvO (x : Str) : ∀ L : List (Str × Str), (valV (kvO L) (.inr x)).getD .non = optS (L.lookup x)
  | [] => rfl
  | (k, v) :: L => by
    have ih := valV_kvO x L
    by_cases h : k = x
    · subst h
      have e1 : valV (kvO ((k, v) :: L)) (.inr k) = some (.str v) := by
        unfold kvO valV
        rw [List.map_cons, List.find?_cons_of_pos (by simp)]
        rfl
      have e2 : List.lookup k ((k, v) :: L) = some v := by simp [List.lookup]
      rw [e1, e2]
      rfl
    · have e1 : valV (kvO ((k, v) :: L)) (.inr x) = valV (kvO L) (.inr x) := by
        unfold kvO valV
        rw [List.map_cons, List.find?_cons_of_neg (by simp [h])]
      have e2 : List.lookup x ((k, v) :: L) = List.lookup x L := by
        have : (x == k) = false := by simp [Ne.symm h]
        simp [List.lookup, this]
      rw [e1, e2]
      exact ih
abbrev mA : List (Key × V) := mergeK [] (kvO slA)
abbrev mB : List (Key × V) := mergeK mA (mergeK [] (kvO slB))
abbrev mC : List (Key × V) := mergeK mB (mergeK [] (kvO slC))
abbrev mD : List (Key × V) := mergeK mC (mergeK [] (kvO slD))
abbrev mE : List (Key × V) := mergeK mD (mergeK [] (kvO slE))
theorem mergeO : mE = kvO slF := by rfl
theorem upd_step {H H1 : Hp} {p p2 : Addr} {m x y : List (Key × V)} (np : H p = none) (hs : Same H H1) (hp : H1 p = some (.dK m)) (n2 : H1 p2 = none) :
    p ≠ p2 ∧ (upd (upd H1 p2 (.dK [])) p2 (.dK x)) p = some (.dK m) ∧ Same H (upd (upd (upd H1 p2 (.dK [])) p2 (.dK x)) p (.dK y)) := by
  have n : p ≠ p2 := ne_of_none hp n2
  refine ⟨n, Eq.trans (upd_ne n) (Eq.trans (upd_ne n) hp), fun b o e => ?_⟩
  have nb : b ≠ p := ne_of_none e np
  have nb2 : b ≠ p2 := ne_of_none (hs _ _ e) n2
  rw [upd_ne nb, upd_ne nb2, upd_ne nb2]
  exact hs _ _ e
section
variable {P : Program} {w : World} {K : PySem.W.Frag} {mg : Str → Option Value} {base : Heap}
theorem scSl : FnScope ["_law_word", "_law_rows"] ["_law_word"] (defScope sSlots) := ⟨rfl, rfl, rfl, by decide +kernel, rfl, by decide +kernel, by decide +kernel⟩
theorem ok_slots {f : Addr} {fd : FuncData} (F : Fun K "_law_slots" "_law_slots" sSlots f fd) : FnOk P w K mg base CX0 1 f fd ["_law_word"] (spSlot slF) := by
  refine F.ok scSl (fun vs H Q E h => ?_) (fun cdv A outer s H vs Q E hr h => ?_)
  · obtain ⟨x, rfl, _⟩ := h
    rfl
  · obtain ⟨x, rfl, q⟩ := h
    have hu := Nat.lt_of_le_of_lt (Nat.add_le_add_left (show 1 ≤ 64 by decide) _) hr.units
    refine ⟨_, pss_cons (ps_set (i := 1) scSl.nd rfl (Or.inl rfl) (pe_disp (pps_cons pe_str pe_str (pps_cons pe_str pe_str (pps_cons pe_str pe_str (pps_cons pe_str pe_str (pps_cons pe_str pe_str (pps_cons pe_str pe_str (pps_cons pe_str pe_str (pps_cons pe_str pe_str pps_nil)))))))) (by rfl) (by rfl) (fun z => by cases z) (by decide)))
      (pss_cons (ps_expr (pe_bm PySem.F.plainAttrs_dict PySem.F.slot_dict_update PySem.F.type_dict_update mtd_update (pv 1) (pa_cons (pe_disp (pps_cons pe_str pe_str (pps_cons pe_str pe_str (pps_cons pe_str pe_str (pps_cons pe_str pe_str (pps_cons pe_str pe_str (pps_cons pe_str pe_str (pps_cons pe_str pe_str (pps_cons pe_str pe_str pps_nil)))))))) (by rfl) (by rfl) (fun z => by cases z) (by decide)) pa_nil)))
      (pss_cons (ps_expr (pe_bm PySem.F.plainAttrs_dict PySem.F.slot_dict_update PySem.F.type_dict_update mtd_update (pv 1) (pa_cons (pe_disp (pps_cons pe_str pe_str (pps_cons pe_str pe_str (pps_cons pe_str pe_str (pps_cons pe_str pe_str (pps_cons pe_str pe_str (pps_cons pe_str pe_str (pps_cons pe_str pe_str pps_nil))))))) (by rfl) (by rfl) (fun z => by cases z) (by decide)) pa_nil)))
      (pss_cons (ps_expr (pe_bm PySem.F.plainAttrs_dict PySem.F.slot_dict_update PySem.F.type_dict_update mtd_update (pv 1) (pa_cons (pe_disp (pps_cons pe_str pe_str (pps_cons pe_str pe_str (pps_cons pe_str pe_str (pps_cons pe_str pe_str (pps_cons pe_str pe_str (pps_cons pe_str pe_str (pps_cons pe_str pe_str pps_nil))))))) (by rfl) (by rfl) (fun z => by cases z) (by decide)) pa_nil)))
      (pss_cons (ps_expr (pe_bm PySem.F.plainAttrs_dict PySem.F.slot_dict_update PySem.F.type_dict_update mtd_update (pv 1) (pa_cons (pe_disp (pps_cons pe_str pe_str (pps_cons pe_str pe_str (pps_cons pe_str pe_str (pps_cons pe_str pe_str pps_nil)))) (by rfl) (by rfl) (fun z => by cases z) (by decide)) pa_nil)))
      (pss_one (ps_ret (pe_dget2 hu (pv 1) (pv 0) pe_non ⟨rfl, rfl, rfl, rfl⟩))))))), ?_⟩
    intro p np
    refine ⟨upd_same, kvO slA, rfl, (by decide), ?_⟩
    have hs0 : Same H (upd (upd H p (.dK [])) p (.dK mA)) := fun b o e => by rw [upd_ne (ne_of_none e np), upd_ne (ne_of_none e np)]; exact e
    refine ⟨_, rfl, .inr (.inr (.inl ⟨rfl, .inl ⟨_, upd_same⟩⟩)), fun p2 n2 => ?_⟩
    obtain ⟨a1, b1, c1⟩ := upd_step (x := mergeK [] (kvO slB)) (y := mB) np hs0 upd_same n2
    refine ⟨upd_same, kvO slB, rfl, (by decide), p, p2, mA, _, rfl, rfl, a1, b1, upd_same, few (by decide), ?_⟩
    refine ⟨_, rfl, .inr (.inr (.inl ⟨rfl, .inl ⟨_, upd_same⟩⟩)), fun p3 n3 => ?_⟩
    obtain ⟨a2, b2, c2⟩ := upd_step (x := mergeK [] (kvO slC)) (y := mC) np c1 upd_same n3
    refine ⟨upd_same, kvO slC, rfl, (by decide), p, p3, mB, _, rfl, rfl, a2, b2, upd_same, few (by decide), ?_⟩
    refine ⟨_, rfl, .inr (.inr (.inl ⟨rfl, .inl ⟨_, upd_same⟩⟩)), fun p4 n4 => ?_⟩
    obtain ⟨a3, b3, c3⟩ := upd_step (x := mergeK [] (kvO slD)) (y := mD) np c2 upd_same n4
    refine ⟨upd_same, kvO slD, rfl, (by decide), p, p4, mC, _, rfl, rfl, a3, b3, upd_same, few (by decide), ?_⟩
    refine ⟨_, rfl, .inr (.inr (.inl ⟨rfl, .inl ⟨_, upd_same⟩⟩)), fun p5 n5 => ?_⟩
    obtain ⟨a4, b4, c4⟩ := upd_step (x := mergeK [] (kvO slE)) (y := mE) np c3 upd_same n5
    refine ⟨upd_same, kvO slE, rfl, (by decide), p, p5, mD, _, rfl, rfl, a4, b4, upd_same, few (by decide), ?_⟩
    refine ⟨_, rfl, p, rfl, .inl ⟨_, .inl upd_same⟩, _, rfl, _, DGet.k (k := .inr x) upd_same, ?_⟩
    show Q ((valV mE (.inr x)).getD .non) _
    rw [mergeO, valV_kvO]
    exact q _ c4
theorem scTs : FnScope ["_law_word"] ["_law_word"] (defScope sTSlots) := ⟨rfl, rfl, rfl, by decide +kernel, rfl, by decide +kernel, by decide +kernel⟩
theorem ok_tslots {f : Addr} {fd : FuncData} (F : Fun K "_law_test_slots" "_law_test_slots" sTSlots f fd) : FnOk P w K mg base CX0 1 f fd ["_law_word"] (spSlot slT) := by
  refine F.ok scTs (fun vs H Q E h => ?_) (fun cdv A outer s H vs Q E hr h => ?_)
  · obtain ⟨x, rfl, _⟩ := h
    rfl
  · obtain ⟨x, rfl, q⟩ := h
    have hu := Nat.lt_of_le_of_lt (Nat.add_le_add_left (show 1 ≤ 64 by decide) _) hr.units
    refine ⟨_, pss_one (ps_ret (pe_dget2 hu (pe_disp (pps_cons pe_str pe_str (pps_cons pe_str pe_str (pps_cons pe_str pe_str (pps_cons pe_str pe_str (pps_cons pe_str pe_str (pps_cons pe_str pe_str pps_nil)))))) (by rfl) (by rfl) (fun z => by cases z) (by decide)) (pv 0) pe_non ⟨rfl, rfl, rfl, rfl⟩)), ?_⟩
    intro p np
    refine ⟨upd_same, kvO slT, rfl, (by decide), ?_⟩
    refine ⟨p, rfl, .inl ⟨_, .inl upd_same⟩, _, rfl, _, DGet.k (k := .inr x) upd_same, ?_⟩
    have e : (valV (mergeK [] (kvO slT)) (.inr x)).getD .non = optS (slT.lookup x) := valV_kvO x slT
    show Q ((valV (mergeK [] (kvO slT)) (.inr x)).getD .non) _
    rw [e]
    exact q _ fun b o e => by rw [upd_ne (ne_of_none e np), upd_ne (ne_of_none e np)]; exact e
end
end Toy


namespace Toy
open PySem PySem.Spec L2 PyProof.Rows PySem.W
abbrev sParts : Stmt := top 51
def itemsD : PyData → List PyData
  | .tuple gs => gs
  | _ => []
def sndD : PyData → PyData
  | .tuple [_, g] => g
  | x => x
def partsK (k : Str) (f : PyData) : List PyData := if PK k = true then [f] else if k = "filters" then itemsD f else if k = "entries" then (itemsD f).map sndD else []
def partsF : List Str → List PyData → List PyData
  | k :: ks, f :: fs => partsK k f ++ partsF ks fs
  | _, _ => []
theorem partsF_take : ∀ (ks : List Str) (fs : List PyData) (i : Nat) {k : Str} {f : PyData}, ks[i]? = some k → fs[i]? = some f → partsF (ks.take (i + 1)) (fs.take (i + 1)) = partsF (ks.take i) (fs.take i) ++ partsK k f
  | k :: ks, f :: fs, 0, _, _, h1, h2 => by
    cases h1
    cases h2
    simp [partsF]
  | k :: ks, f :: fs, i + 1, _, _, h1, h2 => by
    have := partsF_take ks fs i (by simpa using h1) (by simpa using h2)
    simp only [List.take_succ_cons, partsF]
    rw [this, List.append_assoc]
  | [], _, _, _, _, h1, _ => by simp at h1
  | _ :: _, [], _, _, _, _, h2 => by simp at h2
/-- the letter of a slot -/
def letC (k : Str) : Nat := if k = "filter" then 102 else if k = "test" then 116 else if k = "walk" then 119 else if k = "chooser" then 99 else if k = "entries" then 101 else if k = "filters" then 97 else if k = "key" then 107 else if k = "index" then 105
  else if k = "free" then 110 else if k = "leaf" then 120 else if k = "sort" then 115 else 112
def slotW (w : Str) : Option Str := match slF.lookup w with
  | some x => some x
  | none => slT.lookup w
theorem slot_form : ∀ p ∈ formsL, ∃ x, slotW p.1 = some x ∧ x.cps.toList = p.2.map letC ∧ x.cps.all (· < 128) = true ∧ ∀ k ∈ p.2, PK k = decide (letC k ∈ ("fwct" : Str).cps.toList) ∧ decide (k = "entries") = decide ((⟨#[letC k]⟩ : Str) = "e") ∧ decide (k = "filters") = decide ((⟨#[letC k]⟩ : Str) = "a") := by
  have h : ∀ p ∈ formsL, (match slotW p.1 with
    | some x => decide (x.cps.toList = p.2.map letC) && x.cps.all (· < 128) && p.2.all fun k => decide (PK k = decide (letC k ∈ ("fwct" : Str).cps.toList)) && decide (decide (k = "entries") = decide ((⟨#[letC k]⟩ : Str) = "e")) && decide (decide (k = "filters") = decide ((⟨#[letC k]⟩ : Str) = "a"))
    | none => false) = true := by decide +kernel
  intro p hp
  have z := h p hp
  cases e : slotW p.1 with
  | none => rw [e] at z; cases z
  | some x =>
    rw [e] at z
    simp only [Bool.and_eq_true, List.all_eq_true, decide_eq_true_eq] at z
    refine ⟨x, rfl, z.1.1, z.1.2, fun k hk => ?_⟩
    obtain ⟨⟨a, b⟩, c⟩ := z.2 k hk
    exact ⟨a, b, c⟩
theorem lookup_mem {w : Str} {ks : List Str} : ∀ {L : List (Str × List Str)}, L.lookup w = some ks → (w, ks) ∈ L
  | [], h => by cases h
  | (k, v) :: L, h => by
    by_cases e : w = k
    · subst e
      simp [List.lookup] at h
      subst h
      exact List.mem_cons_self
    · have : (w == k) = false := by simp [e]
      simp only [List.lookup, this] at h
      exact List.mem_cons_of_mem _ (lookup_mem h)
theorem cut_1 (a : V) (xs : List V) : cutV (a :: xs) (some 1) none = xs := by
  unfold cutV
  rw [show HT.sIx (a :: xs).length 0 (some 1) = min 1 (a :: xs).length from HT.sIx_nat _ _ 1, HT.sIx_none]
  rw [show min 1 (a :: xs).length = 1 by simp]
  simp
theorem cut_1w (a : V) (xs : List V) : ¬ (HT.sIx (a :: xs).length 0 (some 1) = 0 ∧ HT.sIx (a :: xs).length (a :: xs).length none = (a :: xs).length) := by
  rw [show HT.sIx (a :: xs).length 0 (some 1) = min 1 (a :: xs).length from HT.sIx_nat _ _ 1]
  intro h
  have := h.1
  rw [List.length_cons] at this
  omega
end Toy


namespace Toy
open PySem PySem.Spec L2 PyProof.Rows PySem.W
theorem fresh_of {H H1 : Hp} {p : Addr} (s : Same H H1) (n : H1 p = none) : H p = none := by
  cases e : H p with
  | none => rfl
  | some o =>
    rw [s _ _ e] at n
    cases n
theorem for_zipS {K : PySem.W.Frag} {x : Str} {b : Addr} {ys : List V} {g : TG} {tb : TS} {D : Ends} {σ : L2.St} {H : Hp} (hl : x.cps.size = ys.length) (Pv : Nat → L2.St → Hp → Prop) (h0 : Pv 0 σ H) (hq : ∀ i σ H, Pv i σ H → SqT K H b ys)
    (hs : ∀ (i : Nat) (c : Nat) (y : V) (T : Addr) (σ : L2.St) (H : Hp), x.cps[i]? = some c → ys[i]? = some y → Pv i σ H → H T = none → g (.ref T) σ (upd H T (.tup [.str ⟨#[c]⟩, y])) fun σ2 H2 => tb { D with nx := Pv (i + 1), ct := Pv (i + 1), bk := D.nx } σ2 H2) (hd : ∀ σ H, Pv ys.length σ H → D.nx σ H) :
    ∃ W : Nat → Nat → L2.St → Hp → Prop, (∃ m, W 0 m σ H) ∧ ∀ i m σ H, W i m σ H →
      ((ItzS K x b).stop i H ∧ D.nx σ H) ∨ ((ItzS K x b).go i H ∧ ∃ N : L2.St → Hp → Prop, (∀ σ' H', N σ' H' → ∃ m', m' < m ∧ W (i + 1) m' σ' H') ∧ ∀ v H', (ItzS K x b).yld i H v H' → g v σ H' fun σ2 H2 => tb { D with nx := N, ct := N, bk := D.nx } σ2 H2) := by
  refine ⟨fun i m σ H => m = ys.length - i ∧ i ≤ ys.length ∧ Pv i σ H, ⟨ys.length, rfl, Nat.zero_le _, h0⟩, ?_⟩
  rintro i m σ H ⟨rfl, hi, p⟩
  have qy := hq i σ H p
  by_cases hlt : i < ys.length
  · have hy : ys[i]? = some ys[i] := List.getElem?_eq_getElem hlt
    refine .inr ⟨⟨ys, qy, hlt, by omega⟩, Pv (i + 1), fun σ' H' p' => ⟨ys.length - (i + 1), by omega, rfl, hlt, p'⟩, fun v H' y => ?_⟩
    obtain ⟨T, c, y', rfl, hT, hc, rfl, f2⟩ := y
    exact hs i c y' T σ H hc (f2 ys qy) p hT
  · have e : i = ys.length := by omega
    subst e
    exact .inl ⟨⟨ys, qy, Nat.le_refl _, by omega, Or.inr rfl⟩, hd σ H p⟩
theorem forms_len : ∀ p ∈ formsL, p.2.length ≤ 4 := by decide +kernel
theorem flds_get {p : PyData → Bool} : ∀ {ks : List Str} {fs : List PyData} {i : Nat} {k : Str} {f : PyData}, flds p ks fs = true → ks[i]? = some k → fs[i]? = some f → fldOk p k f = true
  | k :: ks, f :: fs, 0, _, _, h, h1, h2 => by
    cases h1
    cases h2
    simp only [flds, Bool.and_eq_true] at h
    exact h.1
  | k :: ks, f :: fs, i + 1, _, _, h, h1, h2 => by
    simp only [flds, Bool.and_eq_true] at h
    exact flds_get (i := i) h.2 (by simpa using h1) (by simpa using h2)
  | [], _, _, _, _, _, h1, _ => by simp at h1
  | _ :: _, [], _, _, _, _, _, h2 => by simp at h2
theorem tupAll_cases {p : PyData → Bool} {f : PyData} (h : tupAll p f = true) : ∃ gs, f = .tuple gs ∧ gs.length ≤ 8 ∧ gs.all p = true := by
  unfold tupAll at h
  split at h
  · rename_i gs
    rw [Bool.and_eq_true] at h
    exact ⟨gs, rfl, of_decide_eq_true h.1, h.2⟩
  · cases h
theorem isEnt_cases {p : PyData → Bool} {f : PyData} (h : isEnt p f = true) : ∃ x g, f = .tuple [.str x, g] ∧ okK x = true ∧ p g = true := by
  unfold isEnt at h
  split at h
  · rename_i x g
    rw [Bool.and_eq_true] at h
    exact ⟨x, g, rfl, h.1, h.2⟩
  · cases h
theorem fld_f {p : PyData → Bool} {f : PyData} (h : fldOk p "filters" f = true) : tupAll p f = true := by
  rw [fldOk, if_neg (by decide +kernel), if_pos rfl] at h
  exact h
theorem fld_e {p : PyData → Bool} {f : PyData} (h : fldOk p "entries" f = true) : tupAll (isEnt p) f = true := by
  rw [fldOk, if_neg (by decide +kernel), if_neg (by decide +kernel), if_pos rfl] at h
  exact h
def partsOf : PyData → List PyData
  | .tuple (.str w :: fs) => match formOf w with
    | some ks => partsF ks fs
    | none => []
  | _ => []
theorem partsOf_node {w : Str} {fs : List PyData} {ks : List Str} (h : formOf w = some ks) : partsOf (.tuple (.str w :: fs)) = partsF ks fs := by
  unfold partsOf
  simp only [h]
theorem dpl_len {K : PySem.W.Frag} {H : Hp} : ∀ {vs : List V} {ds : List PyData}, DpAll K H vs ds → vs.length = ds.length
  | _, _, .nil => rfl
  | _, _, .cons _ r => by rw [List.length_cons, List.length_cons, dpl_len r]
theorem dpl_app {K : PySem.W.Frag} {H : Hp} : ∀ {vs : List V} {ds : List PyData} {us : List V} {es : List PyData}, DpAll K H vs ds → DpAll K H us es → DpAll K H (vs ++ us) (ds ++ es)
  | _, _, _, _, .nil, r => r
  | _, _, _, _, .cons a b, r => .cons a (dpl_app b r)
theorem dpl_get {K : PySem.W.Frag} {H : Hp} : ∀ {vs : List V} {ds : List PyData} {i : Nat} {v : V}, DpAll K H vs ds → vs[i]? = some v → ∃ d, ds[i]? = some d ∧ Dp K H v d
  | _, _, 0, _, .cons a _, h => by cases h; exact ⟨_, rfl, a⟩
  | _, _, i + 1, _, .cons _ b, h => by
    obtain ⟨d, e, z⟩ := dpl_get (i := i) b (by simpa using h)
    exact ⟨d, by simpa using e, z⟩
  | _, _, _, _, .nil, h => by simp at h
theorem at_nat {xs : List V} {n : Nat} {v : V} (h : xs[n]? = some v) : atI xs (n : Int) = some v := by
  have hl : n < xs.length := by
    rcases Nat.lt_or_ge n xs.length with z | z
    · exact z
    · rw [List.getElem?_eq_none z] at h
      cases h
  unfold atI
  have : ixN xs.length (n : Int) = some n := by
    unfold ixN
    rw [if_pos (Int.natCast_nonneg n)]
    simp [hl]
  rw [this]
  exact h
theorem tif_both {t1 t2 : TE} {c : Bool} {σ : L2.St} {H : Hp} {Q : VK} {R : Hp → Prop} {v : V} (hk : ∀ H3, R H3 → Q v H3) (h1 : c = true → ∀ Q' : VK, (∀ H3, R H3 → Q' v H3) → t1 σ H Q') (h2 : c = false → ∀ Q' : VK, (∀ H3, R H3 → Q' v H3) → t2 σ H Q') :
    if c = true then t1 σ H Q else t2 σ H Q := by
  cases c with
  | true => rw [if_pos rfl]; exact h1 rfl Q hk
  | false => rw [if_neg Bool.false_ne_true]; exact h2 rfl Q hk
theorem at_0 (a : V) (xs : List V) : atI (a :: xs) 0 = some a := at_nat (n := 0) rfl
def spParts (K : PySem.W.Frag) : Sp := fun vs H Q _ => ∃ (v : V) (n : Nat) (t : PyData), vs = [v] ∧ Dp K H v t ∧ wf (n + 1) t = true ∧ ∀ H' L us, Same H H' → H L = none → H' L = some (.lst us) → DpAll K H us (partsOf t) → us.length ≤ 1000 → Q (.ref L) H'
section
variable {P : Program} {w : World} {K : PySem.W.Frag} {mg : Str → Option Value} {base : Heap}
abbrev NPt : List Str := ["_law_term", "_law_found", "_law_slot", "_law_x", "_law_entry"]
theorem scPt : FnScope NPt ["_law_term"] (defScope sParts) := ⟨rfl, rfl, rfl, by decide +kernel, rfl, by decide +kernel, by decide +kernel⟩
theorem ok_parts {f fS fT : Addr} {fd fdS fdT : FuncData} (F : Fun K "_law_parts" "_law_parts" sParts f fd)
    (GS : FnOk P w K mg base CX0 1 fS fdS ["_law_word"] (spSlot slF)) (mS : mg "_law_slots" = some (.ref fS)) (kS : PySem.W.keepIn K (.ref fS) = true) (bS : Binds K fdS ["_law_word"] [])
    (GT : FnOk P w K mg base CX0 1 fT fdT ["_law_word"] (spSlot slT)) (mT : mg "_law_test_slots" = some (.ref fT)) (kT : PySem.W.keepIn K (.ref fT) = true) (bT : Binds K fdT ["_law_word"] [])
    (mZip : mg "zip" = none) (mLi : mg "list" = none) : FnOk P w K mg base CX0 2 f fd ["_law_term"] (spParts K) := by
  refine F.ok scPt (fun vs H Q E h => ?_) (fun cdv A outer s H vs Q E hr h => ?_)
  · obtain ⟨v, n, t, rfl, _⟩ := h
    rfl
  · obtain ⟨v, n, t, rfl, hv, hw, q⟩ := h
    obtain ⟨wd, fs, ks, rfl, hk, hf⟩ := wf_cases hw
    refine ⟨_, pss_cons (ps_set (i := 1) scPt.nd rfl (Or.inl rfl) (pe_lst pa_nil))
      (pss_cons (ps_for PassesOwn.never rfl (pi_zipS (by rfl) mZip (pa_cons (pe_ifExp (pt_cmpR op_notN (pe_call GS hr (by rfl) mS kS bS .nil pass0 (pa_cons (pe_ix ix_tup (pv 0) pe_int (fun _ _ => rfl)) pa_nil)) pe_non (nomark _))
          (pe_call GS hr (by rfl) mS kS bS .nil pass0 (pa_cons (pe_ix ix_tup (pv 0) pe_int (fun _ _ => rfl)) pa_nil)) (pe_call GT hr (by rfl) mT kT bT .nil pass0 (pa_cons (pe_ix ix_tup (pv 0) pe_int (fun _ _ => rfl)) pa_nil)))
          (pa_cons (pe_slice sl_tup (pv 0) (po_some pe_int) po_none) pa_nil)))
        (pg_tup (by rfl) (pgs_cons (pg_name (i := 2) scPt.nd rfl (.inl rfl)) (pgs_cons (pg_name (i := 3) scPt.nd rfl (.inl rfl)) pgs_nil)))
        (pss_one (ps_if (pt_cmpR op_in_sign (pv 2) pe_str (by with_unfolding_all rfl))
          (pss_one (ps_expr (pe_bm PySem.F.plainAttrs_list PySem.F.slot_list_append PySem.F.type_list_append mt_append (pv 1) (pa_cons (pv 3) pa_nil))))
          (pss_one (ps_if (pt_cmpR op_eq (pv 2) pe_str (nomark _))
            (pss_one (ps_set (i := 1) scPt.nd rfl (Or.inl rfl) (pe_op op_cat (pv 1) (pe_lc (own := [("_law_entry", 4)]) (g := gName 4) (te := tOp (rIxT K) (tVar 4) (tC (.int 1))) (by rfl) scPt.nd (pi_tup (pv 3))
              (blkOk_by (own := [("_law_entry", 4)]) (N := NPt) (sc := defScope sParts) (by decide +kernel)) (fun _ _ _ _ _ => pg_name (i := 4) scPt.nd rfl (Or.inl rfl)) (fun _ _ _ _ _ => pts_nil)
              (fun _ _ _ _ _ => by exact (pe_ix ix_tup (pv 4) pe_int (fun _ _ => rfl)))))))
            (pss_one (ps_if (pt_cmpR op_eq (pv 2) pe_str (nomark _))
              (pss_one (ps_set (i := 1) scPt.nd rfl (Or.inl rfl) (pe_op op_cat (pv 1) (pe_callTy call_list_of (by rfl) mLi (by decide +kernel) (pa_cons (pv 3) pa_nil)))))
              pss_nil)))))))
      (pss_one (ps_ret (pv 1)))), ?_⟩
    cases hv with
    | @tup av xs _ hseq hall =>
    cases hall with
    | @cons v0 vs d0 ds h0 hvs =>
    cases h0
    have hkl := flds_len hf
    have hvl := dpl_len hvs
    refine ⟨few (by show 0 ≤ 1000; decide), fun L nL => ?_⟩
    have sL : Same H (upd H L (.lst [])) := same_new same_id nL
    have q1 : SqT K (upd H L (.lst [])) av (.str wd :: vs) := same_seqT sL hseq
    have hL0 : (upd H L (.lst [])) L = some (.lst []) := upd_same
    generalize upd H L (.lst []) = H1 at sL q1 hL0 ⊢
    have hx0 : ∀ H2, Same H1 H2 → SqT K H2 av (.str wd :: vs) := fun H2 s2 => same_seqT s2 q1
    refine ⟨_, rfl, av, _, 0, _, rfl, rfl, q1, at_0 _ _, wd, rfl, fun H2 s2 => ⟨rfl, _, rfl, ?_⟩⟩
    obtain ⟨x, hx, hxl, hxa, hxk⟩ := slot_form _ (lookup_mem hk)
    refine tif_both (R := fun H3 => Same H1 H3) (v := .str x) (fun H3 s3 => ?_) (fun hc Q' k => ?_) (fun hc Q' k => ?_)
    rotate_left
    · cases e : slF.lookup wd with
      | none => rw [e] at hc; cases hc
      | some y =>
        have ex : y = x := by
          unfold slotW at hx
          rw [e] at hx
          exact Option.some.inj hx
        subst ex
        refine ⟨_, rfl, av, _, 0, _, rfl, rfl, hx0 _ s2, at_0 _ _, wd, rfl, fun H3 s3 => ?_⟩
        rw [e]
        exact k H3 (s2.trans s3)
    · cases e : slF.lookup wd with
      | some y =>
        rw [e] at hc
        simp [optS] at hc
      | none =>
        have ex : slT.lookup wd = some x := by
          unfold slotW at hx
          rw [e] at hx
          exact hx
        refine ⟨_, rfl, av, _, 0, _, rfl, rfl, hx0 _ s2, at_0 _ _, wd, rfl, fun H3 s3 => ?_⟩
        rw [ex]
        exact k H3 (s2.trans s3)
    refine ⟨_, rfl, 1, rfl, av, _, rfl, hx0 _ s3, cut_1w _ _, fun B nB => ?_⟩
    rw [cut_1]
    have sB : Same H1 (upd H3 B (.tup vs)) := same_new s3 nB
    have hB : (upd H3 B (.tup vs)) B = some (.tup vs) := upd_same
    have nLB : L ≠ B := ne_of_none (s3 _ _ hL0) nB
    have hLB : (upd H3 B (.tup vs)) L = some (.lst []) := (upd_ne nLB).trans (s3 _ _ hL0)
    have nB0 : H B = none := fresh_of (sL.trans s3) nB
    have sHB : Same H (upd H3 B (.tup vs)) := sL.trans sB
    generalize upd H3 B (.tup vs) = H4 at sB hB hLB sHB ⊢
    refine ⟨x, B, vs, rfl, hxa, SqT.of hB, ?_⟩
    have xsz : x.cps.size = ks.length := by
      have := congrArg List.length hxl
      rw [List.length_map] at this
      simpa using this
    have vk : vs.length = ks.length := by omega
    have k4 : ks.length ≤ 4 := forms_len _ (lookup_mem hk)
    refine for_zipS (K := K) (x := x) (b := B) (ys := vs) (by omega) (fun i σ H' => ∃ M us a b, σ = [some (.ref av), some (.ref M), a, b, none] ∧ Same H H' ∧ H M = none ∧ M ≠ B ∧ H' M = some (.lst us) ∧ H' B = some (.tup vs) ∧ DpAll K H us (partsF (ks.take i) (fs.take i)) ∧ us.length ≤ 9 * i)
      ⟨L, [], none, none, rfl, sHB, nL, nLB, hLB, hB, .nil, Nat.zero_le _⟩ ?_ ?_ ?_
    · rintro i σ H' ⟨M, us, a, b, _, _, _, _, _, e, _⟩
      exact SqT.of e
    · rintro i c y T σ H5 hc hy ⟨M, us, a, b, rfl, s5, nM, nMB, hM, hB5, hus, hlen⟩ nT
      have hi : i < vs.length := by
        rcases Nat.lt_or_ge i vs.length with z | z
        · exact z
        · rw [List.getElem?_eq_none z] at hy
          cases hy
      have i9 : i ≤ 4 := by omega
      obtain ⟨f0, hf0, hyf⟩ := dpl_get hvs hy
      have hki : ks[i]? = some ks[i] := List.getElem?_eq_getElem (by omega)
      generalize ks[i] = k0 at hki
      have hcl : c = letC k0 := by
        have : x.cps.toList[i]? = some c := by rw [Array.getElem?_toList]; exact hc
        rw [hxl, List.getElem?_map, hki] at this
        exact (Option.some.inj this).symm
      subst hcl
      obtain ⟨e1, e2, e3⟩ := hxk k0 (List.mem_of_getElem? hki)
      have hfo := flds_get hf hki hf0
      have hpt := partsF_take ks fs i hki hf0
      have nMT : M ≠ T := ne_of_none hM nT
      have nBT : B ≠ T := ne_of_none hB5 nT
      have sT : Same H (upd H5 T (.tup [.str ⟨#[letC k0]⟩, y])) := same_new s5 nT
      have hMT : (upd H5 T (.tup [.str ⟨#[letC k0]⟩, y])) M = some (.lst us) := (upd_ne nMT).trans hM
      have hBT : (upd H5 T (.tup [.str ⟨#[letC k0]⟩, y])) B = some (.tup vs) := (upd_ne nBT).trans hB5
      refine ⟨T, _, rfl, SqT.of upd_same, rfl, _, _, rfl, _, _, rfl, rfl, ?_⟩
      generalize upd H5 T (.tup [.str ⟨#[letC k0]⟩, y]) = H6 at sT hMT hBT ⊢
      refine ⟨_, rfl, _, _, rfl, rfl, _, rfl, ite2 (fun c1 => ?_) (fun c1 => ?_)⟩
      · have hP : PK k0 = true := e1.trans c1
        have ep : partsK k0 f0 = [f0] := by unfold partsK; rw [if_pos hP]
        refine ⟨_, rfl, .inl ⟨rfl, _, SqL.of hMT⟩, _, rfl, M, us, y, rfl, rfl, hMT, small1000 (by omega), ?_⟩
        refine ⟨M, us ++ [y], _, _, rfl, same_put sT nM, nM, nMB, upd_same, (upd_ne nMB.symm).trans hBT, ?_, ?_⟩
        · rw [hpt, ep]
          exact dpl_app hus (.cons hyf .nil)
        · rw [List.length_append]
          show us.length + 1 ≤ _
          omega
      have hP : PK k0 = false := by
        rw [e1]
        exact Bool.eq_false_iff.mpr c1
      have hPn : ¬ PK k0 = true := by rw [hP]; exact Bool.false_ne_true
      refine ⟨_, rfl, rfl, _, rfl, ite2 (fun c2 => ?_) (fun c2 => ?_)⟩
      · have hE : k0 = "entries" := by
          have : decide (k0 = "entries") = true := by
            rw [e2]
            rw [← c2]
            exact (dec_str.trans (by rw [Bool.eq_iff_iff]; simp)).symm
          exact of_decide_eq_true this
        subst hE
        obtain ⟨gs, rfl, g8, gall⟩ := tupAll_cases (fld_e hfo)
        cases hyf with
        | @tup ay zs _ hzq hza =>
        have zl := dpl_len hza
        have ep : partsK "entries" (.tuple gs) = gs.map sndD := by
          unfold partsK
          rw [if_neg hPn, if_neg (by decide +kernel), if_pos rfl]
          rfl
        refine ⟨_, rfl, _, rfl, ay, rfl, ⟨zs, same_seqT sT hzq⟩, fun D nD => ?_⟩
        have nMD : M ≠ D := ne_of_none hMT nD
        have nBD : B ≠ D := ne_of_none hBT nD
        refine lc_tup (K := K) (a := ay) (xs := zs) (fun j H' => ∃ acc, Same H6 H' ∧ H' D = some (.lst acc) ∧ DpAll K H acc ((gs.take j).map sndD)) ⟨[], same_new same_id nD, upd_same, .nil⟩ ?_ ?_ ?_
        · rintro j H' _ ⟨acc, s7, _⟩
          exact same_seqT (sT.trans s7) hzq
        · rintro j z H' hz ⟨acc, s7, hD, hacc⟩
          obtain ⟨g0, hg0, hzg⟩ := dpl_get hza hz
          obtain ⟨kx, g', rfl, _, _⟩ := isEnt_cases (List.all_eq_true.mp gall g0 (List.mem_of_getElem? hg0))
          cases hzg with
          | @tup az es _ heq hea =>
          cases hea with
          | @cons e0 es1 _ _ k0' hea1 =>
          cases hea1 with
          | @cons e1v es2 _ _ k1' hea2 =>
          cases hea2
          have lacc := dpl_len hacc
          rw [List.length_map, List.length_take] at lacc
          refine ⟨rfl, _, rfl, az, _, 1, _, rfl, rfl, same_seqT (sT.trans s7) heq, at_nat (n := 1) rfl, acc, hD, small1000 (by omega), acc ++ [e1v], ?_, upd_same, ?_⟩
          · intro b' o ho
            rw [upd_ne (ne_of_none ho nD)]
            exact s7 _ _ ho
          · rw [List.take_add_one, hg0, List.map_append]
            exact dpl_app hacc (.cons k1' .nil)
        · rintro H7 ⟨acc, s7, hD, hacc⟩
          rw [zl, List.take_length] at hacc
          have lacc := dpl_len hacc
          rw [List.length_map] at lacc
          have hM7 := s7 _ _ hMT
          refine ⟨M, D, us, acc, rfl, rfl, hM7, hD, few (by omega), fun R nR => ?_⟩
          have nMR : M ≠ R := ne_of_none hM7 nR
          have hB7 := s7 _ _ hBT
          have s67 : Same H H7 := sT.trans s7
          refine ⟨R, us ++ acc, _, _, rfl, same_new s67 nR, fresh_of s67 nR, (ne_of_none hB7 nR).symm, upd_same, (upd_ne (ne_of_none hB7 nR)).trans hB7, ?_, ?_⟩
          · rw [hpt, ep]
            exact dpl_app hus hacc
          · rw [List.length_append]
            omega
      refine ⟨_, rfl, rfl, _, rfl, ite2 (fun c3 => ?_) (fun c3 => ?_)⟩
      · have hE : k0 = "filters" := by
          have : decide (k0 = "filters") = true := by
            rw [e3]
            rw [← c3]
            exact (dec_str.trans (by rw [Bool.eq_iff_iff]; simp)).symm
          exact of_decide_eq_true this
        subst hE
        obtain ⟨gs, rfl, g8, gall⟩ := tupAll_cases (fld_f hfo)
        cases hyf with
        | @tup ay zs _ hzq hza =>
        have zl := dpl_len hza
        have ep : partsK "filters" (.tuple gs) = gs := by
          unfold partsK
          rw [if_neg hPn, if_pos rfl]
          rfl
        refine ⟨_, rfl, _, rfl, ay, zs, rfl, .inr (same_seqT sT hzq), fun D nD => ?_⟩
        have nMD : M ≠ D := ne_of_none hMT nD
        have nBD : B ≠ D := ne_of_none hBT nD
        have hM7 : (upd H6 D (.lst zs)) M = some (.lst us) := (upd_ne nMD).trans hMT
        have s67 : Same H (upd H6 D (.lst zs)) := same_new sT nD
        have hB7 : (upd H6 D (.lst zs)) B = some (.tup vs) := (upd_ne nBD).trans hBT
        refine ⟨M, D, us, zs, rfl, rfl, hM7, upd_same, few (by omega), fun R nR => ?_⟩
        refine ⟨R, us ++ zs, _, _, rfl, same_new s67 nR, fresh_of s67 nR, (ne_of_none hB7 nR).symm, upd_same, (upd_ne (ne_of_none hB7 nR)).trans hB7, ?_, ?_⟩
        · rw [hpt, ep]
          exact dpl_app hus hza
        · rw [List.length_append]
          omega
      · have n1 : ¬ k0 = "entries" := by
          intro z
          have : decide (k0 = "entries") = true := decide_eq_true z
          rw [e2] at this
          exact c2 ((dec_str.trans (by rw [Bool.eq_iff_iff]; simp)).trans this)
        have n2 : ¬ k0 = "filters" := by
          intro z
          have : decide (k0 = "filters") = true := decide_eq_true z
          rw [e3] at this
          exact c3 ((dec_str.trans (by rw [Bool.eq_iff_iff]; simp)).trans this)
        have ep : partsK k0 f0 = [] := by
          unfold partsK
          rw [if_neg hPn, if_neg n2, if_neg n1]
        refine ⟨M, us, _, _, rfl, sT, nM, nMB, hMT, hBT, ?_, by omega⟩
        rw [hpt, ep, List.append_nil]
        exact hus
    · rintro σ H5 ⟨M, us, a, b, rfl, s5, nM, nMB, hM, hB5, hus, hlen⟩
      rw [show ks.take vs.length = ks by rw [vk, List.take_length], show fs.take vs.length = fs by rw [hvl, List.take_length], ← partsOf_node hk] at hus
      exact ⟨_, rfl, q H5 M us s5 nM hM hus (by omega)⟩
end
end Toy


namespace Toy
open PySem PySem.Spec L2 PyProof.Rows PySem.W
/-- a list beside an empty list -/
theorem op_eqE {X : Cx} (hu : X.A.units + 64 < cLine) : OpR X (compareOp .Eq) (fun x y H Q => ∃ (a b : Addr) (xs : List V), x = .ref a ∧ y = .ref b ∧ H a = some (.lst xs) ∧ H b = some (.lst []) ∧ Q (.bl xs.isEmpty) H) := by
  intro pins s σ H x y v u Q I rx ry h
  obtain ⟨a, b, xs, rfl, rfl, ha, hb, q⟩ := h
  cases rx
  cases ry
  obtain ⟨its, r, pl, _⟩ := I.list (SqL.of ha)
  obtain ⟨its2, r2, pl2, _⟩ := I.list (SqL.of hb)
  cases r2
  have hu' : X.A.units < cLine := by omega
  cases r with
  | nil =>
    exact SeqAt.eq_listAt (e := fun _ => true) pl.isList pl2.isList rfl hu' (fun j h1 _ => by simp at h1) ⟨.bl true, H, I, rfl, q⟩
  | cons r1 rr =>
    exact SeqAt.eq_list_lengthsAt pl.isList pl2.isList (by simp) hu' ⟨.bl false, H, I, rfl, q⟩
/-! ### scopes -/
abbrev NF := Str → Bool
abbrev CF := Str → Option Nat
def addN (N : NF) (x : Str) : NF := fun y => decide (y = x) || N y
def setC (C : CF) (k : Str) (n : Nat) : CF := fun y => if y = k then some n else C y
def setAll (C : CF) (ps : List PyData) : CF := ps.foldl (fun C p => match p with
  | .str k => setC C k 0
  | _ => C) C
def strD : PyData → Str
  | .str x => x
  | _ => Str.empty
def kidsS (t : PyData) (N : NF) (C : CF) : List (PyData × NF × CF) := match t with
  | .tuple (.str w :: fs) =>
    if w = "as" then (match fs with
      | [a, x, b] => [(a, N, C), (b, addN N (strD x), C)]
      | _ => [])
    else if w = "reduce" then (match fs with
      | [a, x, b, c] => [(a, N, C), (b, N, C), (c, addN N (strD x), C)]
      | _ => [])
    else if w = "def" then (match fs with
      | [x, ps, a, b] => [(a, N, setAll (setC C (strD x) (itemsD ps).length) (itemsD ps)), (b, N, setC C (strD x) (itemsD ps).length)]
      | _ => [])
    else (partsOf t).map fun p => (p, N, C)
  | _ => []
def okN (t : PyData) (N : NF) (C : CF) : Bool := match t with
  | .tuple [.str w, x] => if w = "name" then N (strD x) else true
  | .tuple [.str w, x, gs] => if w = "call" then decide (C (strD x) = some (itemsD gs).length) else true
  | _ => true
def bnd : Nat → PyData → NF → CF → Bool
  | 0, _, _, _ => true
  | n + 1, t, N, C => okN t N C && (kidsS t N C).all fun p => bnd n p.1 p.2.1 p.2.2
def BK (kvs : List (Key × V)) (C : CF) : Prop := (kvs.map (·.1)).Nodup ∧ ∀ x, valV kvs (.inr x) = (C x).map fun n => V.int (n : Int)
theorem nodup_put {kvs : List (Key × V)} (h : (kvs.map (·.1)).Nodup) (k : Key) (v : V) : ((putK kvs k v).map (·.1)).Nodup := by
  unfold putK
  split
  · have : (kvs.map fun kv => if kv.1 = k then (kv.1, v) else kv).map (·.1) = kvs.map (·.1) := by
      rw [List.map_map]
      refine List.map_congr_left fun p _ => ?_
      simp only [Function.comp_apply]
      split <;> rfl
    rw [this]
    exact h
  · rename_i c
    rw [List.map_append, List.nodup_append]
    refine ⟨h, by simp, ?_⟩
    intro a ha b hb e
    simp only [List.map_cons, List.map_nil, List.mem_singleton] at hb
    subst hb
    subst e
    obtain ⟨p, hp, e⟩ := List.mem_map.mp ha
    exact c (List.any_eq_true.mpr ⟨p, hp, decide_eq_true e⟩)
theorem BK.put {kvs : List (Key × V)} {C : CF} (h : BK kvs C) (k : Str) (n : Nat) : BK (putK kvs (.inr k) (.int (n : Int))) (setC C k n) := by
  refine ⟨nodup_put h.1 _ _, fun x => ?_⟩
  rw [valV_put, h.2]
  unfold setC
  by_cases e : x = k
  · subst e
    simp
  · have e' : ¬ ((Sum.inr x : Key) = Sum.inr k) := fun z => e (Sum.inr.inj z)
    rw [if_neg e', if_neg e]
theorem mergeK_snoc (m more : List (Key × V)) (p : Key × V) : mergeK m (more ++ [p]) = putK (mergeK m more) p.1 p.2 := by
  unfold mergeK
  rw [List.foldl_append]
  rfl
theorem BK.self {kvs : List (Key × V)} {C : CF} (h : BK kvs C) : mergeK [] kvs = kvs := by
  have := merge_new kvs [] (by simpa using h.1)
  simpa using this
theorem BK.one {kvs : List (Key × V)} {C : CF} (h : BK kvs C) (k : Str) (n : Nat) : BK (mergeK [] (kvs ++ [(.inr k, .int (n : Int))])) (setC C k n) := by
  rw [mergeK_snoc, h.self]
  exact h.put k n
def zeros (ps : List PyData) : List (Key × V) := ps.map fun p => (.inr (strD p), .int 0)
theorem BK.many : ∀ {ps : List PyData} {kvs : List (Key × V)} {C : CF}, BK kvs C → (∀ p ∈ ps, isStrD p = true) → BK (mergeK kvs (zeros ps)) (setAll C ps)
  | [], _, _, h, _ => h
  | p :: ps, kvs, C, h, hp => by
    have h1 := hp p List.mem_cons_self
    cases p with
    | str k =>
      show BK (mergeK (putK kvs (.inr k) (.int ((0 : Nat) : Int))) (zeros ps)) (setAll (setC C k 0) ps)
      exact BK.many (h.put k 0) fun x hx => hp x (List.mem_cons_of_mem _ hx)
    | _ => simp [isStrD] at h1
theorem mergeK_app (m a b : List (Key × V)) : mergeK m (a ++ b) = mergeK (mergeK m a) b := by
  unfold mergeK
  rw [List.foldl_append]
theorem BK.more {ps : List PyData} {kvs : List (Key × V)} {C : CF} (h : BK kvs C) (hp : ∀ p ∈ ps, isStrD p = true) : BK (mergeK [] (kvs ++ zeros ps)) (setAll C ps) := by
  rw [mergeK_app, h.self]
  exact h.many hp
end Toy


namespace Toy
open PySem PySem.Spec L2 PyProof.Rows PySem.W
theorem ss1 : ¬ (("name" : Str) = "as") := by decide +kernel
theorem ss2 : ¬ (("name" : Str) = "reduce") := by decide +kernel
theorem ss3 : ¬ (("name" : Str) = "def") := by decide +kernel
theorem ss4 : ¬ (("call" : Str) = "as") := by decide +kernel
theorem ss5 : ¬ (("call" : Str) = "reduce") := by decide +kernel
theorem ss6 : ¬ (("call" : Str) = "def") := by decide +kernel
theorem ss7 : ¬ (("reduce" : Str) = "as") := by decide +kernel
theorem ss8 : ¬ (("def" : Str) = "as") := by decide +kernel
theorem ss9 : ¬ (("def" : Str) = "reduce") := by decide +kernel
theorem pk_free : PK "free" = false := by decide +kernel
theorem pk_filters : PK "filters" = false := by decide +kernel
theorem parts_name (x : PyData) : partsOf (.tuple [.str "name", x]) = [] := by
  rw [partsOf_node fo_name]
  simp only [partsF, partsK, pk_free, Bool.false_eq_true, if_false]
  rw [if_neg (by decide +kernel), if_neg (by decide +kernel)]
  rfl
theorem parts_call (x : PyData) (gs : List PyData) : partsOf (.tuple [.str "call", x, .tuple gs]) = gs := by
  rw [partsOf_node fo_call]
  simp only [partsF, partsK, pk_free, pk_filters, Bool.false_eq_true, if_false]
  rw [if_neg (by decide +kernel), if_neg (by decide +kernel), if_pos True.intro]
  simp [itemsD]
theorem bnd_name (n : Nat) (x : Str) (N : NF) (C : CF) : bnd (n + 1) (.tuple [.str "name", .str x]) N C = N x := by
  have e1 : okN (.tuple [.str "name", .str x]) N C = N x := by
    simp only [okN, if_true, strD]
  have e2 : kidsS (.tuple [.str "name", .str x]) N C = [] := by
    unfold kidsS
    dsimp only
    rw [if_neg ss1, if_neg ss2, if_neg ss3, parts_name]
    rfl
  rw [bnd, e1, e2]
  simp
theorem bnd_call (n : Nat) (x : Str) (gs : List PyData) (N : NF) (C : CF) : bnd (n + 1) (.tuple [.str "call", .str x, .tuple gs]) N C = (decide (C x = some gs.length) && gs.all fun g => bnd n g N C) := by
  have e1 : okN (.tuple [.str "call", .str x, .tuple gs]) N C = decide (C x = some gs.length) := by
    simp only [okN, if_true, strD, itemsD]
    exact decide_eq_decide.mpr Iff.rfl
  have e2 : kidsS (.tuple [.str "call", .str x, .tuple gs]) N C = gs.map fun p => (p, N, C) := by
    unfold kidsS
    dsimp only
    rw [if_neg ss4, if_neg ss5, if_neg ss6, parts_call]
  rw [bnd, e1, e2, List.all_map]
  rfl
theorem bnd_as (n : Nat) (a b : PyData) (x : Str) (N : NF) (C : CF) : bnd (n + 1) (.tuple [.str "as", a, .str x, b]) N C = (bnd n a N C && bnd n b (addN N x) C) := by
  have e2 : kidsS (.tuple [.str "as", a, .str x, b]) N C = [(a, N, C), (b, addN N x, C)] := by
    unfold kidsS
    dsimp only
    rw [if_pos rfl]
    rfl
  rw [bnd, e2]
  simp [okN]
theorem bnd_reduce (n : Nat) (a b c : PyData) (x : Str) (N : NF) (C : CF) : bnd (n + 1) (.tuple [.str "reduce", a, .str x, b, c]) N C = (bnd n a N C && (bnd n b N C && bnd n c (addN N x) C)) := by
  have e2 : kidsS (.tuple [.str "reduce", a, .str x, b, c]) N C = [(a, N, C), (b, N, C), (c, addN N x, C)] := by
    unfold kidsS
    dsimp only
    rw [if_neg ss7, if_pos rfl]
    rfl
  rw [bnd, e2]
  simp [okN]
theorem bnd_def (n : Nat) (a b : PyData) (x : Str) (ps : List PyData) (N : NF) (C : CF) : bnd (n + 1) (.tuple [.str "def", .str x, .tuple ps, a, b]) N C = (bnd n a N (setAll (setC C x ps.length) ps) && bnd n b N (setC C x ps.length)) := by
  have e2 : kidsS (.tuple [.str "def", .str x, .tuple ps, a, b]) N C = [(a, N, setAll (setC C x ps.length) ps), (b, N, setC C x ps.length)] := by
    unfold kidsS
    dsimp only
    rw [if_neg ss8, if_neg ss9, if_pos rfl]
    rfl
  rw [bnd, e2]
  simp [okN]
theorem okN_else {w : Str} {fs : List PyData} (h1 : ¬ w = "name") (h2 : ¬ w = "call") (N : NF) (C : CF) : okN (.tuple (.str w :: fs)) N C = true := by
  unfold okN
  split
  · rename_i h
    cases h
    rw [if_neg h1]
  · rename_i h
    cases h
    rw [if_neg h2]
  · rfl
theorem kidsS_else {w : Str} {fs : List PyData} (h3 : ¬ w = "as") (h4 : ¬ w = "reduce") (h5 : ¬ w = "def") (N : NF) (C : CF) : kidsS (.tuple (.str w :: fs)) N C = (partsOf (.tuple (.str w :: fs))).map fun p => (p, N, C) := by
  unfold kidsS
  dsimp only
  rw [if_neg h3, if_neg h4, if_neg h5]
theorem bnd_else (n : Nat) {w : Str} {fs : List PyData} (h1 : ¬ w = "name") (h2 : ¬ w = "call") (h3 : ¬ w = "as") (h4 : ¬ w = "reduce") (h5 : ¬ w = "def") (N : NF) (C : CF) :
    bnd (n + 1) (.tuple (.str w :: fs)) N C = (partsOf (.tuple (.str w :: fs))).all fun g => bnd n g N C := by
  rw [bnd, okN_else h1 h2, kidsS_else h3 h4 h5, List.all_map, Bool.true_and]
  rfl
/-- parts are right, one level below -/
theorem parts_wf {n : Nat} {t : PyData} (h : wf (n + 1) t = true) : ∀ p ∈ partsOf t, wf n p = true := by
  obtain ⟨w, fs, ks, rfl, hk, hf⟩ := wf_cases h
  rw [partsOf_node hk]
  clear h hk
  induction ks generalizing fs with
  | nil => intro p hp; simp [partsF] at hp
  | cons k ks ih =>
    cases fs with
    | nil => intro p hp; simp [partsF] at hp
    | cons f fs =>
      simp only [flds, Bool.and_eq_true] at hf
      intro p hp
      rw [partsF, List.mem_append] at hp
      rcases hp with hp | hp
      · have h0 := hf.1
        unfold partsK at hp
        split at hp
        · rename_i c
          rw [List.mem_singleton] at hp
          subst hp
          unfold fldOk at h0
          rw [if_pos c] at h0
          exact h0
        · split at hp
          · rename_i c1 c2
            subst c2
            obtain ⟨gs, rfl, _, g⟩ := tupAll_cases (fld_f h0)
            exact List.all_eq_true.mp g p hp
          · split at hp
            · rename_i c1 c2 c3
              subst c3
              obtain ⟨gs, rfl, _, g⟩ := tupAll_cases (fld_e h0)
              obtain ⟨e, he, rfl⟩ := List.mem_map.mp hp
              obtain ⟨x, g', rfl, _, hg⟩ := isEnt_cases (List.all_eq_true.mp g e he)
              exact hg
            · simp at hp
      · exact ih fs hf.2 p hp
end Toy


namespace Toy
open PySem PySem.Spec L2 PyProof.Rows PySem.W
abbrev sBound : Stmt := top 52
abbrev NB : List Str := ["_law_term", "_law_names", "_law_calls", "_law_word", "_law_inner", "_law_body", "_law_part", "_law_one"]
theorem scBo : FnScope NB ["_law_term", "_law_names", "_law_calls"] (defScope sBound) := ⟨rfl, rfl, rfl, by decide +kernel, rfl, by decide +kernel, by decide +kernel⟩
def spBo (K : PySem.W.Frag) (j : Nat) : Sp := fun vs H Q _ => ∃ (v : V) (m : Nat) (t : PyData) (a b : Addr) (names : List Str) (kvs : List (Key × V)) (C : CF), m < j ∧ vs = [v, .ref a, .ref b] ∧ Dp K H v t ∧ wf m t = true ∧
  H a = some (.lst (names.map V.str)) ∧ H b = some (.dK kvs) ∧ BK kvs C ∧ names.length + 20 * m ≤ 1000 ∧ kvs.length + 20 * m ≤ 1000 ∧ ∀ H', Same H H' → Q (.bl (bnd m t (fun x => decide (x ∈ names)) C)) H'
theorem paired_app {α β : Type} {F : α → β → Prop} : ∀ {xs : List α} {ys : List β} {us : List α} {vs : List β}, Paired F xs ys → Paired F us vs → Paired F (xs ++ us) (ys ++ vs)
  | _, _, _, _, .nil, r => r
  | _, _, _, _, .cons a b, r => .cons a (paired_app b r)
theorem inV_strs (x : Str) : ∀ ks : List Str, inV (.str x) (ks.map V.str) = decide (x ∈ ks)
  | [] => by simp [inV]
  | k :: ks => by
    have ih := inV_strs x ks
    unfold inV at ih ⊢
    rw [List.map_cons, List.any_cons, ih]
    show ((k == x) || decide (x ∈ ks)) = _
    rw [Bool.eq_iff_iff, Bool.or_eq_true, beq_iff_eq, decide_eq_true_iff, decide_eq_true_iff, List.mem_cons]
    exact ⟨fun h => h.imp Eq.symm id, fun h => h.imp Eq.symm id⟩
theorem flat_strs (ks : List Str) : (ks.map V.str).all flatV = true := by
  rw [List.all_eq_true]
  intro v hv
  obtain ⟨k, _, rfl⟩ := List.mem_map.mp hv
  rfl
theorem addN_list (names : List Str) (x : Str) : (fun y => decide (y ∈ names ++ [x])) = addN (fun y => decide (y ∈ names)) x := by
  funext y
  unfold addN
  rw [Bool.eq_iff_iff]
  simp [or_comm]
theorem fld_s {p : PyData → Bool} {f : PyData} (k : Str) (hk : k = "key" ∨ k = "free" ∨ k = "sort") (h : fldOk p k f = true) : ∃ x, f = .str x ∧ okK x = true := by
  have z : isStrD f = true := by
    rcases hk with rfl | rfl | rfl
    all_goals
      rw [fldOk, if_neg (by decide +kernel), if_neg (by decide +kernel), if_neg (by decide +kernel), if_neg (by decide +kernel), if_neg (by decide +kernel), if_neg (by decide +kernel)] at h
      exact h
  cases f with
  | str x => exact ⟨x, rfl, z⟩
  | _ => simp [isStrD] at z
theorem fld_p {p : PyData → Bool} {k : Str} {f : PyData} (hk : PK k = true) (h : fldOk p k f = true) : p f = true := by
  unfold fldOk at h
  rw [if_pos hk] at h
  exact h
theorem fld_ps {p : PyData → Bool} {f : PyData} (h : fldOk p "parameters" f = true) : tupAll isStrD f = true := by
  rw [fldOk, if_neg (by decide +kernel), if_neg (by decide +kernel), if_neg (by decide +kernel), if_pos rfl] at h
  exact h
theorem name_cases {n : Nat} {fs : List PyData} {ks : List Str} (hk : formOf "name" = some ks) (h : flds (wf n) ks fs = true) : ∃ x, fs = [.str x] := by
  rw [fo_name] at hk
  cases hk
  match fs, h with
  | [a], h =>
    simp only [flds, Bool.and_eq_true, Bool.and_true] at h
    obtain ⟨x, rfl, _⟩ := fld_s _ (.inr (.inl rfl)) h
    exact ⟨x, rfl⟩
  | [], h => cases h
  | _ :: _ :: _, h => simp [flds] at h
theorem call_cases {n : Nat} {fs : List PyData} {ks : List Str} (hk : formOf "call" = some ks) (h : flds (wf n) ks fs = true) : ∃ x gs, fs = [.str x, .tuple gs] ∧ gs.length ≤ 8 ∧ gs.all (wf n) = true := by
  rw [fo_call] at hk
  cases hk
  match fs, h with
  | [a, b], h =>
    simp only [flds, Bool.and_eq_true, Bool.and_true] at h
    obtain ⟨x, rfl, _⟩ := fld_s _ (.inr (.inl rfl)) h.1
    obtain ⟨gs, rfl, g8, gall⟩ := tupAll_cases (fld_f h.2)
    exact ⟨x, gs, rfl, g8, gall⟩
  | [], h => cases h
  | [_], h => simp [flds] at h
  | _ :: _ :: _ :: _, h => simp [flds] at h
theorem as_cases {n : Nat} {fs : List PyData} {ks : List Str} (hk : formOf "as" = some ks) (h : flds (wf n) ks fs = true) : ∃ a x b, fs = [a, .str x, b] ∧ wf n a = true ∧ wf n b = true := by
  rw [fo_as] at hk
  cases hk
  match fs, h with
  | [a, c, b], h =>
    simp only [flds, Bool.and_eq_true, Bool.and_true] at h
    obtain ⟨x, rfl, _⟩ := fld_s _ (.inr (.inl rfl)) h.2.1
    exact ⟨a, x, b, rfl, fld_p pk_f h.1, fld_p pk_f h.2.2⟩
  | [], h => cases h
  | [_], h => simp [flds] at h
  | [_, _], h => simp [flds] at h
  | _ :: _ :: _ :: _ :: _, h => simp [flds] at h
theorem reduce_cases {n : Nat} {fs : List PyData} {ks : List Str} (hk : formOf "reduce" = some ks) (h : flds (wf n) ks fs = true) : ∃ a x b c, fs = [a, .str x, b, c] ∧ wf n a = true ∧ wf n b = true ∧ wf n c = true := by
  rw [fo_reduce] at hk
  cases hk
  match fs, h with
  | [a, d, b, c], h =>
    simp only [flds, Bool.and_eq_true, Bool.and_true] at h
    obtain ⟨x, rfl, _⟩ := fld_s _ (.inr (.inl rfl)) h.2.1
    exact ⟨a, x, b, c, rfl, fld_p pk_f h.1, fld_p pk_f h.2.2.1, fld_p pk_f h.2.2.2⟩
  | [], h => cases h
  | [_], h => simp [flds] at h
  | [_, _], h => simp [flds] at h
  | [_, _, _], h => simp [flds] at h
  | _ :: _ :: _ :: _ :: _ :: _, h => simp [flds] at h
theorem def_cases {n : Nat} {fs : List PyData} {ks : List Str} (hk : formOf "def" = some ks) (h : flds (wf n) ks fs = true) : ∃ x ps a b, fs = [.str x, .tuple ps, a, b] ∧ ps.length ≤ 8 ∧ ps.all isStrD = true ∧ wf n a = true ∧ wf n b = true := by
  rw [fo_def] at hk
  cases hk
  match fs, h with
  | [d, e, a, b], h =>
    simp only [flds, Bool.and_eq_true, Bool.and_true] at h
    obtain ⟨x, rfl, _⟩ := fld_s _ (.inr (.inl rfl)) h.1
    obtain ⟨ps, rfl, g8, gall⟩ := tupAll_cases (fld_ps h.2.1)
    exact ⟨x, ps, a, b, rfl, g8, gall, fld_p pk_f h.2.2.1, fld_p pk_f h.2.2.2⟩
  | [], h => cases h
  | [_], h => simp [flds] at h
  | [_, _], h => simp [flds] at h
  | [_, _, _], h => simp [flds] at h
  | _ :: _ :: _ :: _ :: _ :: _, h => simp [flds] at h
section
variable {P : Program} {w : World} {K : PySem.W.Frag} {mg : Str → Option Value} {base : Heap}
abbrev PB : List Str := ["_law_term", "_law_names", "_law_calls"]
theorem ok_bo1 {j : Nat} {f fP : Addr} {fd fdP : FuncData} (F : Fun K "_law_is_bound" "_law_is_bound" sBound f fd)
    (GP : FnOk P w K mg base CX0 2 fP fdP ["_law_term"] (spParts K)) (mP : mg "_law_parts" = some (.ref fP)) (kP : PySem.W.keepIn K (.ref fP) = true) (bP : Binds K fdP ["_law_term"] [])
    (mLen : mg "len" = none) (mLi : mg "list" = none) (mDi : mg "dict" = none) (mF : mg "_law_is_bound" = some (.ref f)) (kF : PySem.W.keepIn K (.ref f) = true) (bF : Binds K fd PB [])
    (ih : FnOk P w K mg base CX0 (j + 3) f fd PB (spBo K j)) : FnOk P w K mg base CX0 (j + 4) f fd PB (spBo K (j + 1)) := by
  refine F.ok (k := j + 3) scBo (fun vs H Q E h => ?_) (fun cdv A outer s H vs Q E hr h => ?_)
  · obtain ⟨v, m, t, a, b, names, kvs, C, _, rfl, _⟩ := h
    rfl
  · obtain ⟨v, m, t, a, b, names, kvs, C, hm, rfl, hv, hw, ha, hb, hk, hz1, hz2, q⟩ := h
    have hu := hu_of hr
    have hr2 : Room 2 _ := hr.mono (show 2 ≤ j + 3 by omega)
    refine ⟨_, pss_cons (ps_set (i := 3) scBo.nd rfl (Or.inl rfl) (pe_ix ix_tup (pv 0) pe_int (fun _ _ => rfl)))
      (pss_cons (ps_if (pt_cmpR op_eq (pv 3) pe_str (nomark _)) (pss_one (ps_ret (pe_cmpR op_in_seq (pe_ix ix_tup (pv 0) pe_int (fun _ _ => rfl)) (pv 1) (by rfl)))) pss_nil)
      (pss_cons (ps_if (pt_cmpR op_eq (pv 3) pe_str (nomark _))
        (pss_cons (ps_if (PW.pt (pw_or (pt_cmp (pc_dnotin hu (pe_ix ix_tup (pv 0) pe_int (fun _ _ => rfl)) (pv 2)) rfl) (pw_or1 (pt_cmpR op_ne (pe_dget hu (pv 2) (pe_ix ix_tup (pv 0) pe_int (fun _ _ => rfl)) (fun _ _ => rfl)) (pe_callB call_len_seq (by rfl) mLen PySem.boot_len (pa_cons (pe_ix ix_tup (pv 0) pe_int (fun _ _ => rfl)) pa_nil)) (nomark _))))) (pss_one (ps_ret pe_bl)) pss_nil)
        (pss_one (ps_ret (pe_cmpR (op_eqE hr.units) (pe_lc (own := [("_law_part", 6)]) (g := gName 6) (te := tVar 6) (tt := tNot (tB (tCall (spBo K j) [] E0 (tCons (tVar 6) (tCons (tVar 1) (tCons (tVar 2) tNil)))))) (by rfl) scBo.nd (pi_tup (pe_ix ix_tup (pv 0) pe_int (fun _ _ => rfl)))
          (blkOk_by (own := [("_law_part", 6)]) (N := NB) (sc := defScope sBound) (by decide +kernel)) (fun _ _ _ _ _ => pg_name (i := 6) scBo.nd rfl (Or.inl rfl))
          (fun _ _ _ _ _ => (pts_one (pt_not (pt_val (pe_call ih hr (by rfl) mF kF bF .nil pass0 (pa_cons (pv 6) (pa_cons (pv 1) (pa_cons (pv 2) pa_nil)))))))) (fun _ _ _ _ _ => pv 6)) (pe_lst pa_nil) (nomark _))))) pss_nil)
      (pss_cons (ps_if (pt_cmpR op_eq (pv 3) pe_str (nomark _))
        (pss_one (ps_ret (pe_and (pe_call ih hr (by rfl) mF kF bF .nil pass0 (pa_cons (pe_ix ix_tup (pv 0) pe_int (fun _ _ => rfl)) (pa_cons (pv 1) (pa_cons (pv 2) pa_nil))))
          (pe_one (pe_call ih hr (by rfl) mF kF bF .nil pass0 (pa_cons (pe_ix ix_tup (pv 0) pe_int (fun _ _ => rfl)) (pa_cons (pe_op op_cat (pv 1) (pe_lst (pa_cons (pe_ix ix_tup (pv 0) pe_int (fun _ _ => rfl)) pa_nil))) (pa_cons (pv 2) pa_nil)))))))) pss_nil)
      (pss_cons (ps_if (pt_cmpR op_eq (pv 3) pe_str (nomark _))
        (pss_cons (ps_if (PW.pt (pw_or (pt_not (pt_val (pe_call ih hr (by rfl) mF kF bF .nil pass0 (pa_cons (pe_ix ix_tup (pv 0) pe_int (fun _ _ => rfl)) (pa_cons (pv 1) (pa_cons (pv 2) pa_nil))))))
            (pw_or1 (pt_not (pt_val (pe_call ih hr (by rfl) mF kF bF .nil pass0 (pa_cons (pe_ix ix_tup (pv 0) pe_int (fun _ _ => rfl)) (pa_cons (pv 1) (pa_cons (pv 2) pa_nil))))))))) (pss_one (ps_ret pe_bl)) pss_nil)
        (pss_one (ps_ret (pe_call ih hr (by rfl) mF kF bF .nil pass0 (pa_cons (pe_ix ix_tup (pv 0) pe_int (fun _ _ => rfl)) (pa_cons (pe_op op_cat (pv 1) (pe_lst (pa_cons (pe_ix ix_tup (pv 0) pe_int (fun _ _ => rfl)) pa_nil))) (pa_cons (pv 2) pa_nil))))))) pss_nil)
      (pss_cons (ps_if (pt_cmpR op_eq (pv 3) pe_str (nomark _))
        (pss_cons (ps_set (i := 4) scBo.nd rfl (Or.inl rfl) (pe_callTy (call_dictP rfl) (by rfl) mDi (by decide +kernel) (pa_cons (pe_op op_cat (LiI.pe_listItems rfl (pv 2) (by rfl) mLi (by decide +kernel)) (pe_lst (pa_cons (pe_tup (pa_cons (pe_ix ix_tup (pv 0) pe_int (fun _ _ => rfl)) (pa_cons (pe_callB call_len_seq (by rfl) mLen PySem.boot_len (pa_cons (pe_ix ix_tup (pv 0) pe_int (fun _ _ => rfl)) pa_nil)) pa_nil))) pa_nil))) pa_nil)))
        (pss_cons (ps_set (i := 5) scBo.nd rfl (Or.inl rfl) (pe_callTy (call_dictP rfl) (by rfl) mDi (by decide +kernel) (pa_cons (pe_op op_cat (LiI.pe_listItems rfl (pv 4) (by rfl) mLi (by decide +kernel))
          (pe_lc (own := [("_law_one", 7)]) (g := gName 7) (te := tTup (tCons (tVar 7) (tCons (tC (.int 0)) tNil))) (by rfl) scBo.nd (pi_tup (pe_ix ix_tup (pv 0) pe_int (fun _ _ => rfl)))
            (blkOk_by (own := [("_law_one", 7)]) (N := NB) (sc := defScope sBound) (by decide +kernel)) (fun _ _ _ _ _ => pg_name (i := 7) scBo.nd rfl (Or.inl rfl)) (fun _ _ _ _ _ => pts_nil) (fun _ _ _ _ _ => pe_tup (pa_cons (pv 7) (pa_cons pe_int pa_nil))))) pa_nil)))
        (pss_one (ps_ret (pe_and (pe_call ih hr (by rfl) mF kF bF .nil pass0 (pa_cons (pe_ix ix_tup (pv 0) pe_int (fun _ _ => rfl)) (pa_cons (pv 1) (pa_cons (pv 5) pa_nil))))
          (pe_one (pe_call ih hr (by rfl) mF kF bF .nil pass0 (pa_cons (pe_ix ix_tup (pv 0) pe_int (fun _ _ => rfl)) (pa_cons (pv 1) (pa_cons (pv 4) pa_nil)))))))))) pss_nil)
      (pss_one (ps_ret (pe_cmpR (op_eqE hr.units) (pe_lc (own := [("_law_part", 6)]) (g := gName 6) (te := tVar 6) (tt := tNot (tB (tCall (spBo K j) [] E0 (tCons (tVar 6) (tCons (tVar 1) (tCons (tVar 2) tNil)))))) (by rfl) scBo.nd (pi_list (pe_call GP hr2 (by rfl) mP kP bP .nil pass0 (pa_cons (pv 0) pa_nil)))
          (blkOk_by (own := [("_law_part", 6)]) (N := NB) (sc := defScope sBound) (by decide +kernel)) (fun _ _ _ _ _ => pg_name (i := 6) scBo.nd rfl (Or.inl rfl))
          (fun _ _ _ _ _ => (pts_one (pt_not (pt_val (pe_call ih hr (by rfl) mF kF bF .nil pass0 (pa_cons (pv 6) (pa_cons (pv 1) (pa_cons (pv 2) pa_nil)))))))) (fun _ _ _ _ _ => pv 6)) (pe_lst pa_nil) (nomark _))))))))), ?_⟩
    cases m with
    | zero => cases hw
    | succ m =>
    obtain ⟨wd, fs, ks, rfl, hkk, hf⟩ := wf_cases hw
    cases hv with
    | @tup av xs _ hseq hall =>
    cases hall with
    | @cons v0 vs d0 ds h0 hvs =>
    cases h0
    have hmj : m < j := by omega
    refine ⟨_, rfl, av, _, 0, _, rfl, rfl, hseq, at_0 _ _, ?_⟩
    refine ⟨_, rfl, rfl, _, rfl, ite2 (fun c => ?_) (fun c => ?_)⟩
    · have e : wd = "name" := by have := of_decide_eq_true c; exact V.str.inj this
      subst e
      obtain ⟨x, rfl⟩ := name_cases hkk hf
      cases hvs with
      | @cons v1 vs1 _ _ h1 hn =>
      cases hn
      cases h1
      refine ⟨_, rfl, av, _, 1, _, rfl, rfl, hseq, at_nat (n := 1) rfl, _, rfl, a, _, rfl, .inl (SqL.of ha), rfl, flat_strs names, ?_⟩
      have z := q H same_id
      rw [bnd_name] at z
      have e : inV (V.str x) (names.map V.str) = decide (x ∈ names) := inV_strs x names
      show Q (.bl (inV (V.str x) (names.map V.str))) H
      rw [e]
      exact z
    have n1 : ¬ wd = "name" := fun e => c (by rw [e]; exact decide_eq_true rfl)
    refine ⟨_, rfl, rfl, _, rfl, ite2 (fun c2 => ?_) (fun c2 => ?_)⟩
    · have e : wd = "call" := by have := of_decide_eq_true c2; exact V.str.inj this
      subst e
      obtain ⟨x, gs, rfl, g8, gall⟩ := call_cases hkk hf
      cases hvs with
      | @cons v1 vs1 _ _ h1 hn =>
      cases hn with
      | @cons v2 vs2 _ _ h2 hn2 =>
      cases hn2
      cases h1
      cases h2 with
      | @tup ag us _ hsg hag =>
      have lus := dpl_len hag
      have hq := q
      rw [bnd_call] at hq
      refine ⟨_, rfl, av, _, 1, _, rfl, rfl, hseq, at_nat (n := 1) rfl, _, rfl, b, _, rfl, DGet.k (k := .inr x) hb, _, rfl, ?_⟩
      rw [hk.2 x]
      cases hC : C x with
      | none =>
        rw [hC, decide_eq_false (by simp), Bool.false_and] at hq
        exact iteT (iteT (hq H same_id))
      | some n0 =>
        have hget : DGet H b (.str x) (some (.int (n0 : Int))) := by
          have z := DGet.k (k := .inr x) hb
          rw [hk.2 x, hC] at z
          exact z
        refine iteF ⟨_, rfl, _, rfl, av, _, 1, _, rfl, rfl, hseq, at_nat (n := 1) rfl, b, _, rfl, hget, _, rfl, av, _, 2, _, rfl, rfl, hseq, at_nat (n := 2) rfl, ag, us, rfl, .inr hsg, rfl, _, rfl, ite2 (fun c3 => ?_) (fun c3 => ?_)⟩
        · have ne : ¬ n0 = gs.length := by
            intro e
            rw [Bool.not_eq_true'] at c3
            exact of_decide_eq_false c3 (by rw [e, lus])
          rw [hC, decide_eq_false (fun e => ne (Option.some.inj e)), Bool.false_and] at hq
          exact hq H same_id
        have en : n0 = gs.length := by
          rw [Bool.not_eq_true, Bool.not_eq_false'] at c3
          have := of_decide_eq_true c3
          have := V.int.inj this
          omega
        rw [hC, decide_eq_true (by rw [en]), Bool.true_and] at hq
        refine ⟨_, rfl, av, _, 2, _, rfl, rfl, hseq, at_nat (n := 2) rfl, ag, rfl, ⟨us, hsg⟩, fun D nD => ?_⟩
        refine lc_tup (K := K) (a := ag) (xs := us) (fun i H' => ∃ acc, Same H H' ∧ H' D = some (.lst acc) ∧ acc.length ≤ i ∧ acc.isEmpty = (gs.take i).all fun g => bnd m g (fun x => decide (x ∈ names)) C) ⟨[], same_new same_id nD, upd_same, Nat.le_refl _, rfl⟩ ?_ ?_ ?_
        · rintro i H' _ ⟨acc, s5, _⟩
          exact same_seqT s5 hsg
        · rintro i u H' hi ⟨acc, s5, hD, la, hacc⟩
          obtain ⟨g, hg, hug⟩ := dpl_get hag hi
          have il : i < us.length := by
            rcases Nat.lt_or_ge i us.length with z | z
            · exact z
            · rw [List.getElem?_eq_none z] at hi
              cases hi
          refine ⟨rfl, _, rfl, _, rfl, _, rfl, u, m, g, a, b, names, kvs, C, hmj, rfl, dpM s5 hug, List.all_eq_true.mp gall g (List.mem_of_getElem? hg), s5 _ _ ha, s5 _ _ hb, hk, by omega, by omega, fun H2 s2 => ⟨_, rfl, ?_⟩⟩
          have et : (gs.take (i + 1)).all (fun g => bnd m g (fun x => decide (x ∈ names)) C) = ((gs.take i).all (fun g => bnd m g (fun x => decide (x ∈ names)) C) && bnd m g (fun x => decide (x ∈ names)) C) := by
            rw [List.take_add_one, hg, List.all_append]
            simp
          refine ite2 (fun c4 => ?_) (fun c4 => ?_)
          · refine ⟨_, rfl, acc, s2 _ _ hD, small1000 (by omega), acc ++ [u], ?_, upd_same, ?_, ?_⟩
            · intro b' o ho
              rw [upd_ne (ne_of_none ho nD)]
              exact s2 _ _ (s5 _ _ ho)
            · rw [List.length_append]
              show acc.length + 1 ≤ _
              omega
            · rw [et]
              rw [Bool.not_eq_true'] at c4
              rw [c4, Bool.and_false]
              cases acc <;> rfl
          · refine ⟨acc, s5.trans s2, s2 _ _ hD, by omega, ?_⟩
            rw [et]
            rw [Bool.not_eq_true, Bool.not_eq_false'] at c4
            rw [c4, Bool.and_true]
            exact hacc
        · rintro H2 ⟨acc, s5, hD, la, hacc⟩
          rw [lus, List.take_length] at hacc
          refine ⟨few (by show 0 ≤ 1000; decide), fun T nT => ⟨D, T, acc, rfl, rfl, (upd_ne (ne_of_none hD nT)).trans hD, upd_same, ?_⟩⟩
          rw [hacc]
          exact hq _ (same_new s5 nT)
    have n2 : ¬ wd = "call" := fun e => c2 (by rw [e]; exact decide_eq_true rfl)
    refine ⟨_, rfl, rfl, _, rfl, ite2 (fun c3 => ?_) (fun c3 => ?_)⟩
    · have e : wd = "as" := by have := of_decide_eq_true c3; exact V.str.inj this
      subst e
      obtain ⟨g1, x, g2, rfl, w1, w2⟩ := as_cases hkk hf
      cases hvs with
      | @cons v1 vs1 _ _ h1 hn =>
      cases hn with
      | @cons v2 vs2 _ _ h2 hn2 =>
      cases hn2 with
      | @cons v3 vs3 _ _ h3 hn3 =>
      cases hn3
      cases h2
      have hq := q
      rw [bnd_as] at hq
      refine ⟨_, rfl, av, _, 1, _, rfl, rfl, hseq, at_nat (n := 1) rfl, _, rfl, _, rfl, v1, m, g1, a, b, names, kvs, C, hmj, rfl, h1, w1, ha, hb, hk, by omega, by omega, fun H1 s1 => ⟨_, rfl, ite2 (fun c4 => ?_) (fun c4 => ?_)⟩⟩
      · rw [c4, Bool.true_and] at hq
        have seq1 := same_seqT s1 hseq
        refine ⟨_, rfl, av, _, 3, _, rfl, rfl, seq1, at_nat (n := 3) rfl, _, rfl, _, rfl, av, _, 2, _, rfl, rfl, seq1, at_nat (n := 2) rfl, few (by show 1 ≤ 1000; decide), fun L nL => ?_⟩
        refine ⟨a, L, names.map V.str, [.str x], rfl, rfl, (upd_ne (ne_of_none (s1 _ _ ha) nL)).trans (s1 _ _ ha), upd_same, few (by rw [List.length_map, List.length_singleton]; omega), fun R nR => ?_⟩
        have s5 : Same H (upd (upd H1 L (.lst [.str x])) R (.lst (names.map V.str ++ [.str x]))) := same_new (same_new s1 nL) nR
        refine ⟨_, rfl, v3, m, g2, R, b, names ++ [x], kvs, C, hmj, rfl, dpM s5 h3, w2, by rw [upd_same, List.map_append]; rfl, s5 _ _ hb, hk, by rw [List.length_append, List.length_singleton]; omega, by omega, fun H6 s6 => ?_⟩
        rw [addN_list]
        exact hq _ (s5.trans s6)
      · rw [Bool.eq_false_iff.mpr c4, Bool.false_and] at hq
        exact hq _ s1
    have n3 : ¬ wd = "as" := fun e => c3 (by rw [e]; exact decide_eq_true rfl)
    refine ⟨_, rfl, rfl, _, rfl, ite2 (fun c5 => ?_) (fun c5 => ?_)⟩
    · have e : wd = "reduce" := by have := of_decide_eq_true c5; exact V.str.inj this
      subst e
      obtain ⟨g1, x, g2, g3, rfl, w1, w2, w3⟩ := reduce_cases hkk hf
      cases hvs with
      | @cons v1 vs1 _ _ h1 hn =>
      cases hn with
      | @cons v2 vs2 _ _ h2 hn2 =>
      cases hn2 with
      | @cons v3 vs3 _ _ h3 hn3 =>
      cases hn3 with
      | @cons v4 vs4 _ _ h4 hn4 =>
      cases hn4
      cases h2
      have hq := q
      rw [bnd_reduce] at hq
      refine ⟨_, rfl, av, _, 1, _, rfl, rfl, hseq, at_nat (n := 1) rfl, _, rfl, _, rfl, v1, m, g1, a, b, names, kvs, C, hmj, rfl, h1, w1, ha, hb, hk, by omega, by omega, fun H1 s1 => ⟨_, rfl, ite2 (fun c4 => ?_) (fun c4 => ?_)⟩⟩
      · rw [Bool.not_eq_true'] at c4
        rw [c4, Bool.false_and] at hq
        exact iteT (hq _ s1)
      rw [Bool.not_eq_true, Bool.not_eq_false'] at c4
      rw [c4, Bool.true_and] at hq
      refine ⟨_, rfl, av, _, 3, _, rfl, rfl, same_seqT s1 hseq, at_nat (n := 3) rfl, _, rfl, _, rfl, v3, m, g2, a, b, names, kvs, C, hmj, rfl, dpM s1 h3, w2, s1 _ _ ha, s1 _ _ hb, hk, by omega, by omega, fun H2 s2' => ⟨_, rfl, ite2 (fun c6 => ?_) (fun c6 => ?_)⟩⟩
      · rw [Bool.not_eq_true'] at c6
        rw [c6, Bool.false_and] at hq
        exact hq _ (s1.trans s2')
      rw [Bool.not_eq_true, Bool.not_eq_false'] at c6
      rw [c6, Bool.true_and] at hq
      have s2 : Same H H2 := s1.trans s2'
      have seq1 := same_seqT s2 hseq
      refine ⟨_, rfl, av, _, 4, _, rfl, rfl, seq1, at_nat (n := 4) rfl, _, rfl, _, rfl, av, _, 2, _, rfl, rfl, seq1, at_nat (n := 2) rfl, few (by show 1 ≤ 1000; decide), fun L nL => ?_⟩
      refine ⟨a, L, names.map V.str, [.str x], rfl, rfl, (upd_ne (ne_of_none (s2 _ _ ha) nL)).trans (s2 _ _ ha), upd_same, few (by rw [List.length_map, List.length_singleton]; omega), fun R nR => ?_⟩
      have s5 : Same H (upd (upd H2 L (.lst [.str x])) R (.lst (names.map V.str ++ [.str x]))) := same_new (same_new s2 nL) nR
      refine ⟨_, rfl, v4, m, g3, R, b, names ++ [x], kvs, C, hmj, rfl, dpM s5 h4, w3, by rw [upd_same, List.map_append]; rfl, s5 _ _ hb, hk, by rw [List.length_append, List.length_singleton]; omega, by omega, fun H6 s6 => ?_⟩
      rw [addN_list]
      exact hq _ (s5.trans s6)
    have n4 : ¬ wd = "reduce" := fun e => c5 (by rw [e]; exact decide_eq_true rfl)
    refine ⟨_, rfl, rfl, _, rfl, ite2 (fun c7 => ?_) (fun c7 => ?_)⟩
    · have e : wd = "def" := by have := of_decide_eq_true c7; exact V.str.inj this
      subst e
      obtain ⟨x, ps, g1, g2, rfl, p8, pall, w1, w2⟩ := def_cases hkk hf
      cases hvs with
      | @cons v1 vs1 _ _ h1 hn =>
      cases hn with
      | @cons v2 vs2 _ _ h2 hn2 =>
      cases hn2 with
      | @cons v3 vs3 _ _ h3 hn3 =>
      cases hn3 with
      | @cons v4 vs4 _ _ h4 hn4 =>
      cases hn4
      cases h1
      cases h2 with
      | @tup ap us _ hsp hap =>
      have lus := dpl_len hap
      have hq := q
      rw [bnd_def] at hq
      refine ⟨_, rfl, b, kvs, rfl, hb, fun H1 p1 ts1 s1 np1 nts1 nin1 hp1 pr1 => ?_⟩
      have seq1 := same_seqT (show Same H H1 from s1) hseq
      have hsp1 := same_seqT (show Same H H1 from s1) hsp
      refine ⟨_, rfl, av, _, 1, _, rfl, rfl, seq1, at_nat (n := 1) rfl, _, rfl, av, _, 2, _, rfl, rfl, seq1, at_nat (n := 2) rfl, ap, us, rfl, .inr hsp1, few (by show 2 ≤ 1000; decide), fun T nT => ?_⟩
      rw [← lus] at hq
      have s1 : Same H H1 := s1
      refine ⟨few (by show 1 ≤ 1000; decide), fun L nL => ?_⟩
      have s2 : Same H1 (upd (upd H1 T (.tup [.str x, .int ((us.length : Nat) : Int)])) L (.lst [.ref T])) := same_new (same_new same_id nT) nL
      have nTL : T ≠ L := ne_of_none upd_same nL
      have hT2 : (upd (upd H1 T (.tup [.str x, .int ((us.length : Nat) : Int)])) L (.lst [.ref T])) T = some (.tup [.str x, .int ((us.length : Nat) : Int)]) := (upd_ne nTL).trans upd_same
      have hL2 : (upd (upd H1 T (.tup [.str x, .int ((us.length : Nat) : Int)])) L (.lst [.ref T])) L = some (.lst [.ref T]) := upd_same
      generalize upd (upd H1 T (.tup [.str x, .int ((us.length : Nat) : Int)])) L (.lst [.ref T]) = H2 at s2 hT2 hL2 ⊢
      have lts1 := Paired.length pr1
      refine ⟨p1, L, ts1.map V.ref, [.ref T], rfl, rfl, s2 _ _ hp1, hL2, few (by rw [List.length_map, List.length_singleton]; omega), fun R nR => ?_⟩
      have s3 : Same H1 (upd H2 R (.lst (ts1.map V.ref ++ [.ref T]))) := same_new s2 nR
      have hR3 : (upd H2 R (.lst (ts1.map V.ref ++ [.ref T]))) R = some (.lst ((ts1 ++ [T]).map V.ref)) := by rw [upd_same, List.map_append]; rfl
      have hT3 : (upd H2 R (.lst (ts1.map V.ref ++ [.ref T]))) T = some (.tup [.str x, .int ((us.length : Nat) : Int)]) := (upd_ne (ne_of_none hT2 nR)).trans hT2
      generalize upd H2 R (.lst (ts1.map V.ref ++ [.ref T])) = H3 at s3 hR3 hT3 ⊢
      refine ⟨R, ts1 ++ [T], kvs ++ [(.inr x, .int ((us.length : Nat) : Int))], rfl, SqL.of hR3, ?snoc1, fun D nD => ?_⟩
      case snoc1 =>
        refine Paired.snoc (L2.Paired.mapP pr1 fun t q z => SqT.of (s3 _ _ z)) ?_
        exact SqT.of hT3
      have bk1 := hk.one x us.length
      have lk1 : (mergeK [] (kvs ++ [(Sum.inr x, V.int ((us.length : Nat) : Int))])).length ≤ kvs.length + 1 := by
        have := length_mergeK (kvs ++ [(Sum.inr x, V.int ((us.length : Nat) : Int))]) []
        rw [List.length_append, List.length_singleton, List.length_nil, Nat.zero_add] at this
        exact this
      generalize mergeK [] (kvs ++ [(Sum.inr x, V.int ((us.length : Nat) : Int))]) = inner at bk1 lk1 ⊢
      have s4 : Same H (upd H3 D (.dK inner)) := same_new (s1.trans s3) nD
      have hD4 : (upd H3 D (.dK inner)) D = some (.dK inner) := upd_same
      generalize upd H3 D (.dK inner) = H4 at s4 hD4 ⊢
      refine ⟨_, rfl, D, inner, rfl, hD4, fun H5 p5 ts5 s5 np5 nts5 nin5 hp5 pr5 => ?_⟩
      have s5 : Same H4 H5 := s5
      have s05 : Same H H5 := s4.trans s5
      have lts5 := Paired.length pr5
      refine ⟨_, rfl, av, _, 2, _, rfl, rfl, same_seqT s05 hseq, at_nat (n := 2) rfl, ap, rfl, ⟨us, same_seqT s05 hsp⟩, fun G nG => ?_⟩
      refine lc_tup (K := K) (a := ap) (xs := us) (fun i H' => ∃ qs : List Addr, Same H5 H' ∧ H' G = some (.lst (qs.map V.ref)) ∧ Paired (fun (q : Addr) (kv : Key × V) => H' q = some (.tup [kV kv.1, kv.2])) qs (zeros (ps.take i))) ⟨[], same_new same_id nG, upd_same, .nil⟩ ?_ ?_ ?_
      · rintro i H' _ ⟨qs, s6, _⟩
        exact same_seqT (s05.trans s6) hsp
      · rintro i u H' hi ⟨qs, s6, hG, hqs⟩
        obtain ⟨g, hg, hug⟩ := dpl_get hap hi
        have hgs := List.all_eq_true.mp pall g (List.mem_of_getElem? hg)
        obtain ⟨k, rfl⟩ : ∃ k, g = .str k := by
          cases g with
          | str k => exact ⟨k, rfl⟩
          | _ => simp [isStrD] at hgs
        cases hug
        have lqs : qs.length ≤ 8 := by
          have := Paired.length hqs
          unfold zeros at this
          rw [List.length_map, List.length_take] at this
          omega
        refine ⟨rfl, _, rfl, few (by show 2 ≤ 1000; decide), fun T5 nT5 => ?_⟩
        have nGT : G ≠ T5 := ne_of_none hG nT5
        refine ⟨qs.map V.ref, (upd_ne nGT).trans hG, small1000 (by rw [List.length_map]; omega), qs ++ [T5], ?_, by rw [upd_same, List.map_append]; rfl, ?_⟩
        · intro b' o ho
          rw [upd_ne (ne_of_none ho nG), upd_ne (ne_of_none (s6 _ _ ho) nT5)]
          exact s6 _ _ ho
        · rw [List.take_add_one, hg]
          show Paired _ (qs ++ [T5]) (zeros (ps.take i ++ [.str k]))
          unfold zeros
          rw [List.map_append]
          refine Paired.snoc (L2.Paired.mapP hqs fun q kv z => ?_) ?_
          · have n1 : q ≠ T5 := ne_of_none z nT5
            have n2 : q ≠ G := ne_of z hG (by intro e; cases e)
            rw [upd_ne n2, upd_ne n1]
            exact z
          · rw [upd_ne nGT.symm, upd_same]
            rfl
      · rintro H6 ⟨qs, s6, hG, hqs⟩
        rw [lus, List.take_length] at hqs
        have lqs : qs.length ≤ 8 := by
          have := Paired.length hqs
          unfold zeros at this
          rw [List.length_map] at this
          omega
        have s06 : Same H H6 := s05.trans s6
        refine ⟨p5, G, ts5.map V.ref, qs.map V.ref, rfl, rfl, s6 _ _ hp5, hG, few (by rw [List.length_map, List.length_map]; omega), fun R7 nR7 => ?_⟩
        have s7 : Same H6 (upd H6 R7 (.lst (ts5.map V.ref ++ qs.map V.ref))) := same_new same_id nR7
        have hR7 : (upd H6 R7 (.lst (ts5.map V.ref ++ qs.map V.ref))) R7 = some (.lst ((ts5 ++ qs).map V.ref)) := by rw [upd_same, List.map_append]
        generalize upd H6 R7 (.lst (ts5.map V.ref ++ qs.map V.ref)) = H7 at s7 hR7 ⊢
        refine ⟨R7, ts5 ++ qs, inner ++ zeros ps, rfl, SqL.of hR7, paired_app (L2.Paired.mapP pr5 fun t q z => SqT.of ((s6.trans s7) _ _ z)) (L2.Paired.mapP hqs fun t q z => SqT.of (s7 _ _ z)), fun D8 nD8 => ?_⟩
        have bk2 := bk1.more (ps := ps) (fun p hp => List.all_eq_true.mp pall p hp)
        have lk2 : (mergeK [] (inner ++ zeros ps)).length ≤ kvs.length + 20 := by
          have := length_mergeK (inner ++ zeros ps) []
          unfold zeros at this
          rw [List.length_append, List.length_map, List.length_nil, Nat.zero_add] at this
          unfold zeros
          omega
        generalize mergeK [] (inner ++ zeros ps) = body at bk2 lk2 ⊢
        have s8 : Same H (upd H7 D8 (.dK body)) := same_new (s06.trans s7) nD8
        have s48 : Same H4 (upd H7 D8 (.dK body)) := same_new ((s5.trans s6).trans s7) nD8
        have hD8 : (upd H7 D8 (.dK body)) D8 = some (.dK body) := upd_same
        generalize upd H7 D8 (.dK body) = H8 at s8 s48 hD8 ⊢
        refine ⟨_, rfl, av, _, 3, _, rfl, rfl, same_seqT s8 hseq, at_nat (n := 3) rfl, _, rfl, _, rfl, v3, m, g1, a, D8, names, body, _, hmj, rfl, dpM s8 h3, w1, s8 _ _ ha, hD8, bk2, by omega, by omega, fun H9 s9 => ⟨_, rfl, ite2 (fun c4 => ?_) (fun c4 => ?_)⟩⟩
        · rw [c4, Bool.true_and] at hq
          have s09 := s8.trans s9
          refine ⟨_, rfl, av, _, 4, _, rfl, rfl, same_seqT s09 hseq, at_nat (n := 4) rfl, _, rfl, _, rfl, v4, m, g2, a, D, names, inner, _, hmj, rfl, dpM s09 h4, w2, s09 _ _ ha, (s48.trans s9) _ _ hD4, bk1, by omega, by omega, fun H10 s10 => hq _ (s09.trans s10)⟩
        · rw [Bool.eq_false_iff.mpr c4, Bool.false_and] at hq
          exact hq _ (s8.trans s9)
    have n5 : ¬ wd = "def" := fun e => c7 (by rw [e]; exact decide_eq_true rfl)
    have hq := q
    rw [bnd_else m n1 n2 n3 n4 n5] at hq
    refine ⟨_, rfl, _, m, _, rfl, .tup hseq (.cons (.str wd) hvs), hw, fun H1 L us s1 nL hL hus hl => ⟨L, rfl, ⟨us, SqL.of hL⟩, fun D nD => ?_⟩⟩
    have hpw := parts_wf hw
    have lus := dpl_len hus
    generalize partsOf (.tuple (.str wd :: fs)) = gs at hq hus hpw lus
    refine lc_list (K := K) (a := L) (xs := us) (fun i H' => ∃ acc, Same H1 H' ∧ H' D = some (.lst acc) ∧ acc.length ≤ i ∧ acc.isEmpty = (gs.take i).all fun g => bnd m g (fun x => decide (x ∈ names)) C) ⟨[], same_new same_id nD, upd_same, Nat.le_refl _, rfl⟩ ?_ ?_ ?_
    · rintro i H' _ ⟨acc, s5, _⟩
      exact SqL.of (s5 _ _ hL)
    · rintro i u H' hi ⟨acc, s5, hD, la, hacc⟩
      obtain ⟨g, hg, hug⟩ := dpl_get hus hi
      have il : i < us.length := by
        rcases Nat.lt_or_ge i us.length with z | z
        · exact z
        · rw [List.getElem?_eq_none z] at hi
          cases hi
      have s05 := s1.trans s5
      refine ⟨rfl, _, rfl, _, rfl, _, rfl, u, m, g, a, b, names, kvs, C, hmj, rfl, dpM s05 hug, hpw g (List.mem_of_getElem? hg), s05 _ _ ha, s05 _ _ hb, hk, by omega, by omega, fun H2 s2 => ⟨_, rfl, ?_⟩⟩
      have et : (gs.take (i + 1)).all (fun g => bnd m g (fun x => decide (x ∈ names)) C) = ((gs.take i).all (fun g => bnd m g (fun x => decide (x ∈ names)) C) && bnd m g (fun x => decide (x ∈ names)) C) := by
        rw [List.take_add_one, hg, List.all_append]
        simp
      refine ite2 (fun c8 => ?_) (fun c8 => ?_)
      · refine ⟨_, rfl, acc, s2 _ _ hD, small1000 (by omega), acc ++ [u], ?_, upd_same, ?_, ?_⟩
        · intro b' o ho
          rw [upd_ne (ne_of_none ho nD)]
          exact s2 _ _ (s5 _ _ ho)
        · rw [List.length_append]
          show acc.length + 1 ≤ _
          omega
        · rw [et]
          rw [Bool.not_eq_true'] at c8
          rw [c8, Bool.and_false]
          cases acc <;> rfl
      · refine ⟨acc, s5.trans s2, s2 _ _ hD, by omega, ?_⟩
        rw [et]
        rw [Bool.not_eq_true, Bool.not_eq_false'] at c8
        rw [c8, Bool.and_true]
        exact hacc
    · rintro H2 ⟨acc, s5, hD, la, hacc⟩
      rw [lus, List.take_length] at hacc
      refine ⟨few (by show 0 ≤ 1000; decide), fun T nT => ⟨D, T, acc, rfl, rfl, (upd_ne (ne_of_none hD nT)).trans hD, upd_same, ?_⟩⟩
      rw [hacc]
      exact hq _ (same_new (s1.trans s5) nT)
theorem ok_bo {f fP : Addr} {fd fdP : FuncData} (F : Fun K "_law_is_bound" "_law_is_bound" sBound f fd)
    (GP : FnOk P w K mg base CX0 2 fP fdP ["_law_term"] (spParts K)) (mP : mg "_law_parts" = some (.ref fP)) (kP : PySem.W.keepIn K (.ref fP) = true) (bP : Binds K fdP ["_law_term"] [])
    (mLen : mg "len" = none) (mLi : mg "list" = none) (mDi : mg "dict" = none) (mF : mg "_law_is_bound" = some (.ref f)) (kF : PySem.W.keepIn K (.ref f) = true) (bF : Binds K fd PB []) (j : Nat) : FnOk P w K mg base CX0 (j + 3) f fd PB (spBo K j) := by
  induction j with
  | zero => exact F.ok (k := 2) scBo (fun vs H Q E h => by obtain ⟨_, _, _, _, _, _, _, _, h0, _⟩ := h; exact absurd h0 (Nat.not_lt_zero _)) (fun cdv A outer s H vs Q E hr h => by obtain ⟨_, _, _, _, _, _, _, _, h0, _⟩ := h; exact absurd h0 (Nat.not_lt_zero _))
  | succ j ih => exact ok_bo1 F GP mP kP bP mLen mLi mDi mF kF bF ih
end
end Toy


namespace Toy
open PySem PySem.Spec L2 PyProof.Rows PySem.W
abbrev sKP : Stmt := top 21
abbrev NKP : List Str := ["term", "found", "kind", "field", "part", "_"]
theorem scKP : FnScope NKP ["term"] (defScope sKP) := ⟨rfl, rfl, rfl, by decide +kernel, rfl, by decide +kernel, by decide +kernel⟩
/-- FORMS -/
def FormsK (K : PySem.W.Frag) (w : World) (d : Addr) : Prop := ∀ p ∈ formsL, ∃ a, KDct K w d p.1 (.ref a) ∧ ∀ H, SqT K H a (p.2.map V.str)
def TupK (K : PySem.W.Frag) (a : Addr) (xs : List Str) : Prop := ∀ H, SqT K H a (xs.map V.str)
/-- pairs of a kind and a part -/
def KP (H : Hp) (q : Addr) (p : Str × V) : Prop := H q = some (.tup [.str p.1, p.2])
def spKP (K : PySem.W.Frag) : Sp := fun vs H Q _ => ∃ (v : V) (n : Nat) (t : PyData), vs = [v] ∧ Dp K H v t ∧ wf (n + 1) t = true ∧ ∀ H' L (qs : List Addr) (us : List (Str × V)), Same H H' → H L = none → H' L = some (.lst (qs.map V.ref)) → Paired (KP H') qs us → DpAll K H (us.map (·.2)) (partsOf t) → us.length ≤ 36 → (∀ u ∈ us, u.1 ∈ kinds4) → Q (.ref L) H'
theorem filt_in : ("filter" : Str) ∈ kinds4 := by decide +kernel
theorem kps_new {H H' : Hp} {qs : List Addr} {us : List (Str × V)} (s : Same H H') (h : Paired (KP H) qs us) : Paired (KP H') qs us := L2.Paired.mapP h fun _ _ z => s _ _ z
theorem kps_put {H : Hp} {L : Addr} {xs ys : List V} {qs : List Addr} {us : List (Str × V)} (hL : H L = some (.lst xs)) (h : Paired (KP H) qs us) : Paired (KP (upd H L (.lst ys))) qs us := L2.Paired.mapP h fun q p z => by
  unfold KP at z ⊢
  rw [upd_ne (ne_of z hL (by intro e; cases e))]
  exact z
section
variable {P : Program} {w : World} {K : PySem.W.Frag} {mg : Str → Option Value} {base : Heap}
theorem ok_kp {f aF aP : Addr} {fd : FuncData} (F : Fun K "kinds_and_parts" "kinds_and_parts" sKP f fd) (mFo : mg "FORMS" = some (.ref aF)) (FK : FormsK K w aF) (mPK : mg "PART_KINDS" = some (.ref aP)) (PKK : TupK K aP kinds4)
    (mZip : mg "zip" = none) : FnOk P w K mg base CX0 1 f fd ["term"] (spKP K) := by
  refine F.ok scKP (fun vs H Q E h => ?_) (fun cdv A outer s H vs Q E hr h => ?_)
  · obtain ⟨v, n, t, rfl, _⟩ := h
    rfl
  · obtain ⟨v, n, t, rfl, hv, hw, q⟩ := h
    obtain ⟨wd, fs, ks, rfl, hk, hf⟩ := wf_cases hw
    refine ⟨_, pss_cons (ps_set (i := 1) scKP.nd rfl (Or.inl rfl) (pe_lst pa_nil))
      (pss_cons (ps_for PassesOwn.never rfl (RZ.pi_zipA (by rfl) mZip (pa_cons (pe_ix ix_kdict (pe_glob (v := .ref aF) (by rfl) mFo rfl) (pe_ix ix_tup (pv 0) pe_int (fun _ _ => rfl)) (fun _ _ => rfl)) (pa_cons (pe_slice sl_tup (pv 0) (po_some pe_int) po_none) pa_nil)))
        (pg_tup (by rfl) (pgs_cons (pg_name (i := 2) scKP.nd rfl (.inl rfl)) (pgs_cons (pg_name (i := 3) scKP.nd rfl (.inl rfl)) pgs_nil)))
        (pss_one (ps_if (pt_cmpR op_in_seq (pv 2) (pe_glob (v := .ref aP) (by rfl) mPK rfl) (by rfl))
          (pss_one (ps_expr (pe_bm PySem.F.plainAttrs_list PySem.F.slot_list_append PySem.F.type_list_append mt_append (pv 1) (pa_cons (pe_tup (pa_cons (pv 2) (pa_cons (pv 3) pa_nil))) pa_nil))))
          (pss_one (ps_if (pt_cmpR op_eq (pv 2) pe_str (nomark _))
            (pss_one (ps_expr (pe_bm PySem.F.plainAttrs_list PySem.F.slot_list_extend PySem.F.type_list_extend mt_extend (pv 1) (pa_cons (pe_lc (own := [("part", 4)]) (g := gName 4) (te := tTup (tCons (tC (.str "filter")) (tCons (tVar 4) tNil))) (by rfl) scKP.nd (pi_tup (pv 3))
              (blkOk_by (own := [("part", 4)]) (N := NKP) (sc := defScope sKP) (by decide +kernel)) (fun _ _ _ _ _ => pg_name (i := 4) scKP.nd rfl (Or.inl rfl)) (fun _ _ _ _ _ => pts_nil)
              (fun _ _ _ _ _ => pe_tup (pa_cons pe_str (pa_cons (pv 4) pa_nil)))) pa_nil))))
            (pss_one (ps_if (pt_cmpR op_eq (pv 2) pe_str (nomark _))
              (pss_one (ps_expr (pe_bm PySem.F.plainAttrs_list PySem.F.slot_list_extend PySem.F.type_list_extend mt_extend (pv 1) (pa_cons (pe_lc (own := [("_", 5), ("part", 4)]) (g := gTup K 2 (gCons (gName 5) (gCons (gName 4) gNil))) (te := tTup (tCons (tC (.str "filter")) (tCons (tVar 4) tNil))) (by rfl) scKP.nd (pi_tup (pv 3))
                (blkOk_by (own := [("_", 5), ("part", 4)]) (N := NKP) (sc := defScope sKP) (by decide +kernel)) (fun _ _ _ _ _ => by exact (pg_tup rfl (pgs_cons (by exact (pg_name (i := 5) scKP.nd rfl (Or.inl rfl))) (pgs_cons (by exact (pg_name (i := 4) scKP.nd rfl (Or.inl rfl))) pgs_nil)))) (fun _ _ _ _ _ => pts_nil)
                (fun _ _ _ _ _ => pe_tup (pa_cons pe_str (pa_cons (pv 4) pa_nil)))) pa_nil))))
              pss_nil)))))))
      (pss_one (ps_ret (pv 1)))), ?_⟩
    cases hv with
    | @tup av xs _ hseq hall =>
    cases hall with
    | @cons v0 vs d0 ds h0 hvs =>
    cases h0
    have hkl := flds_len hf
    have hvl := dpl_len hvs
    have hvl : vs.length = fs.length := hvl
    have hmem := lookup_mem hk
    obtain ⟨aK, hK1, hK2⟩ := FK _ hmem
    have k4 : ks.length ≤ 4 := forms_len _ hmem
    refine ⟨few (by show 0 ≤ 1000; decide), fun L nL => ?_⟩
    have sL : Same H (upd H L (.lst [])) := same_new same_id nL
    have q1 : SqT K (upd H L (.lst [])) av (.str wd :: vs) := same_seqT sL hseq
    have hL0 : (upd H L (.lst [])) L = some (.lst []) := upd_same
    generalize upd H L (.lst []) = H1 at sL q1 hL0 ⊢
    refine ⟨_, rfl, av, _, 0, _, rfl, rfl, q1, at_0 _ _, aF, wd, _, rfl, rfl, hK1, _, rfl, 1, rfl, av, _, rfl, q1, cut_1w _ _, fun B nB => ?_⟩
    rw [cut_1]
    have nLB : L ≠ B := ne_of_none hL0 nB
    have hB : (upd H1 B (.tup vs)) B = some (.tup vs) := upd_same
    have hLB : (upd H1 B (.tup vs)) L = some (.lst []) := (upd_ne nLB).trans hL0
    have sHB : Same H (upd H1 B (.tup vs)) := same_new sL nB
    generalize upd H1 B (.tup vs) = H4 at hB hLB sHB ⊢
    refine ⟨aK, B, ks.map V.str, vs, rfl, .inr ⟨hK2 H4, SqT.of hB, ?_⟩⟩
    refine RZ.for_zipT (K := K) (a := aK) (b := B) (xs := ks.map V.str) (ys := vs) (by rw [List.length_map]; omega) (fun i σ H' => ∃ (qs : List Addr) (us : List (Str × V)) (a b : Option V), σ = [some (.ref av), some (.ref L), a, b, none, none] ∧ Same H H' ∧ H' L = some (.lst (qs.map V.ref)) ∧ H' B = some (.tup vs) ∧ Paired (KP H') qs us ∧ DpAll K H (us.map (·.2)) (partsF (ks.take i) (fs.take i)) ∧ us.length ≤ 9 * i ∧ ∀ u ∈ us, u.1 ∈ kinds4)
      ⟨[], [], none, none, rfl, sHB, hLB, hB, .nil, .nil, Nat.zero_le _, fun _ h => by cases h⟩ ?_ ?_ ?_
    · rintro i σ H' ⟨qs, us, a, b, _, _, _, e, _⟩
      exact ⟨hK2 H', SqT.of e⟩
    · rintro i k y T σ H5 hk5 hy ⟨qs, us, a, b, rfl, s5, hM, hB5, hqs, hus, hlen, hkin⟩ nT
      have hi : i < vs.length := by
        rcases Nat.lt_or_ge i vs.length with z | z
        · exact z
        · rw [List.getElem?_eq_none z] at hy
          cases hy
      obtain ⟨f0, hf0, hyf⟩ := dpl_get hvs hy
      have hki : ks[i]? = some ks[i] := List.getElem?_eq_getElem (by omega)
      generalize ks[i] = k0 at hki
      have ek : k = .str k0 := by
        rw [List.getElem?_map, hki] at hk5
        exact (Option.some.inj hk5).symm
      subst ek
      have hfo := flds_get hf hki hf0
      have hpt := partsF_take ks fs i hki hf0
      have lqs := Paired.length hqs
      have nMT : L ≠ T := ne_of_none hM nT
      have nBT : B ≠ T := ne_of_none hB5 nT
      have sT1 : Same H5 (upd H5 T (.tup [.str k0, y])) := same_new same_id nT
      have sT : Same H (upd H5 T (.tup [.str k0, y])) := same_new s5 nT
      have hMT : (upd H5 T (.tup [.str k0, y])) L = some (.lst (qs.map V.ref)) := (upd_ne nMT).trans hM
      have hBT : (upd H5 T (.tup [.str k0, y])) B = some (.tup vs) := (upd_ne nBT).trans hB5
      have hqT := kps_new sT1 hqs
      refine ⟨T, _, rfl, SqT.of upd_same, rfl, _, _, rfl, _, _, rfl, rfl, ?_⟩
      generalize upd H5 T (.tup [.str k0, y]) = H6 at sT hMT hBT hqT ⊢
      have nL6 : ∀ {o}, (H L = some o) → False := fun e => by rw [nL] at e; cases e
      refine ⟨_, rfl, aP, _, rfl, .inr (PKK H6), rfl, flat_strs kinds4, _, rfl, ?_⟩
      have ein : inV (V.str k0) (kinds4.map V.str) = PK k0 := inV_strs k0 kinds4
      show (if inV (V.str k0) (kinds4.map V.str) = true then _ else _)
      rw [ein]
      refine ite2 (fun c1 => ?_) (fun c1 => ?_)
      · have ep : partsK k0 f0 = [f0] := by unfold partsK; rw [if_pos c1]
        refine ⟨_, rfl, .inl ⟨rfl, _, SqL.of hMT⟩, _, rfl, _, rfl, few (by show 2 ≤ 1000; decide), fun T2 nT2 => ?_⟩
        have nLT2 : L ≠ T2 := ne_of_none hMT nT2
        refine ⟨L, qs.map V.ref, .ref T2, rfl, rfl, (upd_ne nLT2).trans hMT, small1000 (by rw [List.length_map]; omega), ?_⟩
        refine ⟨qs ++ [T2], us ++ [(k0, y)], _, _, rfl, same_put (same_new sT nT2) nL, by rw [upd_same, List.map_append]; rfl, ?_, ?_, ?_, ?_, ?_⟩
        · rw [upd_ne (ne_of hBT hMT (by intro e; cases e)), upd_ne (ne_of_none hBT nT2)]
          exact hBT
        · exact Paired.snoc (kps_put ((upd_ne nLT2).trans hMT) (kps_new (same_new same_id nT2) hqT)) (by show upd _ _ _ _ = _; rw [upd_ne nLT2.symm, upd_same])
        · rw [hpt, ep, List.map_append]
          exact dpl_app hus (.cons hyf .nil)
        · rw [List.length_append, List.length_singleton]
          omega
        · intro u hu'
          rcases List.mem_append.mp hu' with z | z
          · exact hkin u z
          · rw [List.mem_singleton] at z
            subst z
            exact of_decide_eq_true c1
      have hPn := c1
      refine ⟨_, rfl, rfl, _, rfl, ite2 (fun c2 => ?_) (fun c2 => ?_)⟩
      · have hE : k0 = "filters" := V.str.inj (of_decide_eq_true c2)
        subst hE
        obtain ⟨gs, rfl, g8, gall⟩ := tupAll_cases (fld_f hfo)
        cases hyf with
        | @tup ay zs _ hzq hza =>
        have zl := dpl_len hza
        have ep : partsK "filters" (.tuple gs) = gs := by
          unfold partsK
          rw [if_neg hPn, if_pos rfl]
          rfl
        refine ⟨_, rfl, .inl ⟨rfl, _, SqL.of hMT⟩, _, rfl, ay, rfl, ⟨zs, same_seqT sT hzq⟩, fun D nD => ?_⟩
        have nLD : L ≠ D := ne_of_none hMT nD
        refine lc_tup (K := K) (a := ay) (xs := zs) (fun j H' => ∃ (rs : List Addr) (ws : List (Str × V)), Same H6 H' ∧ H' D = some (.lst (rs.map V.ref)) ∧ Paired (KP H') rs ws ∧ DpAll K H (ws.map (·.2)) (gs.take j) ∧ ∀ u ∈ ws, u.1 ∈ kinds4) ⟨[], [], same_new same_id nD, upd_same, .nil, .nil, fun _ h => by cases h⟩ ?_ ?_ ?_
        · rintro j H' _ ⟨rs, ws, s7, _⟩
          exact same_seqT (sT.trans s7) hzq
        · rintro j z H' hz ⟨rs, ws, s7, hD, hrs, hws, hkk⟩
          obtain ⟨g0, hg0, hzg⟩ := dpl_get hza hz
          have lrs := Paired.length hrs
          have lws := dpl_len hws
          rw [List.length_map, List.length_take] at lws
          refine ⟨rfl, _, rfl, few (by show 2 ≤ 1000; decide), fun T2 nT2 => ?_⟩
          have nDT2 : D ≠ T2 := ne_of_none hD nT2
          refine ⟨rs.map V.ref, (upd_ne nDT2).trans hD, small1000 (by rw [List.length_map]; omega), rs ++ [T2], ws ++ [(("filter" : Str), z)], ?_, by rw [upd_same, List.map_append]; rfl, ?_, ?_, ?_⟩
          · intro b' o ho
            rw [upd_ne (ne_of_none ho nD), upd_ne (ne_of_none (s7 _ _ ho) nT2)]
            exact s7 _ _ ho
          · exact Paired.snoc (kps_put ((upd_ne nDT2).trans hD) (kps_new (same_new same_id nT2) hrs)) (by show upd _ _ _ _ = _; rw [upd_ne nDT2.symm, upd_same])
          · rw [List.take_add_one, hg0, List.map_append]
            exact dpl_app hws (.cons hzg .nil)
          · intro u hu'
            rcases List.mem_append.mp hu' with z | z
            · exact hkk u z
            · rw [List.mem_singleton] at z
              subst z
              exact filt_in
        · rintro H7 ⟨rs, ws, s7, hD, hrs, hws, hkk⟩
          rw [zl, List.take_length] at hws
          have lrs := Paired.length hrs
          have lws := dpl_len hws
          rw [List.length_map] at lws
          have hM7 := s7 _ _ hMT
          refine ⟨L, D, qs.map V.ref, rs.map V.ref, rfl, rfl, hM7, hD, few (by rw [List.length_map, List.length_map]; omega), ?_⟩
          refine ⟨qs ++ rs, us ++ ws, _, _, rfl, same_put (sT.trans s7) nL, by rw [upd_same, List.map_append], ?_, paired_app (kps_put hM7 (kps_new s7 hqT)) (kps_put hM7 hrs), ?_, ?_, ?_⟩
          · rw [upd_ne (ne_of (s7 _ _ hBT) hM7 (by intro e; cases e))]
            exact s7 _ _ hBT
          · rw [hpt, ep, List.map_append]
            exact dpl_app hus hws
          · rw [List.length_append]
            omega
          · intro u hu'
            rcases List.mem_append.mp hu' with z | z
            · exact hkin u z
            · exact hkk u z
      refine ⟨_, rfl, rfl, _, rfl, ite2 (fun c3 => ?_) (fun c3 => ?_)⟩
      · have hE : k0 = "entries" := V.str.inj (of_decide_eq_true c3)
        subst hE
        obtain ⟨gs, rfl, g8, gall⟩ := tupAll_cases (fld_e hfo)
        cases hyf with
        | @tup ay zs _ hzq hza =>
        have zl := dpl_len hza
        have ep : partsK "entries" (.tuple gs) = gs.map sndD := by
          unfold partsK
          rw [if_neg hPn, if_neg (by decide +kernel), if_pos rfl]
          rfl
        refine ⟨_, rfl, .inl ⟨rfl, _, SqL.of hMT⟩, _, rfl, ay, rfl, ⟨zs, same_seqT sT hzq⟩, fun D nD => ?_⟩
        have nLD : L ≠ D := ne_of_none hMT nD
        refine lc_tup (K := K) (a := ay) (xs := zs) (fun j H' => ∃ (rs : List Addr) (ws : List (Str × V)), Same H6 H' ∧ H' D = some (.lst (rs.map V.ref)) ∧ Paired (KP H') rs ws ∧ DpAll K H (ws.map (·.2)) ((gs.take j).map sndD) ∧ ∀ u ∈ ws, u.1 ∈ kinds4) ⟨[], [], same_new same_id nD, upd_same, .nil, .nil, fun _ h => by cases h⟩ ?_ ?_ ?_
        · rintro j H' _ ⟨rs, ws, s7, _⟩
          exact same_seqT (sT.trans s7) hzq
        · rintro j z H' hz ⟨rs, ws, s7, hD, hrs, hws, hkk⟩
          obtain ⟨g0, hg0, hzg⟩ := dpl_get hza hz
          obtain ⟨kx, g', rfl, _, _⟩ := isEnt_cases (List.all_eq_true.mp gall g0 (List.mem_of_getElem? hg0))
          cases hzg with
          | @tup az es _ heq hea =>
          cases hea with
          | @cons e0 es1 _ _ k0' hea1 =>
          cases hea1 with
          | @cons e1v es2 _ _ k1' hea2 =>
          cases hea2
          have lrs := Paired.length hrs
          have lws := dpl_len hws
          rw [List.length_map, List.length_map, List.length_take] at lws
          refine ⟨az, _, rfl, same_seqT (sT.trans s7) heq, rfl, _, _, rfl, _, _, rfl, rfl, rfl, _, rfl, few (by show 2 ≤ 1000; decide), fun T2 nT2 => ?_⟩
          have nDT2 : D ≠ T2 := ne_of_none hD nT2
          refine ⟨rs.map V.ref, (upd_ne nDT2).trans hD, small1000 (by rw [List.length_map]; omega), rs ++ [T2], ws ++ [(("filter" : Str), e1v)], ?_, by rw [upd_same, List.map_append]; rfl, ?_, ?_, ?_⟩
          · intro b' o ho
            rw [upd_ne (ne_of_none ho nD), upd_ne (ne_of_none (s7 _ _ ho) nT2)]
            exact s7 _ _ ho
          · exact Paired.snoc (kps_put ((upd_ne nDT2).trans hD) (kps_new (same_new same_id nT2) hrs)) (by show upd _ _ _ _ = _; rw [upd_ne nDT2.symm, upd_same])
          · rw [List.take_add_one, hg0, List.map_append, List.map_append]
            exact dpl_app hws (.cons k1' .nil)
          · intro u hu'
            rcases List.mem_append.mp hu' with z | z
            · exact hkk u z
            · rw [List.mem_singleton] at z
              subst z
              exact filt_in
        · rintro H7 ⟨rs, ws, s7, hD, hrs, hws, hkk⟩
          rw [zl, List.take_length] at hws
          have lrs := Paired.length hrs
          have lws := dpl_len hws
          rw [List.length_map, List.length_map] at lws
          have hM7 := s7 _ _ hMT
          refine ⟨L, D, qs.map V.ref, rs.map V.ref, rfl, rfl, hM7, hD, few (by rw [List.length_map, List.length_map]; omega), ?_⟩
          refine ⟨qs ++ rs, us ++ ws, _, _, rfl, same_put (sT.trans s7) nL, by rw [upd_same, List.map_append], ?_, paired_app (kps_put hM7 (kps_new s7 hqT)) (kps_put hM7 hrs), ?_, ?_, ?_⟩
          · rw [upd_ne (ne_of (s7 _ _ hBT) hM7 (by intro e; cases e))]
            exact s7 _ _ hBT
          · rw [hpt, ep, List.map_append]
            exact dpl_app hus hws
          · rw [List.length_append]
            omega
          · intro u hu'
            rcases List.mem_append.mp hu' with z | z
            · exact hkin u z
            · exact hkk u z
      · have n1 : ¬ k0 = "entries" := fun z => c3 (by rw [z]; exact decide_eq_true rfl)
        have n2 : ¬ k0 = "filters" := fun z => c2 (by rw [z]; exact decide_eq_true rfl)
        have ep : partsK k0 f0 = [] := by
          unfold partsK
          rw [if_neg hPn, if_neg n2, if_neg n1]
        refine ⟨qs, us, _, _, rfl, sT, hMT, hBT, hqT, ?_, by omega, hkin⟩
        rw [hpt, ep, List.append_nil]
        exact hus
    · rintro σ H5 ⟨qs, us, a, b, rfl, s5, hM, hB5, hqs, hus, hlen, hkin⟩
      rw [List.length_map, show ks.take ks.length = ks by rw [List.take_length], show fs.take ks.length = fs by rw [hkl, List.take_length], ← partsOf_node hk] at hus
      rw [List.length_map] at hlen
      exact ⟨_, rfl, q H5 L qs us s5 nL hM hqs hus (by omega) hkin⟩
end
end Toy


namespace L2
open PySem PySem.Spec PyProof.Rows
/-! enumerate(zip(list, list)): the pairs that zip gives stay, so it makes new ones -/
abbrev zO (g f : Value) (TI TO : Addr) : Obj := { cls := .type "zip", dict := none, data := .fields #[g, f, .bool false, .ref TI, .ref TO], slots := #[] }
def ZAt (h : Heap) (z TI TO : Addr) : Prop := (∃ T : Addr, ∃ f : Bool, h.get? z = some (zO (rawInt T) (.bool f) TI TO)) ∨ h.get? z = some (zO .none (.bool false) TI TO)
theorem ZAt.obj {h : Heap} {z TI TO : Addr} (x : ZAt h z TI TO) : ∃ g f, h.get? z = some (zO g f TI TO) := by
  rcases x with ⟨T, f, e⟩ | e
  · exact ⟨_, _, e⟩
  · exact ⟨_, _, e⟩
section
variable {prog : Program} {w : World} {A : Around} {E : Value → Shared → Prop} {s : Shared} {z TI TO i1 i2 l1 l2 : Addr} {k1 k2 : Nat} {xs ys : Array Value} {x y a b g f : Value}
/-- the tuple of a zip is free: it gives a new pair -/
theorem z_free_item {Q : Value → Shared → Prop} (D : ZipApart z TI TO i1 i2 l1 l2) (hz : s.heap.get? z = some (zO g f TI TO)) (fr : ∀ (A' : Around) (E' : Value → Shared → Prop) (R : Bool → Shared → Prop), R true s → wpAny (model prog w) A' (Builtin.SmallTypes.ownedTupleIsFree (.ref z)) R E' s)
    (pI : IsPair s.heap TI (.ref i1) (.ref i2)) (pO : IsPair s.heap TO a b) (j1 : s.heap.IsListIter i1 l1 k1) (j2 : s.heap.IsListIter i2 l2 k2) (q1 : s.heap.IsList l1 xs) (q2 : s.heap.IsList l2 ys) (ex : xs[k1]? = some x) (ey : ys[k2]? = some y)
    (fin : ∀ h', h'.get? z = some (zO (rawInt s.heap.objs.size) (.bool false) TI TO) → IsPair h' TO x y → h'.IsListIter i1 l1 (k1 + 1) → h'.IsListIter i2 l2 (k2 + 1) → IsPair h' s.heap.objs.size x y → h'.objs.size = s.heap.objs.size + 1 →
      (∀ c o, c ≠ z → c ≠ TO → c ≠ i1 → c ≠ i2 → s.heap.get? c = some o → h'.get? c = some o) → Q (.ref s.heap.objs.size) { s with heap := h' }) :
    wpAny (model prog w) A (Builtin.«zip.__next__» ⟨[.ref z], []⟩) (fun r s' => ∃ v, r = .done (.ret v) ∧ Q v s') E s := by
  show wpAny _ _ (field (.ref z) 2 >>= _) _ _ _
  refine wpAny_bind (wpAny_field (x := .bool false) hz rfl rfl ?_); show wpAny _ _ (field (.ref z) 3 >>= _) _ _ _
  refine wpAny_bind (wpAny_field (x := .ref TI) hz rfl rfl ?_); refine wpAny_bind (wpAny_seqItems pI rfl ?_)
  refine wpAny_bind (fr _ _ _ ?_); simp only [if_true]; refine wpAny_bind (wpAny_rule ?_)
  refine wpAny_bind (wpAny_field (x := .ref TO) hz rfl rfl ?_)
  refine wpAny_bind (wpAny_setField_rec hz (by simp) fun m1 o1 s1 => ?_); replace o1 : m1.get? z = some (zO .ellipsis f TI TO) := o1
  refine wpAny_bind ?_; simp only [List.zipIdx_cons, List.zipIdx_nil, List.forIn_cons, List.forIn_nil]
  refine wpAny_bind (wpAny_bind (wpAny_onRaise ?_)); show wpAny _ _ (Builtin.SmallTypes.nextOf (.ref i1) >>= _) _ _ _
  refine wpAny_bind (wpAny_nextOf_list_item (j1.extBut s1.extBut D.i1z) (q1.extBut s1.extBut D.l1z) ex fun m2 r1 s2 => wpAny_pure ?_)
  have p2 : IsPair m2 TO a b := s2.extBut _ _ D.TOi1 (s1.extBut _ _ D.TOz pO)
  refine wpAny_bind (wpAny_seqItems p2 rfl ?_); refine wpAny_bind (wpAny_updateSeq_pair p2 fun m3 p3 s3 => ?_); replace p3 : IsPair m3 TO x b := p3
  refine wpAny_bind (wpAny_letGo (wpAny_pure ?_)); refine wpAny_bind (wpAny_bind (wpAny_onRaise ?_)); show wpAny _ _ (Builtin.SmallTypes.nextOf (.ref i2) >>= _) _ _ _
  refine wpAny_bind (wpAny_nextOf_list_item (((j2.extBut s1.extBut D.i2z).extBut s2.extBut D.i12.symm).extBut s3.extBut D.TOi2.symm) (((q2.extBut s1.extBut D.l2z).extBut s2.extBut D.l2i1).extBut s3.extBut D.l2TO) ey fun m4 r2 s4 => wpAny_pure ?_)
  have p4 : IsPair m4 TO x b := s4.extBut _ _ D.TOi2 p3
  refine wpAny_bind (wpAny_seqItems p4 rfl ?_); refine wpAny_bind (wpAny_updateSeq_pair p4 fun m5 p5 s5 => ?_); replace p5 : IsPair m5 TO x y := p5
  refine wpAny_bind (wpAny_letGo (wpAny_pure (wpAny_pure ?_))); refine wpAny_bind (wpAny_seqItems p5 rfl ?_); refine wpAny_bind (wpAny_newTuple ?_)
  have sz : m5.objs.size = s.heap.objs.size := by rw [s5.1, s4.1, s3.1, s2.1, s1.1]
  have o5 : m5.get? z = some (zO .ellipsis f TI TO) := s5.extBut _ _ D.TOz.symm (s4.extBut _ _ D.i2z.symm (s3.extBut _ _ D.TOz.symm (s2.extBut _ _ D.i1z.symm o1)))
  have kp : ∀ c o, c ≠ z → c ≠ TO → c ≠ i1 → c ≠ i2 → s.heap.get? c = some o → m5.get? c = some o := fun c o n1 n2 n3 n4 e => s5.extBut _ _ n2 (s4.extBut _ _ n4 (s3.extBut _ _ n2 (s2.extBut _ _ n3 (s1.extBut _ _ n1 e))))
  have r1' : m5.IsListIter i1 l1 (k1 + 1) := ((r1.extBut s3.extBut D.TOi1.symm).extBut s4.extBut D.i12).extBut s5.extBut D.TOi1.symm
  have r2' : m5.IsListIter i2 l2 (k2 + 1) := r2.extBut s5.extBut D.TOi2.symm
  have zlt : z < m5.objs.size := Heap.lt_size o5
  show wpAny _ _ (Builtin.SmallTypes.ownedTupleHandOut (.ref z) (.ref m5.objs.size) >>= _) _ _ _
  refine wpAny_bind ?_; unfold Builtin.SmallTypes.ownedTupleHandOut
  have o6 : (m5.push { cls := .type "tuple", data := .seq #[x, y] }).get? z = some (zO .ellipsis f TI TO) := Heap.get?_push_of_some _ o5
  refine wpAny_bind (wpAny_setField_rec o6 (by simp) fun m7 o7 s7 => ?_); replace o7 : m7.get? z = some (zO (rawInt m5.objs.size) f TI TO) := o7
  refine wpAny_setField_rec o7 (by simp) fun m8 o8 s8 => ?_; replace o8 : m8.get? z = some (zO (rawInt m5.objs.size) (.bool false) TI TO) := o8
  have up : ∀ c o, c ≠ z → m5.get? c = some o → m8.get? c = some o := fun c o n e => s8.extBut _ _ n (s7.extBut _ _ n (Heap.get?_push_of_some _ e))
  have pT : IsPair m8 m5.objs.size x y := s8.extBut _ _ (Nat.ne_of_gt zlt) (s7.extBut _ _ (Nat.ne_of_gt zlt) (Heap.get?_push_size _ rfl))
  have sz8 : m8.objs.size = m5.objs.size + 1 := by rw [s8.1, s7.1, Heap.size_push]
  refine wpAny_pure ⟨_, rfl, ?_⟩; show Q (.ref m5.objs.size) _
  rw [sz] at o8 pT sz8 ⊢
  exact fin m8 o8 (up _ _ D.TOz p5) (r1'.at fun o e => up _ o D.i1z e) (r2'.at fun o e => up _ o D.i2z e) pT sz8 fun c o n1 n2 n3 n4 e => up c o n1 (kp c o n1 n2 n3 n4 e)
end
end L2


namespace L2
open PySem PySem.Spec PyProof.Rows
section
variable {prog : Program} {w : World} {A : Around} {E : Value → Shared → Prop} {s : Shared} {z TI TO i1 i2 l1 l2 : Addr} {k1 k2 : Nat} {xs ys : Array Value} {x y a b g f : Value}
theorem z_free_end {Q : Fin → Shared → Prop} (hh : A.handled = none) (D : ZipApart z TI TO i1 i2 l1 l2) (hz : s.heap.get? z = some (zO g f TI TO)) (fr : ∀ (A' : Around) (E' : Value → Shared → Prop) (R : Bool → Shared → Prop), R true s → wpAny (model prog w) A' (Builtin.SmallTypes.ownedTupleIsFree (.ref z)) R E' s)
    (pI : IsPair s.heap TI (.ref i1) (.ref i2)) (pO : IsPair s.heap TO a b) (j1 : s.heap.IsListIter i1 l1 k1) (j2 : s.heap.IsListIter i2 l2 k2) (q1 : s.heap.IsList l1 xs) (q2 : s.heap.IsList l2 ys) (en : xs[k1]? = none ∨ ys[k2]? = none)
    (fin : ∀ h' e, (∀ c o, c ≠ z → c ≠ TO → c ≠ i1 → c ≠ i2 → s.heap.get? c = some o → h'.get? c = some o) → (∃ o, h'.get? e = some o ∧ o.cls = .type "StopIteration") → E (.ref e) { s with heap := h' }) :
    wpAny (model prog w) A (Builtin.«zip.__next__» ⟨[.ref z], []⟩) Q E s := by
  show wpAny _ _ (field (.ref z) 2 >>= _) _ _ _
  refine wpAny_bind (wpAny_field (x := .bool false) hz rfl rfl ?_); show wpAny _ _ (field (.ref z) 3 >>= _) _ _ _
  refine wpAny_bind (wpAny_field (x := .ref TI) hz rfl rfl ?_); refine wpAny_bind (wpAny_seqItems pI rfl ?_)
  refine wpAny_bind (fr _ _ _ ?_); simp only [if_true]; refine wpAny_bind (wpAny_rule ?_)
  refine wpAny_bind (wpAny_field (x := .ref TO) hz rfl rfl ?_)
  refine wpAny_bind (wpAny_setField_rec hz (by simp) fun m1 o1 s1 => ?_); replace o1 : m1.get? z = some (zO .ellipsis f TI TO) := o1
  refine wpAny_bind ?_; simp only [List.zipIdx_cons, List.zipIdx_nil, List.forIn_cons, List.forIn_nil]
  refine wpAny_bind (wpAny_bind (wpAny_onRaise ?_)); show wpAny _ _ (Builtin.SmallTypes.nextOf (.ref i1) >>= _) _ _ _
  cases ex : xs[k1]? with
  | none =>
    refine wpAny_bind (wpAny_nextOf_list_end hh (j1.extBut s1.extBut D.i1z) (q1.extBut s1.extBut D.l1z) ex fun m2 e s2 ⟨oe, he1, he2⟩ => ?_)
    have o2 : m2.get? z = some (zO .ellipsis f TI TO) := s2 _ _ D.i1z.symm o1
    have ne : e ≠ z := fun q => by rw [q, o2] at he1; cases he1; simp at he2
    exact wpAny_setField_rec o2 (by simp) fun m3 _ s3 => fin m3 e (fun c o n1 _ n3 _ q => s3.extBut _ _ n1 (s2 _ _ n3 (s1.extBut _ _ n1 q))) ⟨oe, s3.extBut _ _ ne he1, he2⟩
  | some x =>
    have ey : ys[k2]? = none := by rcases en with q | q; rw [ex] at q; cases q; exact q
    refine wpAny_bind (wpAny_nextOf_list_item (j1.extBut s1.extBut D.i1z) (q1.extBut s1.extBut D.l1z) ex fun m2 r1 s2 => wpAny_pure ?_)
    have p2 : IsPair m2 TO a b := s2.extBut _ _ D.TOi1 (s1.extBut _ _ D.TOz pO)
    refine wpAny_bind (wpAny_seqItems p2 rfl ?_); refine wpAny_bind (wpAny_updateSeq_pair p2 fun m3 p3 s3 => ?_)
    refine wpAny_bind (wpAny_letGo (wpAny_pure ?_)); refine wpAny_bind (wpAny_bind (wpAny_onRaise ?_)); show wpAny _ _ (Builtin.SmallTypes.nextOf (.ref i2) >>= _) _ _ _
    refine wpAny_bind (wpAny_nextOf_list_end hh (((j2.extBut s1.extBut D.i2z).extBut s2.extBut D.i12.symm).extBut s3.extBut D.TOi2.symm) (((q2.extBut s1.extBut D.l2z).extBut s2.extBut D.l2i1).extBut s3.extBut D.l2TO) ey fun m4 e s4 ⟨oe, he1, he2⟩ => ?_)
    have o4 : m4.get? z = some (zO .ellipsis f TI TO) := s4 _ _ D.i2z.symm (s3.extBut _ _ D.TOz.symm (s2.extBut _ _ D.i1z.symm o1))
    have ne : e ≠ z := fun q => by rw [q, o4] at he1; cases he1; simp at he2
    exact wpAny_setField_rec o4 (by simp) fun m5 _ s5 => fin m5 e (fun c o n1 n2 n3 n4 q => s5.extBut _ _ n1 (s4 _ _ n4 (s3.extBut _ _ n2 (s2.extBut _ _ n3 (s1.extBut _ _ n1 q))))) ⟨oe, s5.extBut _ _ ne he1, he2⟩
/-- whether the tuple is free -/
theorem z_free0 {R : Bool → Shared → Prop} (hz : s.heap.get? z = some (zO .none f TI TO)) (h : R true s) : wpAny (model prog w) A (Builtin.SmallTypes.ownedTupleIsFree (.ref z)) R E s := by
  unfold Builtin.SmallTypes.ownedTupleIsFree
  exact wpAny_bind (wpAny_field (x := .none) hz rfl rfl (wpAny_pure h))
theorem z_free1 {R : Bool → Shared → Prop} {T : Addr} (hz : s.heap.get? z = some (zO (rawInt T) f TI TO)) (dead : s.heap.get? T = none) (h : R true s) : wpAny (model prog w) A (Builtin.SmallTypes.ownedTupleIsFree (.ref z)) R E s := by
  unfold Builtin.SmallTypes.ownedTupleIsFree
  refine wpAny_bind (wpAny_field (x := rawInt T) hz rfl rfl ?_)
  show wpAny _ _ (loadIfAlive ((T : Int).toNat) >>= _) _ _ _
  rw [Int.toNat_natCast]
  have al : ∀ {R' : Option Obj → Shared → Prop}, R' none s → wpAny (model prog w) A (loadIfAlive T) R' E s := fun {R'} q => by
    have q' : R' (s.heap.get? T) s := by rw [dead]; exact q
    exact fun _ _ _ => q'
  refine wpAny_bind (al ?_)
  simp only [Option.isNone_none, if_true]
  exact wpAny_pure h
structure ZSt (h : Heap) (z TI TO i1 i2 l1 l2 : Addr) (k1 k2 : Nat) : Prop where
  zip : ZAt h z TI TO
  pI : IsPair h TI (.ref i1) (.ref i2)
  pO : ∃ a b, IsPair h TO a b
  j1 : h.IsListIter i1 l1 k1
  j2 : h.IsListIter i2 l2 k2
theorem ZSt.keep {h h' : Heap} (Z : ZSt h z TI TO i1 i2 l1 l2 k1 k2) (k : ∀ c ∈ [z, TI, TO, i1, i2], ∀ o, h.get? c = some o → h'.get? c = some o) : ZSt h' z TI TO i1 i2 l1 l2 k1 k2 := by
  obtain ⟨zip, pI, ⟨a, b, pO⟩, j1, j2⟩ := Z
  refine ⟨?_, k TI (by simp) _ pI, ⟨a, b, k TO (by simp) _ pO⟩, j1.at fun o q => k i1 (by simp) o q, j2.at fun o q => k i2 (by simp) o q⟩
  rcases zip with ⟨T, f, e⟩ | e
  · exact .inl ⟨T, f, k z (by simp) _ e⟩
  · exact .inr (k z (by simp) _ e)
theorem ZSt.obj {h : Heap} (Z : ZSt h z TI TO i1 i2 l1 l2 k1 k2) : ∀ c ∈ [z, TI, TO, i1, i2], ∃ o, h.get? c = some o ∧ ∀ v, o.data ≠ .cell v := by
  obtain ⟨zip, pI, ⟨a, b, pO⟩, ⟨o1, e1, _, d1⟩, ⟨o2, e2, _, d2⟩⟩ := Z
  intro c hc
  obtain ⟨g, f, ez⟩ := zip.obj
  have e' : c = z ∨ c = TI ∨ c = TO ∨ c = i1 ∨ c = i2 := by simpa using hc
  rcases e' with q | q | q | q | q
  · rw [q]; exact ⟨_, ez, fun v q => nomatch q⟩
  · rw [q]; exact ⟨_, pI, fun v q => nomatch q⟩
  · rw [q]; exact ⟨_, pO, fun v q => nomatch q⟩
  · rw [q]; exact ⟨o1, e1, fun v q => by rw [d1] at q; cases q⟩
  · rw [q]; exact ⟨o2, e2, fun v q => by rw [d2] at q; cases q⟩
theorem z_item {Q : Value → Shared → Prop} (D : ZipApart z TI TO i1 i2 l1 l2) (Z : ZSt s.heap z TI TO i1 i2 l1 l2 k1 k2) (q1 : s.heap.IsList l1 xs) (q2 : s.heap.IsList l2 ys) (ex : xs[k1]? = some x) (ey : ys[k2]? = some y)
    (fin : ∀ h', ZSt h' z TI TO i1 i2 l1 l2 (k1 + 1) (k2 + 1) → IsPair h' s.heap.objs.size x y → h'.objs.size = s.heap.objs.size + 1 → (∀ c o, c ∉ [z, TI, TO, i1, i2] → s.heap.get? c = some o → h'.get? c = some o) → Q (.ref s.heap.objs.size) { s with heap := h' }) :
    wpAny (model prog w) A (Builtin.«zip.__next__» ⟨[.ref z], []⟩) (fun r s' => ∃ v, r = .done (.ret v) ∧ Q v s') E s := by
  obtain ⟨zip, pI, ⟨a, b, pO⟩, j1, j2⟩ := Z
  have fin' : ∀ h', ZAt h' z TI TO → (∃ a b, IsPair h' TO a b) → h'.IsListIter i1 l1 (k1 + 1) → h'.IsListIter i2 l2 (k2 + 1) → IsPair h' s.heap.objs.size x y → h'.objs.size = s.heap.objs.size + 1 →
      (∀ c o, c ≠ z → c ≠ TO → c ≠ i1 → c ≠ i2 → s.heap.get? c = some o → h'.get? c = some o) → Q (.ref s.heap.objs.size) { s with heap := h' } := fun h' a1 a2 a3 a4 a5 a6 a7 =>
    fin h' ⟨a1, a7 _ _ D.TIz D.TITO D.TIi1 D.TIi2 pI, a2, a3, a4⟩ a5 a6 fun c o hc q => by
      simp only [List.mem_cons, List.not_mem_nil, or_false, not_or] at hc
      exact a7 c o hc.1 hc.2.2.1 hc.2.2.2.1 hc.2.2.2.2 q
  rcases zip with ⟨T, f, hz⟩ | hz
  · cases al : s.heap.get? T with
    | none => exact z_free_item D hz (fun A' E' R h => z_free1 hz al h) pI pO j1 j2 q1 q2 ex ey fun h' a1 a2 a3 a4 a5 a6 a7 => fin' h' (.inl ⟨_, _, a1⟩) ⟨_, _, a2⟩ a3 a4 a5 a6 a7
    | some oT => exact zip_next_item_held D hz al pI j1 j2 q1 q2 ex ey fun h' a1 a3 a4 a5 a6 a7 => fin' h' (.inl ⟨_, _, a1⟩) ⟨_, _, a7 _ _ D.TOz D.TOi1 D.TOi2 pO⟩ a3 a4 a5 a6 fun c o n1 _ n3 n4 => a7 c o n1 n3 n4
  · exact z_free_item D hz (fun A' E' R h => z_free0 hz h) pI pO j1 j2 q1 q2 ex ey fun h' a1 a2 a3 a4 a5 a6 a7 => fin' h' (.inl ⟨_, _, a1⟩) ⟨_, _, a2⟩ a3 a4 a5 a6 a7
theorem z_end {Q : Fin → Shared → Prop} (hh : A.handled = none) (D : ZipApart z TI TO i1 i2 l1 l2) (Z : ZSt s.heap z TI TO i1 i2 l1 l2 k1 k2) (q1 : s.heap.IsList l1 xs) (q2 : s.heap.IsList l2 ys) (en : xs[k1]? = none ∨ ys[k2]? = none)
    (fin : ∀ h' e, (∀ c o, c ∉ [z, TI, TO, i1, i2] → s.heap.get? c = some o → h'.get? c = some o) → (∃ o, h'.get? e = some o ∧ o.cls = .type "StopIteration") → E (.ref e) { s with heap := h' }) :
    wpAny (model prog w) A (Builtin.«zip.__next__» ⟨[.ref z], []⟩) Q E s := by
  obtain ⟨zip, pI, ⟨a, b, pO⟩, j1, j2⟩ := Z
  have fin' : ∀ h' e, (∀ c o, c ≠ z → c ≠ TO → c ≠ i1 → c ≠ i2 → s.heap.get? c = some o → h'.get? c = some o) → (∃ o, h'.get? e = some o ∧ o.cls = .type "StopIteration") → E (.ref e) { s with heap := h' } := fun h' e a1 a2 => fin h' e (fun c o hc q => by
    simp only [List.mem_cons, List.not_mem_nil, or_false, not_or] at hc
    exact a1 c o hc.1 hc.2.2.1 hc.2.2.2.1 hc.2.2.2.2 q) a2
  rcases zip with ⟨T, f, hz⟩ | hz
  · cases al : s.heap.get? T with
    | none => exact z_free_end hh D hz (fun A' E' R h => z_free1 hz al h) pI pO j1 j2 q1 q2 en fin'
    | some oT => exact zip_next_end_held hh D hz al pI j1 j2 q1 q2 en fun h' e a1 a2 => fin' h' e (fun c o n1 _ n3 n4 => a1 c o n1 n3 n4) a2
  · exact z_free_end hh D hz (fun A' E' R h => z_free0 hz h) pI pO j1 j2 q1 q2 en fin'
end
end L2


namespace L2
open PySem PySem.Spec PyProof.Rows
section
variable {prog : Program} {w : World} {A : Around} {E : Value → Shared → Prop} {s : Shared} {e z TI TO i1 i2 l1 l2 : Addr} {k1 k2 : Nat} {xs ys : Array Value} {x y old : Value}
theorem z_next {Q : Value → Shared → Prop} (D : ZipApart z TI TO i1 i2 l1 l2) (Z : ZSt s.heap z TI TO i1 i2 l1 l2 k1 k2) (q1 : s.heap.IsList l1 xs) (q2 : s.heap.IsList l2 ys) (ex : xs[k1]? = some x) (ey : ys[k2]? = some y)
    (fin : ∀ h', ZSt h' z TI TO i1 i2 l1 l2 (k1 + 1) (k2 + 1) → IsPair h' s.heap.objs.size x y → h'.objs.size = s.heap.objs.size + 1 → (∀ c o, c ∉ [z, TI, TO, i1, i2] → s.heap.get? c = some o → h'.get? c = some o) → Q (.ref s.heap.objs.size) { s with heap := h' }) :
    wpAny (model prog w) A (Builtin.SmallTypes.nextOf (.ref z)) Q E s := by
  obtain ⟨g, f, hz⟩ := Z.zip.obj
  have hT : s.TypeIs (.ref z) "zip" := ⟨_, hz, rfl⟩
  unfold Builtin.SmallTypes.nextOf
  exact wpAny_bind (wpAny_callSpecial?_slot (name := Str.ofString "__next__") hT F.slot_zip_next
    (wpAny_call_entry F.slot_zip_next hT F.entry_zip_next (z_item D Z q1 q2 ex ey fun h' a1 a2 a3 a4 => wpAny_pure (fin h' a1 a2 a3 a4)) (F.args_zip_next_1 _)))
theorem z_stop {Q : Value → Shared → Prop} (hh : A.handled = none) (D : ZipApart z TI TO i1 i2 l1 l2) (Z : ZSt s.heap z TI TO i1 i2 l1 l2 k1 k2) (q1 : s.heap.IsList l1 xs) (q2 : s.heap.IsList l2 ys) (en : xs[k1]? = none ∨ ys[k2]? = none)
    (fin : ∀ h' e, (∀ c o, c ∉ [z, TI, TO, i1, i2] → s.heap.get? c = some o → h'.get? c = some o) → (∃ o, h'.get? e = some o ∧ o.cls = .type "StopIteration") → E (.ref e) { s with heap := h' }) :
    wpAny (model prog w) A (Builtin.SmallTypes.nextOf (.ref z)) Q E s := by
  obtain ⟨g, f, hz⟩ := Z.zip.obj
  have hT : s.TypeIs (.ref z) "zip" := ⟨_, hz, rfl⟩
  unfold Builtin.SmallTypes.nextOf
  exact wpAny_bind (wpAny_callSpecial?_slot (name := Str.ofString "__next__") hT F.slot_zip_next
    (wpAny_call_entry F.slot_zip_next hT F.entry_zip_next (z_end hh D Z q1 q2 en fin) (F.args_zip_next_1 _)))
theorem ez_item {i : Nat} {Q : Option Value → Shared → Prop} (D : ZipApart z TI TO i1 i2 l1 l2) (ne : e ∉ [z, TI, TO, i1, i2]) (he : IsEnum s.heap e z ((i : Nat) : Int) old) (Z : ZSt s.heap z TI TO i1 i2 l1 l2 k1 k2) (q1 : s.heap.IsList l1 xs) (q2 : s.heap.IsList l2 ys) (ex : xs[k1]? = some x) (ey : ys[k2]? = some y)
    (fin : ∀ h' tk, IsEnumOut h' e z ((i : Int) + 1) (.ref s.heap.objs.size) (s.heap.objs.size + 1) → ZSt h' z TI TO i1 i2 l1 l2 (k1 + 1) (k2 + 1) → IsPair h' s.heap.objs.size x y → h'.get? (s.heap.objs.size + 1) = some { cls := .type "tuple", data := .seq #[.int i tk, .ref s.heap.objs.size] } →
      h'.objs.size = s.heap.objs.size + 2 → (∀ c o, c ∉ [e, z, TI, TO, i1, i2] → s.heap.get? c = some o → h'.get? c = some o) → Q (some (.ref (s.heap.objs.size + 1))) { s with heap := h', toks := tk + 1 }) :
    wpAny (model prog w) A (pyNext (.ref e)) Q E s := by
  have hT : s.TypeIs (.ref e) "enumerate" := ⟨_, he, rfl⟩
  unfold pyNext
  refine wpAny_bind (wpAny_attempt (wpAny_callSpecial?_slot (name := Str.ofString "__next__") hT F.slot_enumerate_next (wpAny_call_entry F.slot_enumerate_next hT F.entry_enumerate_next ?_ (F.args_enumerate_next_1 _))))
  obtain ⟨hp, g, d, tk, os⟩ := s
  have elt : e < hp.objs.size := Heap.lt_size he
  show wpAny _ _ (field (.ref e) 2 >>= _) _ _ _
  refine wpAny_bind (wpAny_field (x := .ref z) he rfl rfl ?_)
  refine wpAny_bind (z_next D Z q1 q2 ex ey fun m1 Z1 P1 n1 kp1 => ?_)
  replace P1 : IsPair m1 hp.objs.size x y := P1
  replace n1 : m1.objs.size = hp.objs.size + 1 := n1
  have e1 : IsEnum m1 e z i old := kp1 e _ ne he
  show wpAny _ _ (field (.ref e) 3 >>= _) _ _ ⟨m1, g, d, tk, os⟩
  refine wpAny_bind (wpAny_field (x := rawInt i) e1 rfl rfl ?_); show wpAny _ _ (field (.ref e) 4 >>= _) _ _ ⟨m1, g, d, tk, os⟩
  refine wpAny_bind (wpAny_field (x := .none) e1 rfl rfl ?_); show wpAny _ _ (mkInt i >>= _) _ _ ⟨m1, g, d, tk, os⟩
  refine wpAny_bind (wpAny_mkInt ?_); show wpAny _ _ (setField (.ref e) 3 (rawInt ((i : Int) + 1)) >>= _) _ _ ⟨m1, g, d, tk + 1, os⟩
  refine wpAny_bind (wpAny_setField_rec e1 (by simp) fun m2 e2 s2 => ?_); replace s2 : Heap.SameBut e m1 m2 := s2; replace e2 : IsEnum m2 e z ((i : Int) + 1) old := e2
  show wpAny _ _ (setField (.ref e) 4 .none >>= _) _ _ ⟨m2, g, d, tk + 1, os⟩
  refine wpAny_bind (wpAny_setField_rec e2 (by simp) fun m3 e3 s3 => ?_); replace s3 : Heap.SameBut e m2 m3 := s3; replace e3 : IsEnum m3 e z ((i : Int) + 1) old := e3
  show wpAny _ _ (newTuple [.int i tk, .ref hp.objs.size] >>= _) _ _ ⟨m3, g, d, tk + 1, os⟩
  refine wpAny_bind (wpAny_newTuple ?_)
  have n3 : m3.objs.size = hp.objs.size + 1 := by rw [s3.1, s2.1, n1]
  have e4 : IsEnum (m3.push { cls := .type "tuple", data := .seq #[.int i tk, .ref hp.objs.size] }) e z ((i : Int) + 1) old := Heap.get?_push_of_some _ e3
  have t4 : (m3.push { cls := .type "tuple", data := .seq #[.int i tk, .ref hp.objs.size] }).get? (hp.objs.size + 1) = some { cls := .type "tuple", data := .seq #[.int i tk, .ref hp.objs.size] } := by rw [← n3]; exact Heap.get?_push_size _ rfl
  have n4 : (m3.push { cls := .type "tuple", data := .seq #[.int i tk, .ref hp.objs.size] }).objs.size = hp.objs.size + 2 := by rw [Heap.size_push, n3]
  have kp4 : ∀ c o, c ≠ e → m1.get? c = some o → (m3.push { cls := .type "tuple", data := .seq #[.int i tk, .ref hp.objs.size] }).get? c = some o := fun c o n q => Heap.get?_push_of_some _ (s3.extBut c o n (s2.extBut c o n q))
  rw [n3]
  generalize m3.push { cls := .type "tuple", data := .seq #[.int i tk, .ref hp.objs.size] } = m4 at e4 t4 n4 kp4 ⊢
  show wpAny _ _ (Builtin.SmallTypes.ownedTupleIsFree (.ref e) >>= _) _ _ ⟨m4, g, d, tk + 1, os⟩
  refine wpAny_bind ?_; unfold Builtin.SmallTypes.ownedTupleIsFree
  refine wpAny_bind (wpAny_field (x := .none) e4 rfl rfl (wpAny_pure ?_)); simp only [if_true]; refine wpAny_bind (wpAny_rule ?_)
  refine wpAny_bind (wpAny_field (x := old) e4 rfl rfl ?_)
  refine wpAny_bind (wpAny_setField_rec e4 (by simp) fun m5 e5 s5 => ?_); replace s5 : Heap.SameBut e m4 m5 := s5; replace e5 : IsEnum m5 e z ((i : Int) + 1) (.ref hp.objs.size) := e5
  show wpAny _ _ (Builtin.SmallTypes.ownedTupleHandOut (.ref e) (.ref (hp.objs.size + 1)) >>= _) _ _ ⟨m5, g, d, tk + 1, os⟩
  refine wpAny_bind ?_; unfold Builtin.SmallTypes.ownedTupleHandOut
  refine wpAny_bind (wpAny_setField_rec e5 (by simp) fun m6 e6 s6 => ?_); replace s6 : Heap.SameBut e m5 m6 := s6; replace e6 : IsEnumOut m6 e z ((i : Int) + 1) (.ref hp.objs.size) (hp.objs.size + 1) := e6
  refine wpAny_setField_rec e6 (by simp) fun m7 e7 s7 => ?_; replace s7 : Heap.SameBut e m6 m7 := s7; replace e7 : IsEnumOut m7 e z ((i : Int) + 1) (.ref hp.objs.size) (hp.objs.size + 1) := e7
  have up : ∀ c o, c ≠ e → m4.get? c = some o → m7.get? c = some o := fun c o n q => s7.extBut c o n (s6.extBut c o n (s5.extBut c o n q))
  have neq : ∀ c ∈ [z, TI, TO, i1, i2], c ≠ e := fun c hc q => ne (q ▸ hc)
  refine wpAny_bind (wpAny_letGo (wpAny_pure ⟨_, rfl, wpAny_pure (fin m7 tk e7 (Z1.keep fun c hc o q => up c o (neq c hc) (kp4 c o (neq c hc) q)) (up _ _ (Nat.ne_of_gt elt) (kp4 _ _ (Nat.ne_of_gt elt) P1)) (up _ _ (Nat.ne_of_gt (Nat.lt_succ_of_lt elt)) t4) ?_ fun c o hc q => ?_)⟩))
  · rw [s7.1, s6.1, s5.1, n4]
  · have h2 : c ≠ e ∧ c ∉ [z, TI, TO, i1, i2] := ⟨fun q => hc (by rw [q]; exact List.mem_cons_self), fun q => hc (List.mem_cons_of_mem _ q)⟩
    exact up c o h2.1 (kp4 c o h2.1 (kp1 c o h2.2 q))
theorem ez_end {i : Int} {Q : Option Value → Shared → Prop} (hh : A.handled = none) (D : ZipApart z TI TO i1 i2 l1 l2) (he : IsEnum s.heap e z i old) (Z : ZSt s.heap z TI TO i1 i2 l1 l2 k1 k2) (q1 : s.heap.IsList l1 xs) (q2 : s.heap.IsList l2 ys) (en : xs[k1]? = none ∨ ys[k2]? = none)
    (fin : ∀ h', (∀ c o, c ∉ [z, TI, TO, i1, i2] → s.heap.get? c = some o → h'.get? c = some o) → Q none { s with heap := h' }) : wpAny (model prog w) A (pyNext (.ref e)) Q E s := by
  have hT : s.TypeIs (.ref e) "enumerate" := ⟨_, he, rfl⟩
  unfold pyNext
  refine wpAny_bind (wpAny_attempt (wpAny_callSpecial?_slot (name := Str.ofString "__next__") hT F.slot_enumerate_next (wpAny_call_entry F.slot_enumerate_next hT F.entry_enumerate_next ?_ (F.args_enumerate_next_1 _))))
  show wpAny _ _ (field (.ref e) 2 >>= _) _ _ _
  refine wpAny_bind (wpAny_field (x := .ref z) he rfl rfl ?_)
  refine wpAny_bind (z_stop hh D Z q1 q2 en fun h' c kp ⟨o, ho, hc⟩ => ?_)
  exact wpAny_bind (wpAny_isInstance (T := "StopIteration") (b := true) ⟨o, ho, hc⟩ isSubtype_stop (wpAny_pure (fin h' kp)))
end
end L2


namespace L2
open PySem PySem.Spec PyProof.Rows
/-- a heap without its last object -/
def popH (h : Heap) : Heap := ⟨h.objs.pop, h.life⟩
theorem popH_lt {h : Heap} {b : Addr} (l : b < h.objs.size - 1) : (popH h).get? b = h.get? b := by
  unfold popH Heap.get?
  show (match h.objs.pop[b]? with | some ⟨_, _, .freed, _⟩ => none | o => o) = _
  rw [Array.getElem?_pop, if_pos l]
  rfl
theorem popH_size (h : Heap) : (popH h).objs.size = h.objs.size - 1 := by
  unfold popH
  simp
theorem popH_up {h : Heap} {b : Addr} {o : Obj} (e : (popH h).get? b = some o) : h.get? b = some o := by
  have l := Heap.lt_size e
  rw [popH_size] at l
  rw [popH_lt l] at e
  exact e
def Itez (K : PySem.W.Frag) (a b : Addr) : It :=
  ⟨fun i H => ∃ (xs ys : List V) (x y : V), SqL K H a xs ∧ SqL K H b ys ∧ xs[i]? = some x ∧ ys[i]? = some y,
    fun i H v H' => ∃ (T P : Addr) (x y : V), v = .ref T ∧ H P = none ∧ (upd H P (.tup [x, y])) T = none ∧ H' = upd (upd H P (.tup [x, y])) T (.tup [.int (i : Nat), .ref P]) ∧ (∀ xs, SqL K H a xs → xs[i]? = some x) ∧ ∀ ys, SqL K H b ys → ys[i]? = some y,
    fun i H => ∃ xs ys : List V, SqL K H a xs ∧ SqL K H b ys ∧ (xs.length ≤ i ∨ ys.length ≤ i)⟩
theorem turn_ez {P : Program} {w : World} {K : PySem.W.Frag} {elts : List Expr} {kk : Nat} {tpos : Pos} {a b e z TI TO i1 i2 : Addr} (D : ZipApart z TI TO i1 i2 a b) (ne : e ∉ [z, TI, TO, i1, i2]) :
    Turn P w K (.Tuple elts kk tpos) (Itez K a b) [e, z, TI, TO, i1, i2] e (fun i h => (∃ old, IsEnum h e z ((i : Nat) : Int) old) ∧ ZSt h z TI TO i1 i2 a b i i) where
  mem := by simp
  obj := fun i h st c hc => by
    obtain ⟨⟨old, he⟩, Z⟩ := st
    rcases List.mem_cons.mp hc with q | q
    · rw [q]; exact ⟨_, he, fun v q => nomatch q⟩
    · exact Z.obj c q
  keep := fun i h h' st k => by
    obtain ⟨⟨old, he⟩, Z⟩ := st
    exact ⟨⟨old, k e (by simp) _ he⟩, Z.keep fun c hc o q => k c (List.mem_cons_of_mem _ hc) o q⟩
  item := by
    intro X hP hw hK hc i pins s σ H E I hf st hg
    subst hP hw hK
    obtain ⟨⟨old, he⟩, Z⟩ := st
    obtain ⟨xs, ys, x, y, hqx, hqy, hx, hy⟩ := hg
    obtain ⟨its, rv, p, _⟩ := I.list hqx
    obtain ⟨its2, rv2, p2, _⟩ := I.list hqy
    obtain ⟨u, hu, ru⟩ := rv.get hx
    obtain ⟨u2, hu2, ru2⟩ := rv2.get hy
    have elt : e < s.heap.objs.size := Heap.lt_size he
    refine ez_item D ne he Z p.isList p2.isList (x := u) (y := u2) (by simpa using hu) (by simpa using hu2) fun h' tk eo Z' hP' hT' sz' kp => ?_
    refine ⟨_, rfl, wpAny_letOwnedTupleGo_enum (s := { s with heap := h', toks := tk + 1 }) eo fun h'' he'' sb => ?_⟩
    replace sb : Heap.SameBut e h' h'' := sb
    have sz2 : h''.objs.size = s.heap.objs.size + 2 := by rw [sb.1, sz']
    have hP2 : h''.get? s.heap.objs.size = some { cls := .type "tuple", data := .seq #[u, u2] } := (sb.2 _ (Nat.ne_of_gt elt)).trans hP'
    have hT2 : h''.get? (s.heap.objs.size + 1) = some { cls := .type "tuple", data := .seq #[.int i tk, .ref s.heap.objs.size] } := (sb.2 _ (Nat.ne_of_gt (Nat.lt_succ_of_lt elt))).trans hT'
    have lowP : ∀ c, c < s.heap.objs.size + 1 → (popH h'').get? c = h''.get? c := fun c hc => popH_lt (by rw [sz2]; exact hc)
    have newP : ObjOk X.prog X.w (upd H s.heap.objs.size (.tup [x, y])) (popH h'') s.heap.objs.size (.tup [x, y]) :=
      ⟨by show 2 ≤ sizeLine; decide, [u, u2], .cons ru (.cons ru2 .nil), ⟨_, (lowP _ (Nat.lt_succ_self _)).trans hP2, rfl, _, rfl⟩⟩
    have I1 : Inv X pins σ (upd H s.heap.objs.size (.tup [x, y])) { s with heap := popH h'', toks := tk + 1 } :=
      I.turnedNew (t' := tk + 1) (ch := [e, z, TI, TO, i1, i2]) (fun c o hb q => (lowP c (Nat.lt_succ_of_lt (Heap.lt_size q))).trans ((sb.2 c (fun q' => hb (by rw [q']; exact List.mem_cons_self))).trans (kp c o hb q))) hf (Nat.le_refl _) newP
    have hn : (upd H s.heap.objs.size (.tup [x, y])) (s.heap.objs.size + 1) = none := by
      rw [upd_ne (Nat.succ_ne_self _)]
      exact I.hok.fresh (Nat.le_succ _)
    have newT : ObjOk X.prog X.w (upd (upd H s.heap.objs.size (.tup [x, y])) (s.heap.objs.size + 1) (.tup [.int (i : Nat), .ref s.heap.objs.size])) h'' (s.heap.objs.size + 1) (.tup [.int (i : Nat), .ref s.heap.objs.size]) :=
      ⟨by show 2 ≤ sizeLine; decide, [.int i tk, .ref s.heap.objs.size], .cons ⟨_, rfl⟩ (.cons rfl .nil), ⟨_, hT2, rfl, _, rfl⟩⟩
    have I2 : Inv X pins σ (upd (upd H s.heap.objs.size (.tup [x, y])) (s.heap.objs.size + 1) (.tup [.int (i : Nat), .ref s.heap.objs.size])) { s with heap := h'', toks := tk + 1 } :=
      I1.laid (t' := tk + 1) (fun c o q => popH_up q) (by show (popH h'').objs.size ≤ _; rw [popH_size, sz2]; exact Nat.le_refl _) newT
    refine ⟨.ref (s.heap.objs.size + 1), _, I2, rfl, ⟨_, s.heap.objs.size, x, y, rfl, I.hok.fresh (Nat.le_refl _), hn, rfl, fun l hl => by rw [I.list_inj hl hqx]; exact hx, fun l hl => by rw [I.list_inj hl hqy]; exact hy⟩, ⟨⟨.ref s.heap.objs.size, ?_⟩, ?_⟩, fun c hcm => ?_⟩
    · have e1 : ((i + 1 : Nat) : Int) = (i : Int) + 1 := by omega
      rw [e1]
      exact he''
    · exact Z'.keep fun c hc o q => (sb.2 c fun q' => ne (q' ▸ hc)).trans q
    · have hlt : c < s.heap.objs.size := by
        rcases List.mem_cons.mp hcm with q | q
        · rw [q]; exact elt
        · obtain ⟨o, q1, _⟩ := Z.obj c q
          exact Heap.lt_size q1
      rw [upd_ne (Nat.ne_of_lt (Nat.lt_succ_of_lt hlt)), upd_ne (Nat.ne_of_lt hlt)]
      exact (hf c hcm).1
  done := by
    intro X hP hw hK hc i pins s σ H E I hf st hg
    subst hP hw hK
    obtain ⟨⟨old, he⟩, Z⟩ := st
    obtain ⟨xs, ys, hqx, hqy, hend⟩ := hg
    obtain ⟨its, rv, p, _⟩ := I.list hqx
    obtain ⟨its2, rv2, p2, _⟩ := I.list hqy
    have l1 := rv.length
    have l2 := rv2.length
    have en : its.toArray[i]? = none ∨ its2.toArray[i]? = none := by
      rcases hend with q | q
      · exact .inl (by simp; omega)
      · exact .inr (by simp; omega)
    exact ez_end (I.ok.hd hc) D he Z p.isList p2.isList en fun h' kp => ⟨rfl, I.turnedL (t' := s.toks) (ch := [e, z, TI, TO, i1, i2]) (fun c o hb q => kp c o (fun q' => hb (List.mem_cons_of_mem _ q')) q) hf⟩
  self := fun A i s Q E st h => by
    obtain ⟨⟨old, he⟩, _⟩ := st
    exact wpAny_pyIter_enum he h
theorem meets_enum_zip (z TI TO : Addr) :
    Meets (Builtin.«enumerate.__new__» ⟨[.type "enumerate", .ref z], []⟩) (fun _ R s => IsZip s.heap z TI TO .none ∧
      R (.ok (.ret (.ref s.heap.objs.size))) { s with heap := s.heap.push { cls := .type "enumerate", data := .fields #[.none, .bool false, .ref z, rawInt 0, .none, .none] } }) :=
  .of_wp fun prog w A R s h => by
    obtain ⟨hp, g, d, tk, os⟩ := s; obtain ⟨hz, h⟩ := h
    have hsub := sub_enumerate
    have it : ∀ {A' : Around} {E : Value → Shared → Prop} {Q : Value → Shared → Prop}, Q (.ref z) ⟨hp, g, d, tk, os⟩ → wpAny (model prog w) A' (pyIter (.ref z)) Q E ⟨hp, g, d, tk, os⟩ := fun q => wpAny_pyIter_zip (s := ⟨hp, g, d, tk, os⟩) hz q
    wp_walk using AutoSeq1.wpAny_loadPart' hz, it
    refine wpAny_stack_any fun st => wpAny_pure ?_
    split
    · rename_i c _ _ _ _ _
      cases (c == Value.type "enumerate")
      all_goals
        wp_walk using AutoSeq1.wpAny_loadPart' hz, it
        exact ⟨_, rfl, h⟩
    · wp_walk using AutoSeq1.wpAny_loadPart' hz, it
      exact ⟨_, rfl, h⟩
theorem call_enum_zip {prog : Program} {w : World} {A : Around} {E : Value → Shared → Prop} {s : Shared} {z TI TO : Addr} {Q : Value → Shared → Prop} (hz : IsZip s.heap z TI TO .none)
    (h : ∀ h', IsEnum h' s.heap.objs.size z 0 .none → h'.objs.size = s.heap.objs.size + 1 → (∀ b o, s.heap.get? b = some o → h'.get? b = some o) → Q (.ref s.heap.objs.size) { s with heap := h' }) :
    wpAny (model prog w) A (call (.type "enumerate") [.ref z]) Q E s := by
  refine callType_new F.called_enumerate (by decide) (F.typeCall_enumerate_1 _) (F.newCall_enumerate_1 _) (fun obj => F.args_object_init_2 obj _) F.entry_enumerate_new (meets_enum_zip z TI TO) ⟨hz, ?_⟩
  have he : IsEnum (s.heap.push { cls := .type "enumerate", data := .fields #[.none, .bool false, .ref z, rawInt 0, .none, .none] }) s.heap.objs.size z 0 .none := Heap.get?_push_size _ rfl
  exact ⟨⟨_, he, rfl⟩, h _ he (Heap.size_push ..) fun b o x => Heap.get?_push_of_some _ x⟩
/-- over enumerate(zip(list, list)) -/
def iEz (K : PySem.W.Frag) (ta : TA) : TI := fun σ H R => ta σ H fun vs H1 => ∃ a b xs ys, vs = [.ref a, .ref b] ∧ SqL K H1 a xs ∧ SqL K H1 b ys ∧ R (Itez K a b) H1
theorem pi_ez {X : Cx} {e e2 : Expr} {ta : TA} {p p2 q pos tpos : Pos} {elts : List Expr} {kk : Nat} (hg : Gl X "enumerate") (hm : X.mg "enumerate" = none) (hg2 : Gl X "zip") (hm2 : X.mg "zip" = none) (ha : PA X [e, e2] ta)
    (hs : starEach [e, e2] X.env = (false, eval e X.env) :: starEach [e2] X.env := by rfl) (hpl : (backTo q (starEach [e2] X.env)).any (·.1) = false := by rfl)
    (na : starEach [.Call (.Name "zip" p2) [e, e2] [] q] X.env = (false, eval (.Call (.Name "zip" p2) [e, e2] [] q) X.env) :: starEach [] X.env := by rfl) :
    PI X (.Tuple elts kk tpos) (.Call (.Name "enumerate" p) [.Call (.Name "zip" p2) [e, e2] [] q] [] pos) (iEz X.K ta) := by
  refine ⟨fun pins s σ H R I h => ?_⟩
  refine Call_ (ld_blt I hg hm boot_enumerate (PyProof.Rows.callWith_type1 (PyProof.Rows.args_cons ?_ na) na rfl))
  refine Call_ (ld_blt I hg2 hm2 PyProof.Rows.boot_zip (PyProof.Rows.callWith_type1 (thn (ha.run q pins s σ H _ I h) fun us s1 ⟨vs, H1, I1, r1, q1⟩ => ?_) hs hpl))
  obtain ⟨a, b, xs, ys, ex, hqx, hqy, fin⟩ := q1
  subst ex
  cases r1 with
  | cons r rr =>
  cases rr with
  | cons r' rr =>
  cases rr
  cases r
  cases r'
  obtain ⟨its, rv, p1, _⟩ := I1.list hqx
  obtain ⟨its2, rv2, p3, _⟩ := I1.list hqy
  have la : a < s1.heap.objs.size := p1.lt
  have lb : b < s1.heap.objs.size := p3.lt
  refine call_zip_2 p1.isList p3.isList fun h' hz hTI hTO h1 h2 hsz hk => PyProof.Rows.args_nil ?_
  refine call_enum_zip (s := { s1 with heap := h' }) hz fun h2' he hsz2 hk2 => wpAny_pyIter_enum he ?_
  have hsz' : ({ s1 with heap := h' } : Shared).heap.objs.size = s1.heap.objs.size + 5 := hsz
  rw [hsz'] at he ⊢
  have far : ∀ c o, s1.heap.get? c = some o → h2'.get? c = some o := fun c o e => hk2 _ _ (hk _ _ e)
  have I2 : Inv X pins σ H1 { s1 with heap := h2' } := I1.kept (t' := s1.toks) far
  have Z : ZSt h2' (s1.heap.objs.size + 4) (s1.heap.objs.size + 2) (s1.heap.objs.size + 3) s1.heap.objs.size (s1.heap.objs.size + 1) a b 0 0 :=
    ⟨.inr (hk2 _ _ hz), hk2 _ _ hTI, ⟨_, _, hk2 _ _ hTO⟩, h1.at fun o e => hk2 _ _ e, h2.at fun o e => hk2 _ _ e⟩
  refine ⟨s1.heap.objs.size + 5, [s1.heap.objs.size + 5, s1.heap.objs.size + 4, s1.heap.objs.size + 2, s1.heap.objs.size + 3, s1.heap.objs.size, s1.heap.objs.size + 1], _, _, H1, rfl, I2, turn_ez (PySem.W.ktu_apart s1.heap.objs.size a b la lb) ?_, ⟨⟨.none, he⟩, Z⟩, fun c hcm => ?_, fin⟩
  · simp only [List.mem_cons, List.not_mem_nil, or_false, not_or]
    have key : ∀ n : Nat, ¬ n + 5 = n + 4 ∧ ¬ n + 5 = n + 2 ∧ ¬ n + 5 = n + 3 ∧ ¬ n + 5 = n ∧ ¬ n + 5 = n + 1 := fun n => by omega
    exact key _
  · have hle : s1.heap.objs.size ≤ c := by
      simp only [List.mem_cons, List.not_mem_nil, or_false] at hcm
      rcases hcm with z | z | z | z | z | z <;> rw [z] <;> omega
    exact I1.fpOk hle (I1.hok.fresh hle)
end L2


namespace L2
open PySem PySem.Spec PyProof.Rows RT
/-! list(reversed(list)) -/
section
variable {prog : Program} {w : World} {A : Around} {E : Value → Shared → Prop} {s : Shared}
theorem ext_rev {it l S : Addr} {items : Array Value} {res : Value} {c0 : Nat} {R : Result → Shared → Prop} (hh : A.handled = none) (hit : s.heap.IsRevIter it l ((items.size : Int) - 1)) (hl : s.heap.IsList l items) (nl : l ≠ it) (nS : S ≠ it) (nSl : S ≠ l) (hn : items.size ≤ sizeLine)
    (hS : s.heap.get? S = some { cls := .type "list", data := .seq #[] c0 })
    (fin : ∀ s' acc' c', Moved [S, it] (fun g g' => g' = g) s s' → s'.heap.get? S = some { cls := .type "list", dict := none, data := .seq acc' c', slots := #[] } → ItemsOf (fun i v => items[items.size - 1 - i]? = some v) acc' items.size → R (.ok (.ret res)) s') :
    wpAny (model prog w) A.in1 (Builtin.List.listExtendWith (.ref S) (.ref it) res)
      (fun r s' => match r with | .done f => R (.ok f) s' | .again c' => c'.quiet = true ∧ codeAny (model prog w) A c' R s') (fun e s' => R (.error e) s') s := by
  have W := (Walks.listRev (prog := prog) (w := w) (A := A.in1) hh it l nl items).toS
  have sf : S ∉ [it, l] := by simp only [List.mem_cons, List.not_mem_nil, or_false, not_or]; exact ⟨nS, nSl⟩
  have tI : s.TypeIs (.ref it) "list_reverseiterator" := hit.typeIs
  have no : Builtin.List.listSameRef (.ref S) (.ref it) = false := by simp [Builtin.List.listSameRef, nS]
  unfold Builtin.List.listExtendWith
  refine wpAny_bind (wpAny_typeOf tI ?_); rw [if_neg (by rw [no]; decide)]; refine wpAny_bind (wpAny_pyIter_revIter hit ?_); refine wpAny_bind (wpAny_holding ?_)
  unfold Builtin.List.listLengthHint
  refine wpAny_bind (wpAny_specialOf tI nolen_lri ?_); show wpAny _ A.in1 (specialOf (Value.ref it) (Str.ofString "__length_hint__") >>= _) _ _ _
  refine wpAny_bind (wpAny_specialOf tI hint_lri ?_); generalize e0 : ("list_reverseiterator.__length_hint__" : String) = x0; wp_delta
  rw [show splitId x0 = some ("list_reverseiterator", "__length_hint__") from by subst e0; decide +kernel]; subst e0
  refine wpAny_bind (wpAny_isInstance (b := true) tI (by rw [isSubtype_type]; kernel_rfl) ?_); refine wpAny_pure ?_; rw [if_neg (by decide)]
  have e1 : ((items.size : Nat) : Int) - 1 - ((0 : Nat) : Int) = (items.size : Int) - 1 := by omega
  refine wpAny_pure ⟨plainId_quiet F.plain_extend_loop _, codeAny_extend_loopS W hn _ sf _ items.size 0 _ _ _ rfl (Nat.zero_le _) ⟨Nat.zero_le _, by rw [e1]; exact hit, hl⟩ hS (ItemsOf.nil _) fun s' acc' c' hm hS' hacc => fin s' acc' c' hm hS' hacc⟩
theorem init_rev {it l S : Addr} {items : Array Value} {R : Result → Shared → Prop} (hh : A.handled = none) (hit : s.heap.IsRevIter it l ((items.size : Int) - 1)) (hl : s.heap.IsList l items) (nl : l ≠ it) (nS : S ≠ it) (nSl : S ≠ l) (hn : items.size ≤ sizeLine)
    (hS : s.heap.get? S = some { cls := .type "list", data := .seq #[] })
    (fin : ∀ s' acc' c', Moved [S, it] (fun g g' => g' = g) s s' → s'.heap.get? S = some { cls := .type "list", dict := none, data := .seq acc' c', slots := #[] } → ItemsOf (fun i v => items[items.size - 1 - i]? = some v) acc' items.size → R (.ok (.ret .none)) s') :
    wpAny (model prog w) A.in1 (Builtin.«list.__init__» ⟨[.ref S, .ref it], []⟩)
      (fun r s' => match r with | .done f => R (.ok f) s' | .again c' => c'.quiet = true ∧ codeAny (model prog w) A c' R s') (fun e s' => R (.error e) s') s := by
  show wpAny _ A.in1 (do let old ← Builtin.List.listItems (.ref S); Builtin.List.listUpdate (.ref S) (fun _ => #[]); letGo old.toList.reverse; Builtin.List.listExtendWith (.ref S) (.ref it) .none) _ _ s
  refine wpAny_bind ?_; unfold Builtin.List.listItems; refine wpAny_bind (wpAny_seqItems hS rfl (wpAny_pure ?_))
  show wpAny _ A.in1 (updateSeq S (fun _ => #[]) >>= fun _ => letGo (#[] : Array Value).toList.reverse >>= fun _ => Builtin.List.listExtendWith (.ref S) (.ref it) .none) _ _ s
  refine wpAny_bind (wpAny_updateSeq hS rfl ?_); have hS2 := Heap.get?_update_self (Obj.mapSeq (fun _ => (#[] : Array Value))) hS rfl
  have oth : ∀ b o, b ≠ S → s.heap.get? b = some o → (s.heap.update S (Obj.mapSeq (fun _ => (#[] : Array Value)))).get? b = some o := fun b o n e => (Heap.get?_update_other _ _ (Ne.symm n)).trans e
  refine wpAny_bind (wpAny_letGo ?_)
  refine ext_rev (s := { s with heap := s.heap.update S (Obj.mapSeq (fun _ => (#[] : Array Value))) }) hh (hit.at fun o e => oth _ _ nS.symm e) (hl.at fun o e => oth _ _ nSl.symm e) nl nS nSl hn hS2 fun s' acc' c' hm hS' hacc => ?_
  have m0 : Moved [S, it] (fun g g' => g' = g) s { s with heap := s.heap.update S (Obj.mapSeq (fun _ => (#[] : Array Value))) } := (show Moved [S, it] (fun g g' => g' = g) s s from Moved.refl (fun _ => rfl)).then_heap (Nat.le_refl _) fun b o hb e => oth b o (fun h => hb (by rw [h]; exact List.mem_cons_self)) e
  exact fin s' acc' c' (Moved.trans (fun _ _ _ a b => b.trans a) m0 hm) hS' hacc
theorem call_list_rev {it l : Addr} {items : Array Value} {Q : Value → Shared → Prop} (hh : A.handled = none) (hit : s.heap.IsRevIter it l ((items.size : Int) - 1)) (hl : s.heap.IsList l items) (nl : l ≠ it) (hn : items.size ≤ sizeLine)
    (fin : ∀ (h' : Heap) (tk : Nat) (acc : Array Value) (c' : Nat), (∀ b o, b ≠ it → s.heap.get? b = some o → h'.get? b = some o) → h'.get? s.heap.objs.size = some { cls := .type "list", dict := none, data := .seq acc c', slots := #[] } → ItemsOf (fun i v => items[items.size - 1 - i]? = some v) acc items.size →
      Q (.ref s.heap.objs.size) { s with heap := h', toks := tk }) : wpAny (model prog w) A (call (.type "list") [.ref it]) Q E s := by
  obtain ⟨oi, hoi, _⟩ := id hit
  obtain ⟨ol, hol, _⟩ := id hl
  have n1 : s.heap.objs.size ≠ it := Nat.ne_of_gt (Heap.lt_size hoi)
  have n2 : s.heap.objs.size ≠ l := Nat.ne_of_gt (Heap.lt_size hol)
  refine callType_codes (Q₁ := fun obj s₁ => obj = .ref s.heap.objs.size ∧ s₁ = { s with heap := s.heap.push { cls := .type "list", data := .seq #[] } }) F.called_list (F.typeCall_list_1 _) F.entry_list_init (code_list_new _ ⟨rfl, rfl⟩) fun obj s1 h1 => ?_
  obtain ⟨rfl, rfl⟩ := h1
  have hS : (s.heap.push { cls := .type "list", data := .seq #[] }).get? s.heap.objs.size = some { cls := .type "list", data := .seq #[] } := Heap.get?_push_size _ rfl
  refine ⟨⟨_, hS, rfl⟩, F.args_list_init_2 _ _, init_rev (s := { s with heap := s.heap.push { cls := .type "list", data := .seq #[] } }) hh (hit.at fun o e => Heap.get?_push_of_some _ e) (hl.push _) nl n1 n2 hn hS fun s' acc' c' hm hS' hacc => ⟨rfl, ?_⟩⟩
  rw [Moved.eq_with hm]
  refine fin s'.heap s'.toks acc' c' (fun b o hb e => hm.heap b o (fun hmem => ?_) (Heap.get?_push_of_some _ e)) hS' hacc
  rcases List.mem_cons.mp hmem with z | z
  · exact absurd (Heap.lt_size e) (by rw [z]; exact Nat.lt_irrefl _)
  · exact hb (List.mem_singleton.mp z)
end
section
variable {X : Cx}
def tLstRev (K : PySem.W.Frag) (te : TE) : TE := fun σ H Q => te σ H fun v H1 => ∃ (a : Addr) (xs : List V), v = .ref a ∧ SqL K H1 a xs ∧ ∀ q, H1 q = none → Q (.ref q) (upd H1 q (.lst xs.reverse))
theorem pe_lstRev {e : Expr} {te : TE} {p p2 pos pos2 : Pos} (hc : X.calm = true) (hg : Gl X "list") (hm : X.mg "list" = none) (hg2 : Gl X "reversed") (hm2 : X.mg "reversed" = none) (he : PE X e te)
    (hs : starEach [e] X.env = (false, eval e X.env) :: starEach [] X.env := by rfl)
    (hs2 : starEach [.Call (.Name "reversed" p2) [e] [] pos2] X.env = (false, eval (.Call (.Name "reversed" p2) [e] [] pos2) X.env) :: starEach [] X.env := by rfl) :
    PE X (.Call (.Name "list" p) [.Call (.Name "reversed" p2) [e] [] pos2] [] pos) (tLstRev X.K te) := by
  refine ⟨fun pins s σ H Q I h => ?_⟩
  refine Call_ (ld_blt I hg hm boot_list (PyProof.Rows.callWith_type1 (args_cons (Call_ (ld_blt I hg2 hm2 PyProof.Rows.boot_reversed (PyProof.Rows.callWith_type1 (args_cons (thn (he.run pins s σ H _ I h) fun u s1 ⟨v, H1, I1, r1, q1⟩ => args_nil ?_) hs) hs rfl))) hs2) hs2 rfl))
  obtain ⟨a, xs, rfl, hq, q⟩ := q1
  obtain rfl : u = Value.ref a := r1
  obtain ⟨its, rv, pl, hz⟩ := I1.list hq
  refine call_reversed_list pl.isList (args_nil ?_)
  have k0 : ∀ b o, s1.heap.get? b = some o → (s1.heap.push (revObj a ((its.toArray.size : Int) - 1))).get? b = some o := fun b o e => Heap.get?_push_of_some _ e
  have I2 : Inv X pins σ H1 { s1 with heap := s1.heap.push (revObj a ((its.toArray.size : Int) - 1)) } := I1.kept (t' := s1.toks) k0
  have fp := I1.fpOk (H' := H1) (b := s1.heap.objs.size) (Nat.le_refl _) (I1.hok.fresh (Nat.le_refl _))
  have hl := pl.isList
  obtain ⟨ol, hol, _⟩ := id hl
  have nl : a ≠ s1.heap.objs.size := Nat.ne_of_lt (Heap.lt_size hol)
  have hn : its.toArray.size ≤ sizeLine := by rw [List.size_toArray, ← rv.length]; exact hz
  refine call_list_rev (s := { s1 with heap := s1.heap.push (revObj a ((its.toArray.size : Int) - 1)) }) (I1.ok.hd hc) ⟨_, Heap.get?_push_size _ rfl, rfl, rfl⟩ (hl.push _) nl hn fun h' tk acc c' kp hS hacc => ?_
  refine ⟨.ref (s1.heap.push (revObj a ((its.toArray.size : Int) - 1))).objs.size, upd H1 (s1.heap.push (revObj a ((its.toArray.size : Int) - 1))).objs.size (.lst xs.reverse), I2.turnedNew (t' := tk) (ch := [s1.heap.objs.size]) (fun b o hb e => kp b o (fun z => hb (by rw [z]; exact List.mem_singleton.mpr rfl)) e) (fun b hb => by rw [List.mem_singleton.mp hb]; exact fp) (Nat.le_refl _) ⟨by rw [List.length_reverse]; exact hz, acc.toList, c', vals_rev rv hacc, ?_⟩, rfl, q _ (I2.hok.fresh (Nat.le_refl _))⟩
  rw [hS]
end
end L2


namespace Toy
open PySem PySem.Spec L2 PyProof.Rows PySem.W
abbrev sIS : Stmt := top 38
abbrev NIS : List Str := ["spot", "term", "names", "calls", "parts", "scopes", "outer", "inner", "name", "_", "part", "number", "scope"]
theorem scIS : FnScope NIS ["spot", "term", "names", "calls"] (defScope sIS) := ⟨rfl, rfl, rfl, by decide +kernel, rfl, by decide +kernel, by decide +kernel⟩
def NK (ns : List (Key × V)) (N : NF) : Prop := ∀ x, (valV ns (.inr x)).isSome = N x
theorem NK.put {ns : List (Key × V)} {N : NF} (h : NK ns N) (x : Str) (v : V) : NK (putK ns (.inr x) v) (addN N x) := fun y => by
  rw [valV_put]
  unfold addN
  by_cases e : y = x
  · subst e
    simp
  · have e' : ¬ ((Sum.inr y : Key) = Sum.inr x) := fun z => e (Sum.inr.inj z)
    rw [if_neg e', h y, decide_eq_false e, Bool.false_or]
theorem parts_as (a b : PyData) (x : Str) : partsOf (.tuple [.str "as", a, .str x, b]) = [a, b] := by
  rw [partsOf_node fo_as]
  simp only [partsF, partsK, pk_free, pk_f, Bool.false_eq_true, if_false, if_true]
  rw [if_neg (by decide +kernel), if_neg (by decide +kernel)]
  rfl
theorem parts_reduce (a b c : PyData) (x : Str) : partsOf (.tuple [.str "reduce", a, .str x, b, c]) = [a, b, c] := by
  rw [partsOf_node fo_reduce]
  simp only [partsF, partsK, pk_free, pk_f, Bool.false_eq_true, if_false, if_true]
  rw [if_neg (by decide +kernel), if_neg (by decide +kernel)]
  rfl
theorem pk_params : PK "parameters" = false := by decide +kernel
theorem parts_def (a b ps : PyData) (x : Str) : partsOf (.tuple [.str "def", .str x, ps, a, b]) = [a, b] := by
  rw [partsOf_node fo_def]
  simp only [partsF, partsK, pk_free, pk_params, pk_f, Bool.false_eq_true, if_false, if_true]
  rw [if_neg (by decide +kernel), if_neg (by decide +kernel), if_neg (by decide +kernel), if_neg (by decide +kernel)]
  rfl
theorem dpl_snoc {K : PySem.W.Frag} {H : Hp} : ∀ {ws : List V} {gs : List PyData} {g : PyData}, DpAll K H ws (gs ++ [g]) → ∃ ws0 u, ws = ws0 ++ [u] ∧ DpAll K H ws0 gs ∧ Dp K H u g
  | _, [], g, .cons a .nil => ⟨[], _, rfl, .nil, a⟩
  | _, _ :: gs, g, .cons a b => by
    obtain ⟨ws0, u, rfl, h1, h2⟩ := dpl_snoc (gs := gs) b
    exact ⟨_ :: ws0, u, rfl, .cons a h1, h2⟩
theorem paired_snoc {α β : Type} {F : α → β → Prop} : ∀ {xs : List α} {ys : List β} {y : β}, Paired F xs (ys ++ [y]) → ∃ xs0 x, xs = xs0 ++ [x] ∧ Paired F xs0 ys ∧ F x y
  | _, [], y, .cons a .nil => ⟨[], _, rfl, .nil, a⟩
  | _, _ :: ys, y, .cons a b => by
    obtain ⟨xs0, x, rfl, h1, h2⟩ := paired_snoc (ys := ys) b
    exact ⟨_ :: xs0, x, rfl, .cons a h1, h2⟩
theorem in_ar (w : Str) : inV (.str w) [.str "as", .str "reduce"] = (decide (w = "as") || decide (w = "reduce")) := by
  have := inV_strs w ["as", "reduce"]
  rw [show ([.str "as", .str "reduce"] : List V) = (["as", "reduce"] : List Str).map V.str from rfl, this, Bool.eq_iff_iff]
  simp
theorem set_last {α : Type} (xs : List α) (x y : α) : (xs ++ [x]).set xs.length y = xs ++ [y] := by simp
theorem ixN_last (n : Nat) : ixN (n + 1) (-1) = some n := by
  unfold ixN
  rw [if_neg (by omega)]
  simp
  omega
/-- names and calls bound at a place -/
def Sc (K : PySem.W.Frag) (H : Hp) (M : Nat) (q : Addr) (e : NF × CF) : Prop := ∃ (a b : Addr) (ns kvs : List (Key × V)), H q = some (.tup [.ref a, .ref b]) ∧ H a = some (.dK ns) ∧ NK ns e.1 ∧ H b = some (.dK kvs) ∧ BK kvs e.2 ∧ ns.length ≤ M ∧ kvs.length ≤ M
theorem Sc.same {K : PySem.W.Frag} {H H' : Hp} {M : Nat} {q : Addr} {e : NF × CF} (h : Sc K H M q e) (s : Same H H') : Sc K H' M q e := by
  obtain ⟨a, b, ns, kvs, h1, h3, h4, h5, r⟩ := h
  exact ⟨a, b, ns, kvs, s _ _ h1, s _ _ h3, h4, s _ _ h5, r⟩
/-- a part with its spot, and the names and the calls bound there -/
def Row (K : PySem.W.Frag) (H0 H : Hp) (M d : Nat) (q : Addr) (e : PyData × NF × CF) : Prop := ∃ (sp : Addr) (ss : List V) (u : V) (a b : Addr) (ns kvs : List (Key × V)), H q = some (.tup [.ref sp, u, .ref a, .ref b]) ∧ SqT K H sp ss ∧ ss.length ≤ d ∧ Dp K H0 u e.1 ∧ H a = some (.dK ns) ∧ NK ns e.2.1 ∧ H b = some (.dK kvs) ∧ BK kvs e.2.2 ∧ ns.length ≤ M ∧ kvs.length ≤ M
theorem Row.same {K : PySem.W.Frag} {H0 H H' : Hp} {M d : Nat} {q : Addr} {e : PyData × NF × CF} (h : Row K H0 H M d q e) (s : Same H H') : Row K H0 H' M d q e := by
  obtain ⟨sp, ss, u, a, b, ns, kvs, h1, hs, hd, h2, h3, h4, h5, r⟩ := h
  exact ⟨sp, ss, u, a, b, ns, kvs, s _ _ h1, same_seqT s hs, hd, h2, s _ _ h3, h4, s _ _ h5, r⟩
def spIS (K : PySem.W.Frag) : Sp := fun vs H Q _ => ∃ (sp : Addr) (ss : List V) (d : Nat) (v : V) (n : Nat) (t : PyData) (a b : Addr) (ns kvs : List (Key × V)) (N : NF) (C : CF) (M : Nat), vs = [.ref sp, v, .ref a, .ref b] ∧ SqT K H sp ss ∧ ss.length ≤ d ∧ d ≤ 500 ∧ Dp K H v t ∧ wf (n + 1) t = true ∧ H a = some (.dK ns) ∧ NK ns N ∧ H b = some (.dK kvs) ∧ BK kvs C ∧ ns.length ≤ M ∧ kvs.length ≤ M ∧ M + 20 ≤ 100000 ∧
  ∀ H' L (qs : List Addr), Same H H' → H L = none → H' L = some (.lst (qs.map V.ref)) → Paired (Row K H H' (M + 20) (d + 1)) qs (kidsS t N C) → Q (.ref L) H'
theorem walk_ez {K : PySem.W.Frag} {a b : Addr} {xs ys : List V} {n : Nat} (hx : xs.length = n) (hy : ys.length = n) : Walk (Itez K a b) n (fun H => SqL K H a xs ∧ SqL K H b ys)
    (fun i H v H' => ∃ (T P : Addr) (x y : V), v = .ref T ∧ H P = none ∧ (upd H P (.tup [x, y])) T = none ∧ H' = upd (upd H P (.tup [x, y])) T (.tup [.int (i : Nat), .ref P]) ∧ xs[i]? = some x ∧ ys[i]? = some y) := by
  refine ⟨fun i _ hi q => ?_, fun _ q => ⟨xs, ys, q.1, q.2, .inl (by omega)⟩, fun i H v H' _ q y => ?_⟩
  · have h1 : i < xs.length := by omega
    have h2 : i < ys.length := by omega
    exact ⟨xs, ys, xs[i], ys[i], q.1, q.2, by simp [h1], by simp [h2]⟩
  · obtain ⟨T, P, x, z, h1, h2, h3, h4, h5, h6⟩ := y
    exact ⟨T, P, x, z, h1, h2, h3, h4, h5 xs q.1, h6 ys q.2⟩
abbrev gIS (K : PySem.W.Frag) : TG := gTup K 2 (gCons (gName 11) (gCons (gTup K 2 (gCons (gName 10) (gCons (gName 12) gNil))) gNil))
abbrev teIS (K : PySem.W.Frag) : TE := tTup (tCons (tOp (rCatA K) (tVar 0) (tTup (tCons (tVar 11) tNil))) (tCons (tVar 10) (StX.tStar K (tVar 12) tNil)))
theorem catA_run' {K : PySem.W.Frag} {H : Hp} {a b : Addr} {xs ys : List V} {Q : VK} (ha : SqT K H a xs) (hb : SqT K H b ys) (hl : xs.length + ys.length ≤ 1000) (q : ∀ H' c, Same H H' → SqT K H' c (xs ++ ys) → Q (.ref c) H') : rCatA K (.ref a) (.ref b) H Q :=
  ⟨a, b, xs, ys, rfl, rfl, ha, hb, few hl, fun e => q H b same_id (by rw [e]; exact hb), fun _ e => q H a same_id (by rw [e, List.append_nil]; exact ha), fun _ _ p np => q _ p (same_new same_id np) (SqT.of upd_same)⟩
/-- the rows are made -/
theorem last_run {K : PySem.W.Frag} {H0 H : Hp} {M d : Nat} {sp Pa S : Addr} {ss us : List V} {ts : List Addr} {gs : List PyData} {scs : List (NF × CF)} {o1 o2 o3 o6 o7 o8 : Option V} {R : VK} (hsp : SqT K H sp ss) (hd : ss.length ≤ d) (d5 : d ≤ 500) (hP : H Pa = some (.lst us)) (hS : H S = some (.lst (ts.map V.ref))) (hus : DpAll K H0 us gs) (hts : Paired (Sc K H M) ts scs) (hl : gs.length = scs.length) (hl9 : us.length ≤ 900)
    (q : ∀ H' L (qs : List Addr), Same H H' → H L = none → H' L = some (.lst (qs.map V.ref)) → Paired (Row K H0 H' M (d + 1)) qs (gs.zip scs) → R (.ref L) H') :
    tLc (iEz K (tCons (tVar 4) (tCons (tVar 5) tNil))) (gIS K) tYes (teIS K) [11, 10, 12] [some (.ref sp), o1, o2, o3, some (.ref Pa), some (.ref S), o6, o7, o8, none, none, none, none] H R := by
  have lus := dpl_len hus
  have lts := Paired.length hts
  refine ⟨_, rfl, _, rfl, Pa, S, us, ts.map V.ref, rfl, SqL.of hP, SqL.of hS, fun D nD => ?_⟩
  refine lc_it (walk_ez (K := K) (a := Pa) (b := S) (xs := us) (ys := ts.map V.ref) rfl (by rw [List.length_map]; omega)) (fun i H' => ∃ rs : List Addr, Same H H' ∧ H' D = some (.lst (rs.map V.ref)) ∧ Paired (Row K H0 H' M (d + 1)) rs ((gs.zip scs).take i)) ⟨[], same_new same_id nD, upd_same, .nil⟩ (fun i H' _ z => ?_) ?_ ?_
  · obtain ⟨rs, s1, _⟩ := z
    exact ⟨SqL.of (s1 _ _ hP), SqL.of (s1 _ _ hS)⟩
  · rintro i x H1 H2 hi ⟨rs, s1, hD, hrs⟩ ⟨T, P, u, y, rfl, nP, nT, rfl, hu, hy⟩
    rw [List.getElem?_map] at hy
    obtain ⟨q0, hq0, rfl⟩ : ∃ q0, ts[i]? = some q0 ∧ y = .ref q0 := by
      cases e : ts[i]? with
      | none => rw [e] at hy; cases hy
      | some q0 => rw [e] at hy; exact ⟨q0, rfl, (Option.some.inj hy).symm⟩
    obtain ⟨g0, hg0, hug⟩ := dpl_get hus hu
    obtain ⟨sc, hsc, hq⟩ := paired_get hts hq0
    have lrs := Paired.length hrs
    rw [List.length_take] at lrs
    have s12 : Same H1 (upd (upd H1 P (.tup [u, .ref q0])) T (.tup [.int (i : Nat), .ref P])) := same_new (same_new same_id nP) nT
    have hT : (upd (upd H1 P (.tup [u, .ref q0])) T (.tup [.int (i : Nat), .ref P])) T = some (.tup [.int (i : Nat), .ref P]) := upd_same
    have hPp : (upd (upd H1 P (.tup [u, .ref q0])) T (.tup [.int (i : Nat), .ref P])) P = some (.tup [u, .ref q0]) := (upd_ne (ne_of_none upd_same nT)).trans upd_same
    generalize upd (upd H1 P (.tup [u, .ref q0])) T (.tup [.int (i : Nat), .ref P]) = H3 at s12 hT hPp ⊢
    refine ⟨T, _, rfl, SqT.of hT, rfl, _, _, rfl, _, _, rfl, P, _, rfl, SqT.of hPp, rfl, _, _, rfl, _, _, rfl, rfl, rfl, rfl, _, rfl, _, rfl, few (by show 1 ≤ 1000; decide), fun T1 nT1 => ?_⟩
    have s13 : Same H1 (upd H3 T1 (.tup [.int (i : Nat)])) := same_new s12 nT1
    refine catA_run' (same_seqT s13 (same_seqT (fun b o hb => s1 _ _ hb) hsp)) (SqT.of upd_same) (by rw [List.length_singleton]; omega) fun H5 c s5 hc => ?_
    have s15 := s13.trans s5
    have sq : Sc K H5 M q0 sc := hq.same (fun b o hb => s15 _ _ (s1 _ _ hb))
    obtain ⟨a, b, ns, kvs, h1, h3, h4, h5, h6, h7, h8⟩ := sq
    refine ⟨_, rfl, _, rfl, q0, _, rfl, .inl (SqT.of h1), few (by show 4 ≤ 1000; decide), fun T2 nT2 => ?_⟩
    have hD5 := s15 _ _ hD
    have nDT : D ≠ T2 := ne_of_none hD5 nT2
    have s52 : Same H5 (upd H5 T2 (.tup [.ref c, u, .ref a, .ref b])) := same_new same_id nT2
    refine ⟨rs.map V.ref, s52 _ _ hD5, small1000 (by rw [List.length_map]; omega), rs ++ [T2], ?_, by rw [upd_same, List.map_append]; rfl, ?_⟩
    · intro z o ho
      rw [upd_ne (ne_of_none ho nD)]
      exact s52 _ _ (s15 _ _ (s1 _ _ ho))
    · have put : ∀ {z : Addr} {o : HO}, H5 z = some o → (∀ l, o ≠ .lst l) → (upd (upd H5 T2 (.tup [.ref c, u, .ref a, .ref b])) D (.lst (rs.map V.ref ++ [.ref T2]))) z = some o := fun {z o} e nl => by
        rw [upd_ne (fun e2 => by rw [e2, hD5] at e; exact nl _ (Option.some.inj e).symm)]
        exact s52 _ _ e
      have putS : ∀ {z : Addr} {xs : List V}, SqT K H5 z xs → SqT K (upd (upd H5 T2 (.tup [.ref c, u, .ref a, .ref b])) D (.lst (rs.map V.ref ++ [.ref T2]))) z xs := fun {z xs} h => by
        rcases h with (h | ⟨o, h⟩) | h
        · exact .inl (.inl (put h fun l z => by cases z))
        · exact .inl (.inr ⟨o, put h fun l z => by cases z⟩)
        · exact .inr h
      have ez : (gs.zip scs)[i]? = some (g0, sc) := List.getElem?_zip_eq_some.mpr ⟨hg0, hsc⟩
      rw [List.take_add_one, ez]
      refine Paired.snoc (L2.Paired.mapP hrs fun q e z => ?_) ?_
      · obtain ⟨sp', ss', u', a', b', ns', kvs', g1, gs', gd, g2, g3, g4, g5, r⟩ := z.same s15
        exact ⟨sp', ss', u', a', b', ns', kvs', put g1 (fun l z => by cases z), putS gs', gd, g2, put g3 (fun l z => by cases z), g4, put g5 (fun l z => by cases z), r⟩
      · refine ⟨c, _, u, a, b, ns, kvs, ?_, putS hc, by rw [List.length_append, List.length_singleton]; omega, hug, put h3 (fun l z => by cases z), h4, put h5 (fun l z => by cases z), h6, h7, h8⟩
        rw [upd_ne nDT.symm, upd_same]
        rfl
  · rintro H1 ⟨rs, s1, hD, hrs⟩
    have e : (gs.zip scs).take us.length = gs.zip scs := List.take_of_length_le (by rw [List.length_zip]; omega)
    rw [e] at hrs
    exact q H1 D rs (fun b o hb => s1 _ _ hb) nD hD hrs
end Toy


namespace Toy
open PySem PySem.Spec L2 PyProof.Rows PySem.W
theorem rep_paired {K : PySem.W.Frag} {H : Hp} {M : Nat} {q : Addr} {e : NF × CF} (h : Sc K H M q e) : ∀ n : Nat, Paired (Sc K H M) (List.replicate n q) (List.replicate n e)
  | 0 => .nil
  | n + 1 => .cons h (rep_paired h n)
theorem zip_rep {α β : Type} (b : β) : ∀ xs : List α, xs.zip (List.replicate xs.length b) = xs.map fun x => (x, b)
  | [] => rfl
  | x :: xs => by
    rw [List.length_cons, List.replicate_succ, List.zip_cons_cons, zip_rep b xs, List.map_cons]
theorem flat_rep (q : V) : ∀ n : Nat, (List.replicate n [q]).flatten = List.replicate n q
  | 0 => rfl
  | n + 1 => by rw [List.replicate_succ, List.flatten_cons, flat_rep q n, List.replicate_succ]; rfl
section
variable {P : Program} {w : World} {K : PySem.W.Frag} {mg : Str → Option Value} {base : Heap}
theorem ok_is {f fK : Addr} {fd fdK : FuncData} (F : Fun K "_inner_scopes" "_inner_scopes" sIS f fd)
    (GK : FnOk P w K mg base CX0 1 fK fdK ["term"] (spKP K)) (mK : mg "kinds_and_parts" = some (.ref fK)) (kK : PySem.W.keepIn K (.ref fK) = true) (bK : Binds K fdK ["term"] [])
    (mLen : mg "len" = none) (mDi : mg "dict" = none) (mEn : mg "enumerate" = none) (mZip : mg "zip" = none) : FnOk P w K mg base CX0 2 f fd ["spot", "term", "names", "calls"] (spIS K) := by
  refine F.ok scIS (fun vs H Q E h => ?_) (fun cdv A outer s H vs Q E hr h => ?_)
  · obtain ⟨sp, ss, d, v, n, t, a, b, ns, kvs, N, C, M, rfl, _⟩ := h
    rfl
  · obtain ⟨sp, ss, d, v, n, t, a, b, ns, kvs, N, C, M, rfl, hsp, hd, d5, hv, hw, ha, hn, hb, hk, z1, z2, zM, q⟩ := h
    obtain ⟨wd, fs, ks, rfl, hkk, hf⟩ := wf_cases hw
    have hu := hu_of hr
    refine ⟨_, pss_cons (ps_setLc (i := 4) (own := [("_", 9), ("part", 10)]) (g := gTup K 2 (gCons (gName 9) (gCons (gName 10) gNil))) (te := tVar 10) (by rfl) scIS.nd rfl rfl (sw_true rfl rfl rfl (by decide +kernel)) (pi_list (pe_call GK hr (by rfl) mK kK bK .nil pass0 (pa_cons (pv 1) pa_nil)))
          (blkOk_by (own := [("_", 9), ("part", 10)]) (N := NIS) (sc := defScope sIS) (by decide +kernel)) (fun _ _ _ _ _ => by exact (pg_tup rfl (pgs_cons (by exact (pg_name (i := 9) scIS.nd rfl (Or.inl rfl))) (pgs_cons (by exact (pg_name (i := 10) scIS.nd rfl (Or.inl rfl))) pgs_nil)))) (fun _ _ _ _ _ => pts_nil)
          (fun _ _ _ _ _ => pv 10))
      (pss_cons (ps_set (i := 5) scIS.nd rfl (Or.inl rfl) (pe_op op_rep (pe_lst (pa_cons (pe_tup (pa_cons (pv 2) (pa_cons (pv 3) pa_nil))) pa_nil)) (pe_callB call_len_seq (by rfl) mLen PySem.boot_len (pa_cons (pv 4) pa_nil))))
      (pss_cons (ps_if (pt_cmpR op_in_seq (pe_ix ix_tup (pv 1) pe_int (fun _ _ => rfl)) (pe_tup (pa_cons pe_str (pa_cons pe_str pa_nil))) (by rfl))
        (pss_one (ps_asg (pe_tup (pa_cons (pe_star (pv 2) (pe_ix ix_tup (pv 1) pe_int (fun _ _ => rfl)) pe_bl) (pa_cons (pv 3) pa_nil))) (pg_sub (pv 5) (pe_un un_neg pe_int) set_list))) pss_nil)
      (pss_cons (ps_if (pt_cmpR op_eq (pe_ix ix_tup (pv 1) pe_int (fun _ _ => rfl)) pe_str (nomark _))
        (pss_cons (ps_set (i := 6) scIS.nd rfl (Or.inl rfl) (pe_star (pv 3) (pe_ix ix_tup (pv 1) pe_int (fun _ _ => rfl)) (pe_callB call_len_seq (by rfl) mLen PySem.boot_len (pa_cons (pe_ix ix_tup (pv 1) pe_int (fun _ _ => rfl)) pa_nil))))
        (pss_cons (ps_set (i := 7) scIS.nd rfl (Or.inl rfl) (pe_callTy call_dictD (by rfl) mDi (by decide +kernel) (pa_cons (pv 6) pa_nil)))
        (pss_cons (ps_for PassesOwn.never rfl (pi_tup (pe_ix ix_tup (pv 1) pe_int (fun _ _ => rfl))) (pg_name (i := 8) scIS.nd rfl (Or.inl rfl)) (pss_one (ps_dput hu (pv 7) (pv 8) pe_int (by rfl))))
        (pss_one (ps_set (i := 5) scIS.nd rfl (Or.inl rfl) (pe_lst (pa_cons (pe_tup (pa_cons (pv 2) (pa_cons (pv 7) pa_nil))) (pa_cons (pe_tup (pa_cons (pv 2) (pa_cons (pv 6) pa_nil))) pa_nil)))))))) pss_nil)
      (pss_one (ps_ret (pe_lc (own := [("number", 11), ("part", 10), ("scope", 12)]) (g := gIS K) (te := teIS K) (by rfl) scIS.nd (pi_ez (by rfl) mEn (by rfl) mZip (pa_cons (pv 4) (pa_cons (pv 5) pa_nil)))
          (blkOk_by (own := [("number", 11), ("part", 10), ("scope", 12)]) (N := NIS) (sc := defScope sIS) (by decide +kernel)) (fun _ _ _ _ _ => by exact (pg_tup rfl (pgs_cons (by exact (pg_name (i := 11) scIS.nd rfl (Or.inl rfl))) (pgs_cons (by exact (pg_tup rfl (pgs_cons (by exact (pg_name (i := 10) scIS.nd rfl (Or.inl rfl))) (pgs_cons (by exact (pg_name (i := 12) scIS.nd rfl (Or.inl rfl))) pgs_nil)))) pgs_nil)))) (fun _ _ _ _ _ => pts_nil)
          (fun _ _ _ _ _ => by exact (pe_tup (pa_cons (pe_op op_catA (pv 0) (pe_tup (pa_cons (pv 11) pa_nil))) (pa_cons (pv 10) (StX.pa_star (pv 12) pa_nil))))))))))), ?_⟩
    cases hv with
    | @tup av xs _ hseq hall =>
    cases hall with
    | @cons v0 vs d0 ds h0 hvs =>
    cases h0
    refine ⟨_, rfl, _, n, _, rfl, .tup hseq (.cons (.str wd) hvs), hw, fun H1 L0 qs0 us s1 nL0 hL0 hqs0 hus hlen hkin => ⟨L0, rfl, ⟨qs0.map V.ref, SqL.of hL0⟩, fun D nD => ?_⟩⟩
    have lq0 := Paired.length hqs0
    refine lc_list (K := K) (a := L0) (xs := qs0.map V.ref) (fun i H' => Same H1 H' ∧ H' D = some (.lst ((us.map (·.2)).take i))) ⟨same_new same_id nD, upd_same⟩ ?_ ?_ ?_
    · rintro i H' _ ⟨s5, _⟩
      exact SqL.of (s5 _ _ hL0)
    · rintro i x H' hi ⟨s5, hD⟩
      rw [List.getElem?_map] at hi
      obtain ⟨q0, hq0, rfl⟩ : ∃ q0, qs0[i]? = some q0 ∧ x = .ref q0 := by
        cases e : qs0[i]? with
        | none => rw [e] at hi; cases hi
        | some q0 => rw [e] at hi; exact ⟨q0, rfl, (Option.some.inj hi).symm⟩
      obtain ⟨ku, hku, hkp⟩ := paired_get hqs0 hq0
      refine ⟨q0, _, rfl, SqT.of (s5 _ _ hkp), rfl, _, _, rfl, _, _, rfl, rfl, rfl, _, rfl, _, hD, small1000 (by rw [List.length_take, List.length_map]; omega), ?_, ?_⟩
      · intro b' o ho
        rw [upd_ne (ne_of_none ho nD)]
        exact s5 _ _ ho
      · rw [upd_same, List.take_add_one, List.getElem?_map, hku]
        rfl
    · rintro H2 ⟨s12, hD⟩
      rw [List.length_map, lq0, ← List.length_map (f := (·.2)) (as := us), List.take_length] at hD
      have s2 : Same H H2 := s1.trans s12
      have lw : (us.map (·.2)).length ≤ 36 := by rw [List.length_map]; exact hlen
      generalize us.map (·.2) = ws at hD hus lw
      have nDH : H D = none := fresh_of s1 nD
      have lws := dpl_len hus
      refine ⟨_, rfl, _, rfl, few (by show 2 ≤ 1000; decide), fun T nT => ⟨few (by show 1 ≤ 1000; decide), fun L1 nL1 => ⟨_, rfl, D, ws, rfl, .inl (SqL.of ((upd_ne (ne_of_none ((upd_ne (ne_of_none hD nT)).trans hD) nL1)).trans ((upd_ne (ne_of_none hD nT)).trans hD))), L1, ((ws.length : Nat) : Int), [.ref T], rfl, rfl, upd_same, by omega, by omega, by rw [List.length_singleton, Int.toNat_natCast, sizeLine_eq]; omega, fun S nS => ?_⟩⟩⟩
      have s23 : Same H2 (upd (upd (upd H2 T (.tup [.ref a, .ref b])) L1 (.lst [.ref T])) S (.lst (List.replicate (((ws.length : Nat) : Int)).toNat [V.ref T]).flatten)) := same_new (same_new (same_new same_id nT) nL1) nS
      have nTL : T ≠ L1 := ne_of_none upd_same nL1
      have hT3 : (upd (upd (upd H2 T (.tup [.ref a, .ref b])) L1 (.lst [.ref T])) S (.lst (List.replicate (((ws.length : Nat) : Int)).toNat [V.ref T]).flatten)) T = some (.tup [.ref a, .ref b]) :=
        (upd_ne (ne_of_none ((upd_ne nTL).trans upd_same) nS)).trans ((upd_ne nTL).trans upd_same)
      have hS3 : (upd (upd (upd H2 T (.tup [.ref a, .ref b])) L1 (.lst [.ref T])) S (.lst (List.replicate (((ws.length : Nat) : Int)).toNat [V.ref T]).flatten)) S = some (.lst ((List.replicate ws.length T).map V.ref)) := by
        rw [upd_same, Int.toNat_natCast, flat_rep, List.map_replicate]
      have hDS : D ≠ S := ne_of_none (same_new (u := .lst [.ref T]) (same_new (u := .tup [.ref a, .ref b]) same_id nT) nL1 _ _ hD) nS
      have nSH : H S = none := fresh_of (same_new (same_new s2 nT) nL1) nS
      generalize upd (upd (upd H2 T (.tup [.ref a, .ref b])) L1 (.lst [.ref T])) S (.lst (List.replicate (((ws.length : Nat) : Int)).toNat [V.ref T]).flatten) = H3 at s23 hT3 hS3 ⊢
      have hD3 := s23 _ _ hD
      have s3' := s2.trans s23
      refine ⟨_, rfl, av, _, 0, _, rfl, rfl, same_seqT s3' hseq, at_0 _ _, few (by show 2 ≤ 1000; decide), fun T0 nT0 => ?_⟩
      have s34 : Same H3 (upd H3 T0 (.tup [.str "as", .str "reduce"])) := same_new same_id nT0
      refine ⟨T0, _, rfl, .inr (SqT.of upd_same), rfl, by decide +kernel, _, rfl, ?_⟩
      have hT4 := s34 _ _ hT3
      have hS4 := s34 _ _ hS3
      have hD4 := s34 _ _ hD3
      have s4 := s3'.trans s34
      clear hT3 hS3 hD3
      generalize upd H3 T0 (.tup [.str "as", .str "reduce"]) = H4 at s34 hT4 hS4 hD4 s4 ⊢
      have fin : ∀ (H6 : Hp) (S' : Addr) (ts : List Addr) (scs : List (NF × CF)) (o6 o7 o8 : Option V), Same H H6 → H6 D = some (.lst ws) → H6 S' = some (.lst (ts.map V.ref)) → Paired (Sc K H6 (M + 20)) ts scs → (partsOf (.tuple (.str wd :: fs))).length = scs.length → kidsS (.tuple (.str wd :: fs)) N C = (partsOf (.tuple (.str wd :: fs))).zip scs →
          tLc (iEz K (tCons (tVar 4) (tCons (tVar 5) tNil))) (gIS K) tYes (teIS K) [11, 10, 12] [some (.ref sp), some (.ref av), some (.ref a), some (.ref b), some (.ref D), some (.ref S'), o6, o7, o8, none, none, none, none] H6 Q := by
        intro H6 S' ts scs o6 o7 o8 s6 hD6 hS6 hts hl ekd
        refine last_run (same_seqT s6 hsp) hd d5 hD6 hS6 hus hts hl (by omega) fun H' L qs sH nL hL hqs => q H' L qs (s6.trans sH) (fresh_of s6 nL) hL (by rw [ekd]; exact hqs)
      have hsc0 : ∀ {H' : Hp}, Same H4 H' → Sc K H' (M + 20) T (N, C) := fun s => ⟨a, b, ns, kvs, s _ _ hT4, s _ _ (s4 _ _ ha), hn, s _ _ (s4 _ _ hb), hk, by omega, by omega⟩
      show (if inV (.str wd) [.str "as", .str "reduce"] = true then _ else _)
      rw [in_ar]
      refine ite2 (fun c1 => ?_) (fun c1 => ?_)
      · have key : ∃ gs0 g x, partsOf (.tuple (.str wd :: fs)) = gs0 ++ [g] ∧ kidsS (.tuple (.str wd :: fs)) N C = (gs0.map fun p => (p, N, C)) ++ [(g, addN N x, C)] ∧ (V.str wd :: vs)[2]? = some (V.str x) ∧ ¬ wd = "def" := by
          rw [Bool.or_eq_true] at c1
          rcases c1 with c1 | c1
          · have e : wd = "as" := of_decide_eq_true c1
            subst e
            obtain ⟨g1, x, g2, rfl, w1, w2⟩ := as_cases hkk hf
            cases hvs with
            | @cons v1 vs1 _ _ h1 hn1 =>
            cases hn1 with
            | @cons v2 vs2 _ _ h2 hn2 =>
            cases h2
            refine ⟨[g1], g2, x, parts_as _ _ _, ?_, rfl, by decide +kernel⟩
            unfold kidsS
            dsimp only
            rw [if_pos rfl]
            rfl
          · have e : wd = "reduce" := of_decide_eq_true c1
            subst e
            obtain ⟨g1, x, g2, g3, rfl, w1, w2, w3⟩ := reduce_cases hkk hf
            cases hvs with
            | @cons v1 vs1 _ _ h1 hn1 =>
            cases hn1 with
            | @cons v2 vs2 _ _ h2 hn2 =>
            cases h2
            refine ⟨[g1, g2], g3, x, parts_reduce _ _ _ _, ?_, rfl, by decide +kernel⟩
            unfold kidsS
            dsimp only
            rw [if_neg ss7, if_pos rfl]
            rfl
        obtain ⟨gs0, g, x, ep, ekd, hx2, nd⟩ := key
        have lw1 : ws.length = gs0.length + 1 := by rw [lws, ep, List.length_append, List.length_singleton]
        intro p np
        have ha4 := s4 _ _ ha
        have nap : a ≠ p := ne_of_none ha4 np
        refine ⟨_, rfl, upd_same, a, ns, rfl, nap, (upd_ne nap).trans ha4, fun q1 nq1 => ?_⟩
        have s45 : Same H4 (upd (upd (upd H4 p (.dK [])) p (.dK ns)) q1 (.dK [])) := same_new (same_put (same_new same_id np) np) nq1
        have npq : p ≠ q1 := ne_of_none upd_same nq1
        refine ⟨_, rfl, av, _, 2, _, rfl, rfl, same_seqT (s4.trans s45) hseq, at_nat (n := 2) hx2, upd_same, .inr x, ns, rfl, (upd_ne npq).trans upd_same, npq, by rw [sizeLine_eq]; omega, ?_⟩
        have s5 : Same H4 (upd (upd (upd (upd (upd H4 p (.dK [])) p (.dK ns)) q1 (.dK [])) q1 (.dK [(.inr x, .bl true)])) p (.dK (putK ns (.inr x) (.bl true)))) := by
          have nq4 : H4 q1 = none := fresh_of (same_put (same_new (u := .dK []) same_id np) np) nq1
          exact same_put (same_put s45 nq4) np
        have hp5 : (upd (upd (upd (upd (upd H4 p (.dK [])) p (.dK ns)) q1 (.dK [])) q1 (.dK [(.inr x, .bl true)])) p (.dK (putK ns (.inr x) (.bl true)))) p = some (.dK (putK ns (.inr x) (.bl true))) := upd_same
        generalize upd (upd (upd (upd (upd H4 p (.dK [])) p (.dK ns)) q1 (.dK [])) q1 (.dK [(.inr x, .bl true)])) p (.dK (putK ns (.inr x) (.bl true))) = H5 at s5 hp5 ⊢
        refine ⟨_, rfl, few (by show 2 ≤ 1000; decide), fun T2 nT2 => ?_⟩
        have hS5 := s5 _ _ hS4
        have nST : S ≠ T2 := ne_of_none hS5 nT2
        refine ⟨_, rfl, _, rfl, S, _, -1, gs0.length, rfl, rfl, (upd_ne nST).trans hS5, by rw [List.length_map, List.length_replicate, lw1]; exact ixN_last _, ?_⟩
        have erep : List.replicate ws.length T = List.replicate gs0.length T ++ [T] := by rw [lw1, List.replicate_succ']
        have eset : ((List.replicate ws.length T).map V.ref).set gs0.length (V.ref T2) = (List.replicate gs0.length T ++ [T2]).map V.ref := by
          rw [erep, List.map_append, List.map_append]
          have z := set_last ((List.replicate gs0.length T).map V.ref) (.ref T) (.ref T2)
          rw [List.length_map, List.length_replicate] at z
          simp only [List.map_cons, List.map_nil]
          exact z
        rw [eset]
        have s6 : Same H (upd (upd H5 T2 (.tup [.ref p, .ref b])) S (.lst ((List.replicate gs0.length T ++ [T2]).map V.ref))) := same_put (same_new (s4.trans s5) nT2) nSH
        have hS6 : (upd (upd H5 T2 (.tup [.ref p, .ref b])) S (.lst ((List.replicate gs0.length T ++ [T2]).map V.ref))) S = some (.lst ((List.replicate gs0.length T ++ [T2]).map V.ref)) := upd_same
        have hT6 : (upd (upd H5 T2 (.tup [.ref p, .ref b])) S (.lst ((List.replicate gs0.length T ++ [T2]).map V.ref))) T2 = some (.tup [.ref p, .ref b]) := (upd_ne nST.symm).trans upd_same
        have k6 : ∀ z o, H5 z = some o → z ≠ S → (upd (upd H5 T2 (.tup [.ref p, .ref b])) S (.lst ((List.replicate gs0.length T ++ [T2]).map V.ref))) z = some o := fun z o e nz => (upd_ne nz).trans ((upd_ne (ne_of_none e nT2)).trans e)
        generalize upd (upd H5 T2 (.tup [.ref p, .ref b])) S (.lst ((List.replicate gs0.length T ++ [T2]).map V.ref)) = H6 at s6 hS6 hT6 k6 ⊢
        have lput := length_putK ns (.inr x) (.bl true)
        have k6' : ∀ z o, H4 z = some o → (∀ l, o ≠ .lst l) → H6 z = some o := fun z o e nl => k6 _ _ (s5 _ _ e) (fun ez => by rw [ez, hS4] at e; exact nl _ (Option.some.inj e).symm)
        have hp6 := k6 _ _ hp5 (ne_of hp5 hS5 (by intro e; cases e))
        refine ⟨_, rfl, av, _, 0, _, rfl, rfl, same_seqT s6 hseq, at_0 _ _, rfl, _, rfl, ite2 (fun c2 => ?_) (fun c2 => ?_)⟩
        · exact absurd (V.str.inj (of_decide_eq_true c2)) nd
        refine fin H6 S _ (List.replicate gs0.length (N, C) ++ [(addN N x, C)]) none none none s6 (k6 _ _ (s5 _ _ hD4) hDS) hS6 ?_ (by rw [ep, List.length_append, List.length_append, List.length_replicate]; rfl) ?_
        · exact paired_app (rep_paired ⟨a, b, ns, kvs, k6' _ _ hT4 (fun l z => by cases z), s6 _ _ ha, hn, s6 _ _ hb, hk, by omega, by omega⟩ _) (.cons ⟨p, b, _, kvs, hT6, hp6, hn.put x _, s6 _ _ hb, hk, by omega, by omega⟩ .nil)
        · rw [ekd, ep, List.zip_append (by rw [List.length_replicate]), zip_rep]
          rfl
      have n3 : ¬ wd = "as" := fun e => c1 (by rw [e]; decide +kernel)
      have n4 : ¬ wd = "reduce" := fun e => c1 (by rw [e]; decide +kernel)
      refine ⟨_, rfl, av, _, 0, _, rfl, rfl, same_seqT s4 hseq, at_0 _ _, rfl, _, rfl, ite2 (fun c2 => ?_) (fun c2 => ?_)⟩
      · have e : wd = "def" := V.str.inj (of_decide_eq_true c2)
        subst e
        obtain ⟨x, ps, g1, g2, rfl, p8, pall, w1, w2⟩ := def_cases hkk hf
        cases hvs with
        | @cons v1 vs1 _ _ h1 hn1 =>
        cases hn1 with
        | @cons v2 vs2 _ _ h2 hn2 =>
        cases h1
        cases h2 with
        | @tup ap zs _ hsp2 hap =>
        have lzs := dpl_len hap
        intro p np
        have hb4 := s4 _ _ hb
        have nbp : b ≠ p := ne_of_none hb4 np
        refine ⟨_, rfl, upd_same, b, kvs, rfl, nbp, (upd_ne nbp).trans hb4, fun q1 nq1 => ?_⟩
        have s45 : Same H4 (upd (upd (upd H4 p (.dK [])) p (.dK kvs)) q1 (.dK [])) := same_new (same_put (same_new same_id np) np) nq1
        have npq : p ≠ q1 := ne_of_none upd_same nq1
        have seq45 := same_seqT (s4.trans s45) hseq
        refine ⟨_, rfl, av, _, 1, _, rfl, rfl, seq45, at_nat (n := 1) rfl, _, rfl, av, _, 2, _, rfl, rfl, seq45, at_nat (n := 2) rfl, ap, zs, rfl, .inr (same_seqT (s4.trans s45) hsp2), upd_same, .inr x, kvs, rfl, (upd_ne npq).trans upd_same, npq, by rw [sizeLine_eq]; omega, ?_⟩
        have s5 : Same H4 (upd (upd (upd (upd (upd H4 p (.dK [])) p (.dK kvs)) q1 (.dK [])) q1 (.dK [(.inr x, .int ((zs.length : Nat) : Int))])) p (.dK (putK kvs (.inr x) (.int ((zs.length : Nat) : Int))))) := by
          have nq4 : H4 q1 = none := fresh_of (same_put (same_new (u := .dK []) same_id np) np) nq1
          exact same_put (same_put s45 nq4) np
        have hp5 : (upd (upd (upd (upd (upd H4 p (.dK [])) p (.dK kvs)) q1 (.dK [])) q1 (.dK [(.inr x, .int ((zs.length : Nat) : Int))])) p (.dK (putK kvs (.inr x) (.int ((zs.length : Nat) : Int))))) p = some (.dK (putK kvs (.inr x) (.int ((zs.length : Nat) : Int)))) := upd_same
        have bk1 := hk.put x zs.length
        have lput := length_putK kvs (.inr x) (.int ((zs.length : Nat) : Int))
        generalize upd (upd (upd (upd (upd H4 p (.dK [])) p (.dK kvs)) q1 (.dK [])) q1 (.dK [(.inr x, .int ((zs.length : Nat) : Int))])) p (.dK (putK kvs (.inr x) (.int ((zs.length : Nat) : Int)))) = H5 at s5 hp5 ⊢
        generalize putK kvs (.inr x) (.int ((zs.length : Nat) : Int)) = out at hp5 bk1 lput ⊢
        refine ⟨_, rfl, p, out, rfl, .inl hp5, fun G nG => ?_⟩
        have s05 := s4.trans s5
        have s56 : Same H5 (upd H5 G (.dK out)) := same_new same_id nG
        have nG4 : H4 G = none := fresh_of s5 nG
        refine ⟨_, rfl, av, _, 2, _, rfl, rfl, same_seqT (s05.trans s56) hseq, at_nat (n := 2) rfl, ap, rfl, ⟨zs, same_seqT (s05.trans s56) hsp2⟩, ?_⟩
        refine for_tup (K := K) (a := ap) (xs := zs) (fun i σ H' => ∃ (o : Option V) (ins : List (Key × V)), σ = [some (.ref sp), some (.ref av), some (.ref a), some (.ref b), some (.ref D), some (.ref S), some (.ref p), some (.ref G), o, none, none, none, none] ∧ Same H5 H' ∧ H' G = some (.dK ins) ∧ BK ins (setAll (setC C x zs.length) (ps.take i)) ∧ ins.length ≤ out.length + i) ⟨none, out, rfl, s56, upd_same, bk1, Nat.le_refl _⟩ ?_ ?_ ?_
        · rintro i σ H' _ ⟨o, ins, rfl, s6, _⟩
          exact same_seqT (s05.trans s6) hsp2
        · rintro i y σ H6 hy ⟨o, ins, rfl, s6, hG, bki, li⟩
          obtain ⟨g0, hg0, hyg⟩ := dpl_get hap hy
          have hgs := List.all_eq_true.mp pall g0 (List.mem_of_getElem? hg0)
          obtain ⟨k, rfl⟩ : ∃ k, g0 = .str k := by
            cases g0 with
            | str k => exact ⟨k, rfl⟩
            | _ => simp [isStrD] at hgs
          cases hyg
          have il : i < zs.length := (List.getElem?_eq_some_iff.mp hy).1
          refine ⟨_, rfl, _, rfl, G, _, rfl, DPut.k (k := .inr k) hG (by rw [sizeLine_eq]; omega), _, putK ins (.inr k) (.int 0), rfl, same_put s6 nG, upd_same, ?_, ?_⟩
          · rw [List.take_add_one, hg0]
            show BK _ (setAll _ (ps.take i ++ [.str k]))
            unfold setAll
            rw [List.foldl_append]
            exact bki.put k 0
          · have := length_putK ins (.inr k) (.int 0)
            omega
        · rintro σ H6 ⟨o, ins, rfl, s6, hG, bki, li⟩
          rw [lzs, List.take_length] at bki
          have s06 := s05.trans s6
          refine ⟨_, rfl, _, rfl, few (by show 2 ≤ 1000; decide), fun T1 nT1 => ?_⟩
          have s67 : Same H6 (upd H6 T1 (.tup [.ref a, .ref G])) := same_new same_id nT1
          have hT1 : (upd H6 T1 (.tup [.ref a, .ref G])) T1 = some (.tup [.ref a, .ref G]) := upd_same
          generalize upd H6 T1 (.tup [.ref a, .ref G]) = H7 at s67 hT1 ⊢
          refine ⟨_, rfl, _, rfl, few (by show 2 ≤ 1000; decide), fun T2 nT2 => ?_⟩
          have s78 : Same H7 (upd H7 T2 (.tup [.ref a, .ref p])) := same_new same_id nT2
          have hT2 : (upd H7 T2 (.tup [.ref a, .ref p])) T2 = some (.tup [.ref a, .ref p]) := upd_same
          generalize upd H7 T2 (.tup [.ref a, .ref p]) = H8 at s78 hT2 ⊢
          refine ⟨few (by show 2 ≤ 1000; decide), fun S2 nS2 => ?_⟩
          have s89 : Same H8 (upd H8 S2 (.lst [.ref T1, .ref T2])) := same_new same_id nS2
          have hS9 : (upd H8 S2 (.lst [.ref T1, .ref T2])) S2 = some (.lst ([T1, T2].map V.ref)) := upd_same
          generalize upd H8 S2 (.lst [.ref T1, .ref T2]) = H9 at s89 hS9 ⊢
          have s69 := (s67.trans s78).trans s89
          have s09 := s06.trans s69
          rw [lzs] at bk1
          refine fin H9 S2 [T1, T2] [(N, setAll (setC C x ps.length) ps), (N, setC C x ps.length)] _ _ _ s09 (s69 _ _ (s6 _ _ (s5 _ _ hD4))) hS9 (.cons ⟨a, G, ns, ins, (s78.trans s89) _ _ hT1, s09 _ _ ha, hn, s69 _ _ hG, bki, by omega, by omega⟩ (.cons ⟨a, p, ns, out, s89 _ _ hT2, s09 _ _ ha, hn, s69 _ _ (s6 _ _ hp5), bk1, by omega, by omega⟩ .nil)) (by rw [parts_def]; rfl) ?_
          rw [parts_def]
          unfold kidsS
          dsimp only
          rw [if_neg ss8, if_neg ss9, if_pos rfl]
          rfl
      have n5 : ¬ wd = "def" := fun e => c2 (by rw [e]; exact decide_eq_true rfl)
      refine fin H4 S _ _ none none none s4 hD4 hS4 (rep_paired (hsc0 same_id) _) (by rw [List.length_replicate, lws]) ?_
      rw [kidsS_else n3 n4 n5, lws, zip_rep]
end
end Toy


namespace Toy
open PySem PySem.Spec L2 PyProof.Rows PySem.W
def szT : Nat → PyData → Nat
  | 0, _ => 1
  | n + 1, t => 1 + ((partsOf t).map (szT n)).sum
theorem szT_pos (n : Nat) (t : PyData) : 1 ≤ szT n t := by
  cases n with
  | zero => exact Nat.le_refl _
  | succ n => rw [szT]; omega
theorem kids_fst {n : Nat} {t : PyData} (h : wf (n + 1) t = true) (N : NF) (C : CF) : (kidsS t N C).map (·.1) = partsOf t := by
  obtain ⟨w, fs, ks, rfl, hk, hf⟩ := wf_cases h
  by_cases h3 : w = "as"
  · subst h3
    obtain ⟨a, x, b, rfl, _⟩ := as_cases hk hf
    rw [parts_as]
    unfold kidsS
    dsimp only
    rw [if_pos rfl]
    rfl
  by_cases h4 : w = "reduce"
  · subst h4
    obtain ⟨a, x, b, c, rfl, _⟩ := reduce_cases hk hf
    rw [parts_reduce]
    unfold kidsS
    dsimp only
    rw [if_neg ss7, if_pos rfl]
    rfl
  by_cases h5 : w = "def"
  · subst h5
    obtain ⟨x, ps, a, b, rfl, _⟩ := def_cases hk hf
    rw [parts_def]
    unfold kidsS
    dsimp only
    rw [if_neg ss8, if_neg ss9, if_pos rfl]
    rfl
  rw [kidsS_else h3 h4 h5, List.map_map]
  exact List.map_id _
mutual
def noL : PyData → Bool
  | .none => true
  | .bool _ => true
  | .int _ => true
  | .str _ => true
  | .tuple ds => noLs ds
  | _ => false
def noLs : List PyData → Bool
  | [] => true
  | d :: ds => noL d && noLs ds
end
theorem noLs_all : ∀ {ds : List PyData}, (∀ d ∈ ds, noL d = true) → noLs ds = true
  | [], _ => by simp [noLs]
  | d :: ds, h => by
    simp only [noLs, Bool.and_eq_true]
    exact ⟨h d List.mem_cons_self, noLs_all fun x hx => h x (List.mem_cons_of_mem _ hx)⟩
theorem noL_str {f : PyData} (h : isStrD f = true) : noL f = true := by
  cases f with
  | str x => simp [noL]
  | _ => simp [isStrD] at h
theorem noL_fld {p : PyData → Bool} (hp : ∀ t, p t = true → noL t = true) {k : Str} {f : PyData} (h : fldOk p k f = true) : noL f = true := by
  unfold fldOk at h
  split at h
  · exact hp _ h
  split at h
  · obtain ⟨gs, rfl, _, g⟩ := tupAll_cases h
    rw [noL]
    exact noLs_all fun d hd => hp d (List.all_eq_true.mp g d hd)
  split at h
  · obtain ⟨gs, rfl, _, g⟩ := tupAll_cases h
    rw [noL]
    refine noLs_all fun d hd => ?_
    obtain ⟨x, g', rfl, _, hg⟩ := isEnt_cases (List.all_eq_true.mp g d hd)
    simp only [noL, noLs, Bool.true_and, Bool.and_true]
    exact hp _ hg
  split at h
  · obtain ⟨gs, rfl, _, g⟩ := tupAll_cases h
    rw [noL]
    exact noLs_all fun d hd => noL_str (List.all_eq_true.mp g d hd)
  split at h
  · cases f with
    | int i => simp [noL]
    | _ => simp [isIntD] at h
  split at h
  · cases f with
    | none => simp [noL]
    | bool b => simp [noL]
    | int i => simp [noL]
    | str x => simp [noL]
    | _ => simp [isLeafD] at h
  · exact noL_str h
theorem noL_flds {p : PyData → Bool} (hp : ∀ t, p t = true → noL t = true) : ∀ {ks : List Str} {fs : List PyData}, flds p ks fs = true → noLs fs = true
  | [], [], _ => by simp [noLs]
  | k :: ks, f :: fs, h => by
    simp only [flds, Bool.and_eq_true] at h
    simp only [noLs, Bool.and_eq_true]
    exact ⟨noL_fld hp h.1, noL_flds hp h.2⟩
  | [], _ :: _, h => by cases h
  | _ :: _, [], h => by cases h
theorem noL_wf : ∀ {n : Nat} {t : PyData}, wf n t = true → noL t = true
  | 0, _, h => by cases h
  | n + 1, t, h => by
    obtain ⟨w, fs, ks, rfl, hk, hf⟩ := wf_cases h
    simp only [noL, noLs, Bool.true_and]
    exact noL_flds (fun t => noL_wf) hf
theorem seqT_put {K : PySem.W.Frag} {H : Hp} {a L : Addr} {xs ys zs : List V} (h : SqT K H a xs) (hL : H L = some (.lst ys)) : SqT K (upd H L (.lst zs)) a xs := by
  rcases h with (h | ⟨o, h⟩) | h
  · exact .inl (.inl ((upd_ne (ne_of h hL (by intro e; cases e))).trans h))
  · exact .inl (.inr ⟨o, (upd_ne (ne_of h hL (by intro e; cases e))).trans h⟩)
  · exact .inr h
mutual
theorem dp_put {K : PySem.W.Frag} {H : Hp} {L : Addr} {ys zs : List V} (hL : H L = some (.lst ys)) : ∀ {v : V} {d : PyData}, Dp K H v d → noL d = true → Dp K (upd H L (.lst zs)) v d
  | _, _, .non, _ => .non
  | _, _, .bl b, _ => .bl b
  | _, _, .int i, _ => .int i
  | _, _, .str x, _ => .str x
  | _, _, .lst _ _, h => by simp [noL] at h
  | _, _, .tup h a, z => .tup (seqT_put h hL) (dps_put hL a (by simpa [noL] using z))
theorem dps_put {K : PySem.W.Frag} {H : Hp} {L : Addr} {ys zs : List V} (hL : H L = some (.lst ys)) : ∀ {vs : List V} {ds : List PyData}, DpAll K H vs ds → noLs ds = true → DpAll K (upd H L (.lst zs)) vs ds
  | _, _, .nil, _ => .nil
  | _, _, .cons a b, z => by
    simp only [noLs, Bool.and_eq_true] at z
    exact .cons (dp_put hL a z.1) (dps_put hL b z.2)
end
end Toy


namespace Toy
open PySem PySem.Spec L2 PyProof.Rows PySem.W
abbrev sCl : Stmt := top 34
abbrev sFU : Stmt := top 35
abbrev sMB : Stmt := top 36
abbrev sSP : Stmt := top 37
theorem scCl : FnScope ["term"] ["term"] (defScope sCl) := ⟨rfl, rfl, rfl, by decide +kernel, rfl, by decide +kernel, by decide +kernel⟩
abbrev NFU : List Str := ["term", "known", "_", "part", "names", "calls"]
theorem scFU : FnScope NFU ["term", "known"] (defScope sFU) := ⟨rfl, rfl, rfl, by decide +kernel, rfl, by decide +kernel, by decide +kernel⟩
abbrev NMB : List Str := ["call", "calls", "known", "_", "name", "handed"]
theorem scMB : FnScope NMB ["call", "calls", "known"] (defScope sMB) := ⟨rfl, rfl, rfl, by decide +kernel, rfl, by decide +kernel, by decide +kernel⟩
abbrev NSP : List Str := ["term", "waiting", "found", "row"]
theorem scSP : FnScope NSP ["term"] (defScope sSP) := ⟨rfl, rfl, rfl, by decide +kernel, rfl, by decide +kernel, by decide +kernel⟩
def spMB (K : PySem.W.Frag) : Sp := fun vs H Q _ => ∃ (av b k0 ag : Addr) (x : Str) (us : List V) (kvs : List (Key × V)) (C : CF), vs = [.ref av, .ref b, .ref k0] ∧ SqT K H av [.str "call", .str x, .ref ag] ∧ SqT K H ag us ∧ H b = some (.dK kvs) ∧ BK kvs C ∧ H k0 = some (.dK []) ∧ Q (.bl (decide (C x = some us.length))) H
section
variable {P : Program} {w : World} {K : PySem.W.Frag} {mg : Str → Option Value} {base : Heap}
theorem ok_mb {f : Addr} {fd : FuncData} (F : Fun K "_may_be_called" "_may_be_called" sMB f fd) (mLen : mg "len" = none) : FnOk P w K mg base CX0 1 f fd ["call", "calls", "known"] (spMB K) := by
  refine F.ok scMB (fun vs H Q E h => ?_) (fun cdv A outer s H vs Q E hr h => ?_)
  · obtain ⟨av, b, k0, ag, x, us, kvs, C, rfl, _⟩ := h
    rfl
  · obtain ⟨av, b, k0, ag, x, us, kvs, C, rfl, hav, hag, hb, hk, hk0, q⟩ := h
    have hu := hu_of hr
    refine ⟨_, pss_cons (ps_asg (pv 0) (pg_tup (by rfl) (pgs_cons (pg_name (i := 3) scMB.nd rfl (.inl rfl)) (pgs_cons (pg_name (i := 4) scMB.nd rfl (.inl rfl)) (pgs_cons (pg_name (i := 5) scMB.nd rfl (.inl rfl)) pgs_nil)))))
      (pss_one (ps_ret (pe_ifExp (pt_cmp (pc_din hu (pv 4) (pv 1)) rfl) (pe_cmpR op_eq (pe_dget hu (pv 1) (pv 4) (fun _ _ => rfl)) (pe_callB call_len_seq (by rfl) mLen PySem.boot_len (pa_cons (pv 5) pa_nil)) (nomark _))
        (pe_and (pe_cmp (pc_din hu (pv 4) (pv 2)) rfl) (pe_one (pe_notT (pv 5))))))), ?_⟩
    refine ⟨_, rfl, av, _, rfl, hav, rfl, _, _, rfl, _, _, rfl, _, _, rfl, rfl, _, rfl, _, rfl, b, _, rfl, DGet.k (k := .inr x) hb, _, rfl, ?_⟩
    rw [hk.2 x]
    cases hC : C x with
    | none =>
      rw [hC] at q
      have e : DGet H k0 (.str x) none := DGet.k (k := .inr x) hk0
      refine iteF ⟨_, rfl, _, rfl, k0, _, rfl, e, false, rfl, iteF ?_⟩
      rw [decide_eq_false (by simp)] at q
      exact q
    | some n0 =>
      rw [hC] at q
      have hget : DGet H b (.str x) (some (.int (n0 : Int))) := by
        have z := DGet.k (k := .inr x) hb
        rw [hk.2 x, hC] at z
        exact z
      refine iteT ⟨_, rfl, _, rfl, b, _, rfl, hget, _, rfl, ag, us, rfl, .inr hag, rfl, ?_⟩
      have e5 : decide (V.int (n0 : Int) = V.int ((us.length : Nat) : Int)) = decide (some n0 = some us.length) := decide_eq_decide.mpr ⟨fun h => by have := V.int.inj h; rw [show n0 = us.length by omega], fun h => by rw [Option.some.inj h]⟩
      show Q (.bl (decide (V.int (n0 : Int) = V.int ((us.length : Nat) : Int)))) H
      rw [e5]
      exact q
end
abbrev It4 := Nat × PyData × NF × CF
def CI (K : PySem.W.Frag) (H H' : Hp) (q : Addr) (e : It4) : Prop := Row K H' H' (20 * (40 - e.1)) (40 - e.1) q e.2 ∧ wf e.1 e.2.1 = true ∧ e.1 ≤ 40
def allB (ws : List It4) : Bool := ws.all fun e => bnd e.1 e.2.1 e.2.2.1 e.2.2.2
def allO (ws : List It4) : Bool := ws.all fun e => okN e.2.1 e.2.2.1 e.2.2.2
def totS (ws : List It4) : Nat := (ws.map fun e => szT e.1 e.2.1).sum
theorem sq_put {K : PySem.W.Frag} {H : Hp} {L : Addr} {xs ys : List V} (hL : H L = some (.lst xs)) {z : Addr} {us : List V} (h : SqT K H z us) : SqT K (upd H L (.lst ys)) z us := by
  rcases h with (h | ⟨o, h⟩) | h
  · exact .inl (.inl ((upd_ne (ne_of h hL (by intro e; cases e))).trans h))
  · exact .inl (.inr ⟨o, (upd_ne (ne_of h hL (by intro e; cases e))).trans h⟩)
  · exact .inr h
theorem Row.put {K : PySem.W.Frag} {H0 H : Hp} {M d : Nat} {q : Addr} {e : PyData × NF × CF} {L : Addr} {xs ys : List V} (h : Row K H0 H M d q e) (hL : H L = some (.lst xs)) : Row K H0 (upd H L (.lst ys)) M d q e := by
  obtain ⟨sp, ss, u, a, b, ns, kvs, h1, hs, hd, h2, h3, h4, h5, r⟩ := h
  exact ⟨sp, ss, u, a, b, ns, kvs, (upd_ne (ne_of h1 hL (by intro e; cases e))).trans h1, sq_put hL hs, hd, h2, (upd_ne (ne_of h3 hL (by intro e; cases e))).trans h3, h4, (upd_ne (ne_of h5 hL (by intro e; cases e))).trans h5, r⟩
theorem Row.up {K : PySem.W.Frag} {H0 H H' : Hp} {M d : Nat} {q : Addr} {e : PyData × NF × CF} (h : Row K H0 H M d q e) (s : ∀ u t, Dp K H0 u t → noL t = true → Dp K H' u t) (hw : noL e.1 = true) : Row K H' H M d q e := by
  obtain ⟨sp, ss, u, a, b, ns, kvs, h1, hs, hd, h2, r⟩ := h
  exact ⟨sp, ss, u, a, b, ns, kvs, h1, hs, hd, s _ _ h2 hw, r⟩
theorem CI.put {K : PySem.W.Frag} {H0 H : Hp} {q : Addr} {e : It4} {L : Addr} {xs ys : List V} (h : CI K H0 H q e) (hL : H L = some (.lst xs)) : CI K H0 (upd H L (.lst ys)) q e :=
  ⟨(h.1.put hL).up (fun u t hd n => dp_put hL hd n) (noL_wf h.2.1), h.2⟩
theorem CI.same {K : PySem.W.Frag} {H0 H H' : Hp} {q : Addr} {e : It4} (h : CI K H0 H q e) (s : Same H H') : CI K H0 H' q e := ⟨(h.1.same s).up (fun u t hd _ => dpM s hd) (noL_wf h.2.1), h.2⟩
theorem len_le_tot : ∀ ws : List It4, ws.length ≤ totS ws
  | [] => Nat.le_refl _
  | e :: ws => by
    have := len_le_tot ws
    have := szT_pos e.1 e.2.1
    unfold totS at *
    rw [List.map_cons, List.sum_cons, List.length_cons]
    omega
theorem tot_app (a b : List It4) : totS (a ++ b) = totS a + totS b := by
  unfold totS
  rw [List.map_append, List.sum_append]
theorem tot_rev : ∀ a : List It4, totS a.reverse = totS a
  | [] => rfl
  | e :: a => by
    rw [List.reverse_cons, tot_app, tot_rev a, show e :: a = [e] ++ a from rfl, tot_app]
    omega
theorem paired_rev {α β : Type} {F : α → β → Prop} : ∀ {xs : List α} {ys : List β}, Paired F xs ys → Paired F xs.reverse ys.reverse
  | _, _, .nil => .nil
  | _, _, .cons a b => by
    rw [List.reverse_cons, List.reverse_cons]
    exact Paired.snoc (paired_rev b) a
def spSP (K : PySem.W.Frag) : Sp := fun vs H Q _ => ∃ (v : V) (n : Nat) (t : PyData), vs = [v] ∧ Dp K H v t ∧ wf n t = true ∧ n ≤ 40 ∧ szT n t ≤ 10000000 ∧ ∀ H' L (qs : List Addr) (ws : List It4), Same H H' → H' L = some (.lst (qs.map V.ref)) → Paired (CI K H H') qs ws → (∀ e ∈ ws, 1 ≤ e.1) → allO ws = bnd n t (fun _ => false) (fun _ => none) → Q (.ref L) H'
def CW (K : PySem.W.Frag) (H : Hp) (v : V) (L Fd : Addr) (root : Bool) (sz mm : Nat) (σ : L2.St) (H' : Hp) : Prop := ∃ (o3 : Option V) (ys zs : List Addr) (ws fs : List It4), σ = [some v, some (.ref L), some (.ref Fd), o3] ∧ Same H H' ∧ H' L = some (.lst (ys.map V.ref)) ∧ H' Fd = some (.lst (zs.map V.ref)) ∧ L ≠ Fd ∧ Paired (CI K H H') ys ws ∧ Paired (CI K H H') zs fs ∧ totS ws + fs.length ≤ sz ∧ (∀ e ∈ fs, 1 ≤ e.1) ∧ root = (allO fs && allB ws) ∧ mm = totS ws
theorem kid_items {K : PySem.W.Frag} {H H4 : Hp} {n : Nat} {ps : List PyData} (hpw : ∀ p ∈ ps, wf n p = true) (hn : n + 1 ≤ 40) {H3 : Hp} (s : Same H3 H4) :
    ∀ {rs : List Addr} {kd : List (PyData × NF × CF)}, (∀ p ∈ kd, p.1 ∈ ps) → Paired (Row K H3 H4 (20 * (40 - (n + 1)) + 20) (40 - (n + 1) + 1)) rs kd → Paired (CI K H H4) rs (kd.map fun p => (n, p))
  | _, _, _, .nil => .nil
  | _, _, h, .cons a b => .cons ⟨by
      have z := a.up (H' := H4) (fun u t hd _ => dpM s hd) (noL_wf (hpw _ (h _ List.mem_cons_self)))
      rw [show 20 * (40 - (n + 1)) + 20 = 20 * (40 - n) by omega, show 40 - (n + 1) + 1 = 40 - n by omega] at z
      exact z, hpw _ (h _ List.mem_cons_self), by show n ≤ 40; omega⟩ (kid_items hpw hn s (fun p hp => h p (List.mem_cons_of_mem _ hp)) b)
section
variable {P : Program} {w : World} {K : PySem.W.Frag} {mg : Str → Option Value} {base : Heap}
theorem ok_sp {f fI : Addr} {fd fdI : FuncData} (F : Fun K "_scoped_parts" "_scoped_parts" sSP f fd)
    (GI : FnOk P w K mg base CX0 2 fI fdI ["spot", "term", "names", "calls"] (spIS K)) (mI : mg "_inner_scopes" = some (.ref fI)) (kI : PySem.W.keepIn K (.ref fI) = true) (bI : Binds K fdI ["spot", "term", "names", "calls"] [])
    (mLi : mg "list" = none) (mRe : mg "reversed" = none) : FnOk P w K mg base CX0 3 f fd ["term"] (spSP K) := by
  have RF : FnR P w K mg base CX0 2 fI (spIS K) := (GI.raw bI .nil).imp fun vs H Q E h => by rw [List.append_nil]; exact h
  refine F.ok scSP (fun vs H Q E h => ?_) (fun cdv A outer s H vs Q E hr h => ?_)
  · obtain ⟨v, n, t, rfl, _⟩ := h
    rfl
  · obtain ⟨v, n, t, rfl, hv, hw, hn, hz, q⟩ := h
    refine ⟨_, pss_cons (ps_set (i := 1) scSP.nd rfl (Or.inl rfl) (pe_lst (pa_cons (pe_tup (pa_cons (pe_tup pa_nil) (pa_cons (pv 0) (pa_cons pe_dnewK (pa_cons pe_dnewK pa_nil))))) pa_nil)))
      (pss_cons (ps_set (i := 2) scSP.nd rfl (Or.inl rfl) (pe_lst pa_nil))
      (pss_cons (ps_while PassesOwn.never (pt_truth (pv 1) (by intro _; rfl))
        (pss_cons (ps_set (i := 3) scSP.nd rfl (Or.inl rfl) (pe_bm0 PySem.F.plainAttrs_list PySem.F.slot_list_pop PySem.F.type_list_pop mt_pop (pv 1)))
        (pss_cons (ps_expr (pe_bm PySem.F.plainAttrs_list PySem.F.slot_list_append PySem.F.type_list_append mt_append (pv 2) (pa_cons (pv 3) pa_nil)))
        (pss_one (ps_expr (pe_bm PySem.F.plainAttrs_list PySem.F.slot_list_extend PySem.F.type_list_extend mt_extend (pv 1) (pa_cons (pe_lstRev (by rfl) (by rfl) mLi (by rfl) mRe (StX.pe_callS1 RF hr kI (by rfl) mI pass0 (pv 3))) pa_nil)))))))
      (pss_one (ps_ret (pv 2))))), ?_⟩
    refine ⟨Nat.zero_le _, fun a0 na0 => ⟨_, rfl, fun p np q1 nq1 => ⟨few (by show 4 ≤ 1000; decide), fun T nT => ⟨few (by show 1 ≤ 1000; decide), fun L nL => ⟨few (by show 0 ≤ 1000; decide), fun Fd nF => ?_⟩⟩⟩⟩⟩
    have s0 : Same H (upd H a0 (.tup [])) := same_new same_id na0
    have ha0 : (upd H a0 (.tup [])) a0 = some (.tup []) := upd_same
    generalize upd H a0 (.tup []) = Ha at s0 ha0 np nq1 nT nL nF ⊢
    have sA : Same Ha (upd (upd (upd (upd (upd Ha p (.dK [])) q1 (.dK [])) T (.tup [.ref a0, v, .ref p, .ref q1])) L (.lst [.ref T])) Fd (.lst [])) := same_new (same_new (same_new (same_new (same_new same_id np) nq1) nT) nL) nF
    have npq : p ≠ q1 := ne_of_none upd_same nq1
    have nTL : T ≠ L := ne_of_none upd_same nL
    have nLF : L ≠ Fd := ne_of_none upd_same nF
    have sT : Same (upd (upd Ha p (.dK [])) q1 (.dK [])) (upd (upd (upd (upd (upd Ha p (.dK [])) q1 (.dK [])) T (.tup [.ref a0, v, .ref p, .ref q1])) L (.lst [.ref T])) Fd (.lst [])) := same_new (same_new (same_new same_id nT) nL) nF
    have hp1 := sT p _ ((upd_ne npq).trans upd_same)
    have hq1 := sT q1 _ upd_same
    have hT1 := (same_new (u := .lst []) (same_new (u := .lst [.ref T]) same_id nL) nF) T _ upd_same
    have hL1 := (same_new (u := .lst []) same_id nF) L _ upd_same
    have hF1 : (upd (upd (upd (upd (upd Ha p (.dK [])) q1 (.dK [])) T (.tup [.ref a0, v, .ref p, .ref q1])) L (.lst [.ref T])) Fd (.lst [])) Fd = some (.lst []) := upd_same
    have nLH : H L = none := fresh_of (s0.trans (same_new (same_new (same_new (u := .dK []) same_id np) nq1) nT)) nL
    have nFH : H Fd = none := fresh_of (s0.trans (same_new (same_new (same_new (same_new (u := .dK []) same_id np) nq1) nT) nL)) nF
    have s1 : Same H (upd (upd (upd (upd (upd Ha p (.dK [])) q1 (.dK [])) T (.tup [.ref a0, v, .ref p, .ref q1])) L (.lst [.ref T])) Fd (.lst [])) := s0.trans sA
    have ha1 := sA _ _ ha0
    generalize upd (upd (upd (upd (upd Ha p (.dK [])) q1 (.dK [])) T (.tup [.ref a0, v, .ref p, .ref q1])) L (.lst [.ref T])) Fd (.lst []) = H1 at s1 hT1 hp1 hq1 hL1 hF1 ha1 ⊢
    refine ⟨CW K H v L Fd (bnd n t (fun _ => false) (fun _ => none)) (szT n t), ⟨_, none, [T], [], [(n, t, (fun _ => false), (fun _ => none))], [], rfl, s1, hL1, hF1, nLF, .cons ⟨⟨a0, [], v, p, q1, [], [], hT1, SqT.of ha1, Nat.zero_le _, dpM s1 hv, hp1, fun _ => rfl, hq1, ⟨List.nodup_nil, fun _ => rfl⟩, Nat.zero_le _, Nat.zero_le _⟩, hw, hn⟩ .nil, .nil, ?_, (fun _ z => by cases z), ?_, rfl⟩, ?_⟩
    · show totS [_] + 0 ≤ _
      unfold totS
      simp only [List.map_cons, List.map_nil, List.sum_cons, List.sum_nil]
      omega
    · unfold allB allO
      simp
    rintro mm σ H2 ⟨o3, ys, zs, ws, fs, rfl, s2, hL, hF, nLF, hys, hzs, htot, hf1, hroot, rfl⟩
    refine ⟨_, rfl, _, .inl ⟨ys.map V.ref, SqL.of hL, rfl⟩, ?_⟩
    rcases List.eq_nil_or_concat ws with rfl | ⟨wi, e, rfl⟩
    · cases hys
      refine iteF ?_
      have eb : allB ([] : List It4) = true := rfl
      rw [eb, Bool.and_true] at hroot
      exact ⟨_, rfl, q H2 Fd zs fs s2 hF hzs hf1 hroot.symm⟩
    rw [List.concat_eq_append] at hys htot hroot ⊢
    obtain ⟨yi, y, rfl, hyi, hy⟩ := paired_snoc hys
    have et : (!((yi ++ [y]).map V.ref).isEmpty) = true := by
      cases yi <;> rfl
    rw [et]
    refine iteT ⟨fun σ' H' => ∃ m', m' < totS (wi ++ [e]) ∧ CW K H v L Fd (bnd n t (fun _ => false) (fun _ => none)) (szT n t) m' σ' H', fun _ _ h => h, ?_⟩
    obtain ⟨n1, t1, N1, C1⟩ := e
    have hwf : wf n1 t1 = true := hy.2.1
    have hn1 : n1 ≤ 40 := hy.2.2
    cases n1 with
    | zero => cases hwf
    | succ n1 =>
    refine ⟨_, rfl, .inl ⟨rfl, _, SqL.of hL⟩, L, _, .ref y, rfl, rfl, hL, by simp, ?_⟩
    rw [List.map_append, List.map_singleton, List.dropLast_concat]
    have s3 : Same H (upd H2 L (.lst (yi.map V.ref))) := same_put s2 nLH
    have hL3 : (upd H2 L (.lst (yi.map V.ref))) L = some (.lst (yi.map V.ref)) := upd_same
    have hF3 : (upd H2 L (.lst (yi.map V.ref))) Fd = some (.lst (zs.map V.ref)) := (upd_ne nLF.symm).trans hF
    have hyi3 : Paired (CI K H (upd H2 L (.lst (yi.map V.ref)))) yi wi := L2.Paired.mapP hyi fun _ _ z => z.put hL
    have hzs3 : Paired (CI K H (upd H2 L (.lst (yi.map V.ref)))) zs fs := L2.Paired.mapP hzs fun _ _ z => z.put hL
    have hy3 : CI K H (upd H2 L (.lst (yi.map V.ref))) y (n1 + 1, t1, N1, C1) := hy.put hL
    clear hL hF hyi hzs hy
    generalize upd H2 L (.lst (yi.map V.ref)) = H3 at s3 hL3 hF3 hyi3 hzs3 hy3 ⊢
    have lzs := Paired.length hzs3
    have lyi := Paired.length hyi3
    have szp : szT (n1 + 1) t1 = 1 + ((partsOf t1).map (szT n1)).sum := by rw [szT]
    have et1 : totS (wi ++ [(n1 + 1, t1, N1, C1)]) = totS wi + szT (n1 + 1) t1 := by
      rw [tot_app]
      unfold totS
      simp only [List.map_cons, List.map_nil, List.sum_cons, List.sum_nil]
      omega
    have lwi := len_le_tot wi
    refine ⟨_, rfl, .inl ⟨rfl, _, SqL.of hF3⟩, _, rfl, Fd, zs.map V.ref, .ref y, rfl, rfl, hF3, by rw [List.length_map, sizeLine_eq]; omega, ?_⟩
    have s4 : Same H (upd H3 Fd (.lst (zs.map V.ref ++ [.ref y]))) := same_put s3 nFH
    have hF4 : (upd H3 Fd (.lst (zs.map V.ref ++ [.ref y]))) Fd = some (.lst ((zs ++ [y]).map V.ref)) := by rw [upd_same, List.map_append]; rfl
    have hL4 : (upd H3 Fd (.lst (zs.map V.ref ++ [.ref y]))) L = some (.lst (yi.map V.ref)) := (upd_ne nLF).trans hL3
    have hyi4 : Paired (CI K H (upd H3 Fd (.lst (zs.map V.ref ++ [.ref y])))) yi wi := L2.Paired.mapP hyi3 fun _ _ z => z.put hF3
    have hzs4 : Paired (CI K H (upd H3 Fd (.lst (zs.map V.ref ++ [.ref y])))) (zs ++ [y]) (fs ++ [(n1 + 1, t1, N1, C1)]) := Paired.snoc (L2.Paired.mapP hzs3 fun _ _ z => z.put hF3) (hy3.put hF3)
    have hy4 : CI K H (upd H3 Fd (.lst (zs.map V.ref ++ [.ref y]))) y (n1 + 1, t1, N1, C1) := hy3.put hF3
    clear hF3 hL3 hyi3 hzs3 hy3
    generalize upd H3 Fd (.lst (zs.map V.ref ++ [.ref y])) = H4 at s4 hF4 hL4 hyi4 hzs4 hy4 ⊢
    obtain ⟨sp, ss, u, a, b, ns, kvs, hyT, hsp, hd, hu1, ha, hns, hb, hkv, z1, z2⟩ := hy4.1
    simp only at hu1 hns hkv z1 z2 hd
    refine ⟨_, rfl, .inl ⟨rfl, _, SqL.of hL4⟩, _, rfl, y, _, rfl, .inl (SqT.of hyT), sp, ss, 40 - (n1 + 1), u, n1, t1, a, b, ns, kvs, N1, C1, 20 * (40 - (n1 + 1)), rfl, hsp, hd, by omega, hu1, hwf, ha, hns, hb, hkv, z1, z2, by omega, fun H5 R rs s45 nR hR hrs => ⟨R, _, rfl, SqL.of hR, fun R2 nR2 => ?_⟩⟩
    have hkf := kids_fst hwf N1 C1
    have hpw := parts_wf hwf
    have s56 : Same H5 (upd H5 R2 (.lst (rs.map V.ref).reverse)) := same_new same_id nR2
    have s46 := s45.trans s56
    have hR2 : (upd H5 R2 (.lst (rs.map V.ref).reverse)) R2 = some (.lst ((rs.reverse).map V.ref)) := by rw [upd_same, List.map_reverse]
    have hrs6 : Paired (Row K H4 (upd H5 R2 (.lst (rs.map V.ref).reverse)) (20 * (40 - (n1 + 1)) + 20) (40 - (n1 + 1) + 1)) rs (kidsS t1 N1 C1) := L2.Paired.mapP hrs fun _ _ z => z.same s56
    generalize upd H5 R2 (.lst (rs.map V.ref).reverse) = H6 at s46 hR2 hrs6 ⊢
    have hbn : bnd (n1 + 1) t1 N1 C1 = (okN t1 N1 C1 && (kidsS t1 N1 C1).all fun p => bnd n1 p.1 p.2.1 p.2.2) := by rw [bnd]
    generalize hkd : kidsS t1 N1 C1 = kd at hrs6 hkf hbn
    have kit := kid_items (H := H) hpw hn1 s46 (fun p hp => by rw [← hkf]; exact List.mem_map_of_mem hp) hrs6
    have nT : totS (kd.map fun p => (n1, p)) = ((partsOf t1).map (szT n1)).sum := by
      unfold totS
      rw [List.map_map, ← hkf, List.map_map]
      rfl
    have lrs := Paired.length hrs6
    have lkd := len_le_tot (kd.map fun p => (n1, p))
    rw [List.length_map] at lkd
    have hL6 := s46 _ _ hL4
    have hF6 := s46 _ _ hF4
    refine ⟨L, R2, yi.map V.ref, (rs.reverse).map V.ref, rfl, rfl, hL6, hR2, by rw [List.length_map, List.length_map, List.length_reverse, sizeLine_eq]; omega, ?_⟩
    have etot : totS (wi ++ (kd.map fun p => (n1, p)).reverse) + 1 = totS (wi ++ [(n1 + 1, t1, N1, C1)]) := by
      rw [tot_app, tot_rev, nT, et1, szp]
      omega
    refine ⟨totS (wi ++ (kd.map fun p => (n1, p)).reverse), by omega, _, yi ++ rs.reverse, zs ++ [y], wi ++ (kd.map fun p => (n1, p)).reverse, fs ++ [(n1 + 1, t1, N1, C1)], rfl, same_put (s4.trans s46) nLH, by rw [upd_same, List.map_append], (upd_ne nLF.symm).trans hF6, nLF, ?_, ?_, by rw [List.length_append, List.length_singleton]; omega, ?_, ?_, rfl⟩
    · exact paired_app (L2.Paired.mapP hyi4 fun _ _ z => (z.same s46).put hL6) (paired_rev (L2.Paired.mapP kit fun _ _ z => z.put hL6))
    · exact L2.Paired.mapP hzs4 fun _ _ z => (z.same s46).put hL6
    · intro e he
      rcases List.mem_append.mp he with z | z
      · exact hf1 e z
      · rw [List.mem_singleton.mp z]
        show 1 ≤ n1 + 1
        omega
    · rw [hroot]
      unfold allO allB
      rw [List.all_append, List.all_append, List.all_append, List.all_reverse, List.all_map]
      simp only [List.all_cons, List.all_nil, Bool.and_true, hbn]
      cases (fs.all fun e => okN e.2.1 e.2.2.1 e.2.2.2) <;> cases (wi.all fun e => bnd e.1 e.2.1 e.2.2.1 e.2.2.2) <;> cases okN t1 N1 C1 <;> simp [Function.comp_def]
theorem test_val {t : TT} {A R : TS} {D : Ends} {σ : L2.St} {H : Hp} (c0 : Bool) (ht : ∀ Q' : Bool → Hp → Prop, Q' c0 H → t σ H Q') (h : if c0 = true then A { D with nx := R D } σ H else R D σ H) : tSeq (tIfS t A tNext) R D σ H := ht _ h
theorem test_end {t : TT} {A : TS} {D : Ends} {σ : L2.St} {H : Hp} (c0 : Bool) (ht : ∀ Q' : Bool → Hp → Prop, Q' c0 H → t σ H Q') (h : if c0 = true then A D σ H else D.nx σ H) : tIfS t A tNext D σ H := ht _ (by cases c0 <;> exact h)
def spFU (K : PySem.W.Frag) : Sp := fun vs H Q _ => ∃ (v : V) (k0 : Addr) (n : Nat) (t : PyData), vs = [v, .ref k0] ∧ H k0 = some (.dK []) ∧ Dp K H v t ∧ wf n t = true ∧ n ≤ 40 ∧ szT n t ≤ 10000000 ∧ ∀ H' r, Same H H' → decide (r = V.non) = bnd n t (fun _ => false) (fun _ => none) → Q r H'
theorem ok_fu {f fS fM : Addr} {fd fdS fdM : FuncData} (F : Fun K "first_unbound" "first_unbound" sFU f fd)
    (GS : FnOk P w K mg base CX0 3 fS fdS ["term"] (spSP K)) (mS : mg "_scoped_parts" = some (.ref fS)) (kS : PySem.W.keepIn K (.ref fS) = true) (bS : Binds K fdS ["term"] [])
    (GM : FnOk P w K mg base CX0 1 fM fdM ["call", "calls", "known"] (spMB K)) (mM : mg "_may_be_called" = some (.ref fM)) (kM : PySem.W.keepIn K (.ref fM) = true) (bM : Binds K fdM ["call", "calls", "known"] []) : FnOk P w K mg base CX0 4 f fd ["term", "known"] (spFU K) := by
  refine F.ok scFU (fun vs H Q E h => ?_) (fun cdv A outer s H vs Q E hr h => ?_)
  · obtain ⟨v, k0, n, t, rfl, _⟩ := h
    rfl
  · obtain ⟨v, k0, n, t, rfl, hk0, hv, hw, hn, hz, q⟩ := h
    have hu := hu_of hr
    have hr1 : Room 1 _ := hr.mono (show 1 ≤ 3 by decide)
    refine ⟨_, pss_cons (ps_for PassesOwn.never rfl (pi_list (pe_call GS hr (by rfl) mS kS bS .nil pass0 (pa_cons (pv 0) pa_nil)))
        (pg_tup (by rfl) (pgs_cons (pg_name (i := 2) scFU.nd rfl (.inl rfl)) (pgs_cons (pg_name (i := 3) scFU.nd rfl (.inl rfl)) (pgs_cons (pg_name (i := 4) scFU.nd rfl (.inl rfl)) (pgs_cons (pg_name (i := 5) scFU.nd rfl (.inl rfl)) pgs_nil)))))
        (pss_cons (ps_if (PW.pt (pw_and (pt_cmpR op_eq (pe_ix ix_tup (pv 3) pe_int (fun _ _ => rfl)) pe_str (nomark _)) (pw_and1 (pt_cmp (pc_dnotin hu (pe_ix ix_tup (pv 3) pe_int (fun _ _ => rfl)) (pv 4)) rfl)))) (pss_one (ps_ret (pe_ix ix_tup (pv 3) pe_int (fun _ _ => rfl)))) pss_nil)
        (pss_one (ps_if (PW.pt (pw_and (pt_cmpR op_eq (pe_ix ix_tup (pv 3) pe_int (fun _ _ => rfl)) pe_str (nomark _)) (pw_and1 (pt_not (pt_val (pe_call GM hr1 (by rfl) mM kM bM .nil pass0 (pa_cons (pv 3) (pa_cons (pv 5) (pa_cons (pv 1) pa_nil))))))))) (pss_one (ps_ret (pe_ix ix_tup (pv 3) pe_int (fun _ _ => rfl)))) pss_nil))))
      (pss_one (ps_ret pe_non)), ?_⟩
    refine ⟨_, rfl, v, n, t, rfl, hv, hw, hn, hz, fun H1 L qs ws s1 hL hqs hpos hall => ⟨L, rfl, ⟨_, SqL.of hL⟩, ?_⟩⟩
    have lqs := Paired.length hqs
    refine for_list (K := K) (a := L) (xs := qs.map V.ref) (fun i σ H' => ∃ o2 o3 o4 o5 : Option V, σ = [some v, some (.ref k0), o2, o3, o4, o5] ∧ H' = H1 ∧ allO (ws.take i) = true) ⟨none, none, none, none, rfl, rfl, rfl⟩ ?_ ?_ ?_
    · rintro i σ H' _ ⟨_, _, _, _, _, rfl, _⟩
      exact SqL.of hL
    · rintro i x σ H' hx ⟨o2, o3, o4, o5, rfl, rfl, hok⟩
      rw [List.getElem?_map] at hx
      obtain ⟨q0, hq0, rfl⟩ : ∃ q0, qs[i]? = some q0 ∧ x = .ref q0 := by
        cases e : qs[i]? with
        | none => rw [e] at hx; cases hx
        | some q0 => rw [e] at hx; exact ⟨q0, rfl, (Option.some.inj hx).symm⟩
      obtain ⟨⟨n1, t1, N1, C1⟩, he, ⟨sp, ss, u, a, b, ns, kvs, hyT, hsp, hd, hu1, ha, hns, hb, hkv, z1, z2⟩, hwf, hn1⟩ := paired_get hqs hq0
      have hp1 := hpos _ (List.mem_of_getElem? he)
      simp only at hu1 hns hkv hwf hn1 hp1
      cases n1 with
      | zero => cases hwf
      | succ n1 =>
      obtain ⟨wd, fs, ks, rfl, hkk, hf⟩ := wf_cases hwf
      have hk1 := s1 _ _ hk0
      have bad : okN (.tuple (.str wd :: fs)) N1 C1 = false → bnd n t (fun _ => false) (fun _ => none) = false := fun z => by
        rw [← hall]
        exact List.all_eq_false.mpr ⟨_, List.mem_of_getElem? he, by simpa using z⟩
      cases hu1 with
      | @tup av xs _ hseq hall2 =>
      cases hall2 with
      | @cons v0 vs d0 ds h0 hvs =>
      cases h0
      refine ⟨q0, _, rfl, SqT.of hyT, rfl, _, _, rfl, _, _, rfl, _, _, rfl, _, _, rfl, rfl, ?_⟩
      refine test_val (decide (wd = "name") && !okN (.tuple (.str wd :: fs)) N1 C1) (fun Q' k => ?_) ?_
      · refine ⟨_, rfl, av, _, 0, _, rfl, rfl, hseq, at_0 _ _, rfl, _, rfl, ite2 (fun c => ?_) (fun c => ?_)⟩
        · have e : wd = "name" := V.str.inj (of_decide_eq_true c)
          subst e
          obtain ⟨x, rfl⟩ := name_cases hkk hf
          cases hvs with
          | @cons v1 vs1 _ _ h1 hn =>
          cases h1
          refine ⟨_, rfl, av, _, 1, _, rfl, rfl, hseq, at_nat (n := 1) rfl, _, rfl, a, _, rfl, DGet.k (k := .inr x) ha, _, rfl, ?_⟩
          rw [hns x]
          have eo : okN (.tuple [.str "name", .str x]) N1 C1 = N1 x := by
            simp only [okN, if_true, strD]
          rw [decide_eq_true rfl, eo, Bool.true_and] at k
          exact k
        · have e : ¬ wd = "name" := fun e => c (by rw [e]; exact decide_eq_true rfl)
          rw [decide_eq_false e, Bool.false_and] at k
          exact k
      refine ite2 (fun c => ?_) (fun c => ?_)
      · rw [Bool.and_eq_true, Bool.not_eq_true'] at c
        have e := of_decide_eq_true c.1
        subst e
        obtain ⟨x, rfl⟩ := name_cases hkk hf
        cases hvs with
        | @cons v1 vs1 _ _ h1 hn =>
        cases h1
        exact ⟨_, rfl, av, _, 1, _, rfl, rfl, hseq, at_nat (n := 1) rfl, q _ _ s1 (by rw [bad c.2]; exact decide_eq_false (fun z => by cases z))⟩
      refine test_end (decide (wd = "call") && !okN (.tuple (.str wd :: fs)) N1 C1) (fun Q' k => ?_) ?_
      · refine ⟨_, rfl, av, _, 0, _, rfl, rfl, hseq, at_0 _ _, rfl, _, rfl, ite2 (fun c => ?_) (fun c => ?_)⟩
        · have e : wd = "call" := V.str.inj (of_decide_eq_true c)
          subst e
          obtain ⟨x, gs, rfl, g8, gall⟩ := call_cases hkk hf
          cases hvs with
          | @cons v1 vs1 _ _ h1 hn =>
          cases hn with
          | @cons v2 vs2 _ _ h2 hn2 =>
          cases hn2
          cases h1
          cases h2 with
          | @tup ag zs _ hsg hag =>
          have lzs := dpl_len hag
          have eo : okN (.tuple [.str "call", .str x, .tuple gs]) N1 C1 = decide (C1 x = some gs.length) := by
            simp only [okN, if_true, strD, itemsD]
            exact decide_eq_decide.mpr Iff.rfl
          rw [decide_eq_true rfl, eo, Bool.true_and] at k
          refine ⟨_, rfl, _, rfl, _, rfl, av, b, k0, ag, x, zs, kvs, C1, rfl, hseq, hsg, hb, hkv, hk1, _, rfl, ?_⟩
          rw [lzs]
          exact k
        · have e : ¬ wd = "call" := fun e => c (by rw [e]; exact decide_eq_true rfl)
          rw [decide_eq_false e, Bool.false_and] at k
          exact k
      refine ite2 (fun c2 => ?_) (fun c2 => ?_)
      · rw [Bool.and_eq_true, Bool.not_eq_true'] at c2
        have e := of_decide_eq_true c2.1
        subst e
        obtain ⟨x, gs, rfl, g8, gall⟩ := call_cases hkk hf
        cases hvs with
        | @cons v1 vs1 _ _ h1 hn =>
        cases h1
        exact ⟨_, rfl, av, _, 1, _, rfl, rfl, hseq, at_nat (n := 1) rfl, q _ _ s1 (by rw [bad c2.2]; exact decide_eq_false (fun z => by cases z))⟩
      have eok : okN (.tuple (.str wd :: fs)) N1 C1 = true := by
        by_cases e1 : wd = "name"
        · rw [decide_eq_true e1, Bool.true_and, Bool.not_eq_true, Bool.not_eq_false'] at c
          exact c
        by_cases e2 : wd = "call"
        · rw [decide_eq_true e2, Bool.true_and, Bool.not_eq_true, Bool.not_eq_false'] at c2
          exact c2
        exact okN_else e1 e2 _ _
      refine ⟨_, _, _, _, rfl, rfl, ?_⟩
      rw [List.take_add_one, he]
      unfold allO at hok ⊢
      rw [List.all_append, hok]
      simpa using eok
    · rintro σ H' ⟨o2, o3, o4, o5, rfl, rfl, hok⟩
      rw [List.length_map, lqs, List.take_length] at hok
      exact q _ _ s1 (by rw [← hall, hok]; rfl)
def spCl (K : PySem.W.Frag) : Sp := fun vs H Q _ => ∃ (v : V) (n : Nat) (t : PyData), vs = [v] ∧ Dp K H v t ∧ wf n t = true ∧ n ≤ 40 ∧ szT n t ≤ 10000000 ∧ ∀ H', Same H H' → Q (.bl (bnd n t (fun _ => false) (fun _ => none))) H'
theorem ok_cl {f fU : Addr} {fd fdU : FuncData} (F : Fun K "is_closed" "is_closed" sCl f fd)
    (GU : FnOk P w K mg base CX0 4 fU fdU ["term", "known"] (spFU K)) (mU : mg "first_unbound" = some (.ref fU)) (kU : PySem.W.keepIn K (.ref fU) = true) (bU : Binds K fdU ["term", "known"] []) : FnOk P w K mg base CX0 5 f fd ["term"] (spCl K) := by
  refine F.ok scCl (fun vs H Q E h => ?_) (fun cdv A outer s H vs Q E hr h => ?_)
  · obtain ⟨v, n, t, rfl, _⟩ := h
    rfl
  · obtain ⟨v, n, t, rfl, hv, hw, hn, hz, q⟩ := h
    refine ⟨_, pss_one (ps_ret (pe_cmpR op_isN (pe_call GU hr (by rfl) mU kU bU .nil pass0 (pa_cons (pv 0) (pa_cons pe_dnewK pa_nil))) pe_non (nomark _))), ?_⟩
    refine ⟨_, rfl, fun p np => ?_⟩
    have s1 : Same H (upd H p (.dK [])) := same_new same_id np
    refine ⟨v, p, n, t, rfl, upd_same, dpM s1 hv, hw, hn, hz, fun H' r s2 e => ⟨rfl, ?_⟩⟩
    show Q (.bl (decide (r = V.non))) H'
    rw [e]
    exact q H' (s1.trans s2)
end
end Toy


namespace Toy
open PySem PySem.Spec L2 PyProof.Rows PySem.W
/-! ### some truth is told -/
abbrev sIsInt : Stmt := top 3
abbrev sName : Stmt := top 4
abbrev sFree : Stmt := top 5
abbrev sLeafV : Stmt := top 11
abbrev sTxt : Stmt := top 12
def spStr : Sp := fun vs H Q _ => ∃ k : Str, vs = [.str k] ∧ okK k = true ∧ ∀ H' b, Same H H' → Q (.bl b) H'
def spInt : Sp := fun vs H Q _ => ∃ i : Int, vs = [.int i] ∧ ∀ H' b, Same H H' → Q (.bl b) H'
def LfV (v : V) : Prop := v = .non ∨ (∃ b, v = .bl b) ∨ (∃ i, v = .int i) ∨ ∃ x, v = .str x ∧ okK x = true
def spLf : Sp := fun vs H Q _ => ∃ v : V, vs = [v] ∧ LfV v ∧ ∀ H' b, Same H H' → Q (.bl b) H'
abbrev NTx : List Str := ["text", "codes", "letter", "code"]
section
variable {P : Program} {w : World} {K : PySem.W.Frag} {mg : Str → Option Value} {base : Heap}
theorem scNm : FnScope ["value", "letter"] ["value"] (defScope sName) := ⟨rfl, rfl, rfl, by decide +kernel, rfl, by decide +kernel, by decide +kernel⟩
theorem scV1 : FnScope ["value"] ["value"] (defScope sIsInt) := ⟨rfl, rfl, rfl, by decide +kernel, rfl, by decide +kernel, by decide +kernel⟩
theorem scV2 : FnScope ["value"] ["value"] (defScope sFree) := ⟨rfl, rfl, rfl, by decide +kernel, rfl, by decide +kernel, by decide +kernel⟩
theorem scV3 : FnScope ["value"] ["value"] (defScope sLeafV) := ⟨rfl, rfl, rfl, by decide +kernel, rfl, by decide +kernel, by decide +kernel⟩
theorem scTx : FnScope NTx ["text"] (defScope sTxt) := ⟨rfl, rfl, rfl, by decide +kernel, rfl, by decide +kernel, by decide +kernel⟩
theorem ok_isInt {f : Addr} {fd : FuncData} (F : Fun K "is_integer" "is_integer" sIsInt f fd) (mI : mg "isinstance" = none) (mB : mg "bool" = none) (mN : mg "int" = none) : FnOk P w K mg base CX0 1 f fd ["value"] spInt := by
  refine F.ok scV1 (fun vs H Q E h => ?_) (fun cdv A outer s H vs Q E hr h => ?_)
  · obtain ⟨i, rfl, _⟩ := h
    rfl
  · obtain ⟨i, rfl, q⟩ := h
    refine ⟨_, pss_one (ps_ret (pe_and (pe_callB call_isi (by rfl) mI PyProof.Rows.boot_isinstance (pa_cons (pv 0) (pa_cons (pe_bltn (v := .ty "int") (by rfl) mN (by decide +kernel) rfl) pa_nil))) (pe_one (pe_not (pe_callB call_isi (by rfl) mI PyProof.Rows.boot_isinstance (pa_cons (pv 0) (pa_cons (pe_bltn (v := .ty "bool") (by rfl) mB (by decide +kernel) rfl) pa_nil))))))), ?_⟩
    have ty : TyX K H (.int i) (.type "int") := .base (.int i)
    exact ⟨_, rfl, _, _, _, _, true, rfl, .ty _, ty, kit_ty (by decide +kernel), _, rfl, iteT ⟨_, rfl, _, _, _, _, false, rfl, .ty _, ty, kit_ty (by decide +kernel), _, rfl, q H _ same_id⟩⟩
theorem ok_name {f : Addr} {fd : FuncData} {u8 : Value} (F : Fun K "is_name" "is_name" sName f fd) (m8 : mg "MOST_LETTERS_words" = some u8) (r8 : RelV (.int 8) u8) (mI : mg "isinstance" = none) (mS : mg "str" = none) (mLen : mg "len" = none) (mA : mg "all" = none) : FnOk P w K mg base CX0 1 f fd ["value"] spStr := by
  refine F.ok scNm (fun vs H Q E h => ?_) (fun cdv A outer s H vs Q E hr h => ?_)
  · obtain ⟨k, rfl, _⟩ := h
    rfl
  · obtain ⟨k, rfl, hok, q⟩ := h
    refine ⟨_, pss_cons (ps_if (PW.pt (pw_or (pt_not (pt_val (pe_callB call_isi (by rfl) mI PyProof.Rows.boot_isinstance (pa_cons (pv 0) (pa_cons (pe_bltn (v := .ty "str") (by rfl) mS (by decide +kernel) rfl) pa_nil)))))
          (pw_or1 (pt_not (pt_chain op_le op_le pe_int (pe_callB call_len_str (by rfl) mLen PySem.boot_len (pa_cons (pv 0) pa_nil)) (pe_glob (v := .int 8) (by rfl) m8 r8)))))) (pss_one (ps_ret pe_bl)) pss_nil)
      (pss_one (ps_ret (pe_callB (cr_all rfl) (by rfl) mA (by decide +kernel) (pa_cons (pe_lc (own := [("letter", 1)]) (g := gName 1) (by rfl) scNm.nd (pi_str (pv 0))
            (blkOk_by (own := [("letter", 1)]) (N := ["value", "letter"]) (sc := defScope sName) (by decide +kernel)) (fun _ _ _ _ _ => pg_name (i := 1) scNm.nd rfl (Or.inl rfl)) (fun _ _ _ _ _ => pts_nil)
            (fun _ _ _ _ _ => pe_chain op_le_str op_le_str pe_str (pv 1) pe_str)) pa_nil)))), ?_⟩
    have ty : TyX K H (.str k) (.type "str") := .base (.str k)
    refine ⟨_, rfl, _, _, _, _, true, rfl, .ty _, ty, kit_ty (by decide +kernel), _, rfl, iteF ⟨_, rfl, k, rfl, few (okK_2 hok), 1, _, rfl, rfl, _, rfl, ite2 (fun c => ?_) (fun c => ?_)⟩⟩
    · refine ⟨_, _, rfl, rfl, _, rfl, ?_⟩
      refine ite2 (fun c2 => ?_) (fun c2 => ?_)
      · exact q H _ same_id
      refine ⟨_, rfl, k, rfl, fun D nD => ?_⟩
      refine lc_it walk_str (fun i H' => Same H H' ∧ ∃ bs : List Bool, H' D = some (.lst (bs.map V.bl)) ∧ bs.length ≤ i) ⟨same_new same_id nD, [], upd_same, Nat.le_refl _⟩ (fun _ _ _ _ => trivial) ?_ ?_
      · rintro i x H1 H' hi ⟨s2, bs, hD, lb⟩ ⟨rfl, c0, hc, rfl⟩
        have hi8 : i < k.cps.size := by
          rcases Nat.lt_or_ge i k.cps.size with z | z
          · exact z
          · rw [Array.getElem?_eq_none z] at hc
            cases hc
        have l1000 : k.cps.size ≤ 1000 := okK_2 hok
        have step : ∀ b : Bool, ∃ acc, H' D = some (.lst acc) ∧ acc.length < sizeLine ∧ (Same H (upd H' D (.lst (acc ++ [V.bl b]))) ∧ ∃ bs : List Bool, (upd H' D (.lst (acc ++ [V.bl b]))) D = some (.lst (bs.map V.bl)) ∧ bs.length ≤ i + 1) := fun b =>
          ⟨_, hD, small1000 (by rw [List.length_map]; omega), same_put s2 nD, bs ++ [b], by rw [upd_same, List.map_append]; rfl, by rw [List.length_append, List.length_singleton]; omega⟩
        refine ⟨rfl, _, rfl, _, _, rfl, rfl, _, rfl, ite2 (fun _ => ?_) (fun _ => step _)⟩
        exact ⟨_, _, rfl, rfl, step _⟩
      · rintro H' ⟨s2, bs, hD, _⟩
        exact ⟨D, _, rfl, SqL.of hD, q H' _ s2⟩
    · exact ⟨_, rfl, ite2 (fun _ => q H _ same_id) (fun c2 => absurd rfl c2)⟩
theorem ok_free {f fN aW : Addr} {fd fdN : FuncData} {ws : List Str} (F : Fun K "is_free_name" "is_free_name" sFree f fd) (GN : FnOk P w K mg base CX0 1 fN fdN ["value"] spStr) (mN : mg "is_name" = some (.ref fN)) (kN : PySem.W.keepIn K (.ref fN) = true) (bN : Binds K fdN ["value"] []) (mW : mg "WORDS" = some (.ref aW)) (WK : TupK K aW ws) : FnOk P w K mg base CX0 2 f fd ["value"] spStr := by
  refine F.ok scV2 (fun vs H Q E h => ?_) (fun cdv A outer s H vs Q E hr h => ?_)
  · obtain ⟨k, rfl, _⟩ := h
    rfl
  · obtain ⟨k, rfl, hok, q⟩ := h
    refine ⟨_, pss_one (ps_ret (pe_and (pe_call GN hr (by rfl) mN kN bN .nil pass0 (pa_cons (pv 0) pa_nil)) (pe_one (pe_cmpR op_notIn_seq (pv 0) (pe_glob (v := .ref aW) (by rfl) mW rfl) (by rfl))))), ?_⟩
    exact ⟨_, rfl, k, rfl, hok, fun H1 b s1 => ⟨_, rfl, ite2 (fun _ => ⟨_, rfl, aW, _, rfl, .inr (WK H1), rfl, flat_strs ws, q H1 _ s1⟩) (fun _ => q H1 _ s1)⟩⟩
theorem ok_txt {f : Addr} {fd : FuncData} {u2 u3 : Value} (F : Fun K "_is_text" "_is_text" sTxt f fd) (m2 : mg "MOST_LETTERS_data" = some u2) (r2 : RelV (.int 200) u2) (m3 : mg "PERCENT_SIGN" = some u3) (r3 : RelV (.int 37) u3) (mLen : mg "len" = none) (mO : mg "ord" = none) (mA : mg "all" = none) : FnOk P w K mg base CX0 1 f fd ["text"] spStr := by
  refine F.ok scTx (fun vs H Q E h => ?_) (fun cdv A outer s H vs Q E hr h => ?_)
  · obtain ⟨x, rfl, _⟩ := h
    rfl
  · obtain ⟨x, rfl, hok, q⟩ := h
    have l1000 : x.cps.size ≤ 1000 := okK_2 hok
    refine ⟨_, pss_cons (ps_if (pt_cmpR op_gt (pe_callB call_len_str (by rfl) mLen PySem.boot_len (pa_cons (pv 0) pa_nil)) (pe_glob (v := .int 200) (by rfl) m2 r2) (nomark _)) (pss_one (ps_ret pe_bl)) pss_nil)
      (pss_cons (ps_setLc (i := 1) (own := [("letter", 2)]) (g := gName 2) (by rfl) scTx.nd rfl rfl (sw_true rfl rfl rfl (by decide +kernel)) (pi_str (pv 0))
            (blkOk_by (own := [("letter", 2)]) (N := NTx) (sc := defScope sTxt) (by decide +kernel)) (fun _ _ _ _ _ => pg_name (i := 2) scTx.nd rfl (Or.inl rfl)) (fun _ _ _ _ _ => pts_nil)
            (fun _ _ _ _ _ => pe_callB call_ord (by rfl) mO (by decide +kernel) (pa_cons (pv 2) pa_nil)))
      (pss_one (ps_ret (pe_callB (cr_all rfl) (by rfl) mA (by decide +kernel) (pa_cons (pe_lc (own := [("code", 3)]) (g := gName 3) (by rfl) scTx.nd (pi_list (pv 1))
            (blkOk_by (own := [("code", 3)]) (N := NTx) (sc := defScope sTxt) (by decide +kernel)) (fun _ _ _ _ _ => pg_name (i := 3) scTx.nd rfl (Or.inl rfl)) (fun _ _ _ _ _ => pts_nil)
            (fun _ _ _ _ _ => pe_and (pe_chain op_le op_le pe_int (pv 3) pe_int) (pe_one (pe_cmpR op_ne (pv 3) (pe_glob (v := .int 37) (by rfl) m3 r3) (nomark _))))) pa_nil))))), ?_⟩
    refine ⟨_, rfl, x, rfl, few (okK_2 hok), _, _, rfl, rfl, _, rfl, ite2 (fun c => ?_) (fun c => ?_)⟩
    · exact q H _ same_id
    · refine ⟨_, rfl, x, rfl, fun D nD => ?_⟩
      refine lc_it walk_str (fun i H' => Same H H' ∧ ∃ ns : List Nat, H' D = some (.lst (ns.map fun (c : Nat) => V.int (c : Nat))) ∧ ns.length ≤ i) ⟨same_new same_id nD, [], upd_same, Nat.le_refl _⟩ (fun _ _ _ _ => trivial) ?_ ?_
      · rintro i y H1 H' hi ⟨s2, ns, hD, ln⟩ ⟨rfl, c, hc, rfl⟩
        have hi8 : i < x.cps.size := by
          rcases Nat.lt_or_ge i x.cps.size with z | z
          · exact z
          · rw [Array.getElem?_eq_none z] at hc
            cases hc
        exact ⟨rfl, _, rfl, _, rfl, rfl, _, hD, small1000 (by rw [List.length_map]; omega), same_put s2 nD, ns ++ [c], by rw [upd_same, List.map_append]; rfl, by rw [List.length_append, List.length_singleton]; omega⟩
      · rintro H1 ⟨s1, ns, hD, ln⟩
        refine ⟨_, rfl, D, rfl, ⟨_, SqL.of hD⟩, fun L nL => ?_⟩
        refine lc_list (K := K) (a := D) (xs := ns.map fun (c : Nat) => V.int (c : Nat)) (fun i H' => Same H1 H' ∧ ∃ bs : List Bool, H' L = some (.lst (bs.map V.bl)) ∧ bs.length ≤ i) ⟨same_new same_id nL, [], upd_same, Nat.le_refl _⟩ ?_ ?_ ?_
        · rintro i H' _ ⟨s2, _⟩
          exact SqL.of (s2 _ _ hD)
        · rintro i y H' hy ⟨s2, bs, hL, lb⟩
          have hil : i < ns.length := by
            rcases Nat.lt_or_ge i ns.length with z | z
            · exact z
            · rw [List.getElem?_eq_none (by rw [List.length_map]; exact z)] at hy
              cases hy
          obtain ⟨c, hc, rfl⟩ : ∃ c, ns[i]? = some c ∧ V.int ((c : Nat) : Int) = y := by simpa using hy
          have step : ∀ b : Bool, ∃ acc, H' L = some (.lst acc) ∧ acc.length < sizeLine ∧ (Same H1 (upd H' L (.lst (acc ++ [V.bl b]))) ∧ ∃ bs : List Bool, (upd H' L (.lst (acc ++ [V.bl b]))) L = some (.lst (bs.map V.bl)) ∧ bs.length ≤ i + 1) := fun b =>
            ⟨_, hL, small1000 (by rw [List.length_map]; omega), same_put s2 nL, bs ++ [b], by rw [upd_same, List.map_append]; rfl, by rw [List.length_append, List.length_singleton]; omega⟩
          refine ⟨rfl, _, rfl, _, _, rfl, rfl, _, rfl, ite2 (fun _ => ⟨_, _, rfl, rfl, _, rfl, ite2 (fun _ => ⟨_, rfl, rfl, step _⟩) (fun _ => step _)⟩) (fun _ => ⟨_, rfl, ite2 (fun z => by cases z) (fun _ => step _)⟩)⟩
        · rintro H' ⟨s2, bs, hL, _⟩
          exact ⟨L, _, rfl, SqL.of hL, q H' _ (s1.trans s2)⟩
theorem ok_leafV {f fT : Addr} {fd fdT : FuncData} {u1 : Value} (F : Fun K "is_leaf" "is_leaf" sLeafV f fd) (GT : FnOk P w K mg base CX0 1 fT fdT ["text"] spStr) (mT : mg "_is_text" = some (.ref fT)) (kT : PySem.W.keepIn K (.ref fT) = true) (bT : Binds K fdT ["text"] [])
    (m1 : mg "GREATEST" = some u1) (r1 : RelV (.int (10 ^ 30)) u1) (mI : mg "isinstance" = none) (mB : mg "bool" = none) (mN : mg "int" = none) (mS : mg "str" = none) : FnOk P w K mg base CX0 2 f fd ["value"] spLf := by
  refine F.ok scV3 (fun vs H Q E h => ?_) (fun cdv A outer s H vs Q E hr h => ?_)
  · obtain ⟨v, rfl, _⟩ := h
    rfl
  · obtain ⟨v, rfl, hv, q⟩ := h
    refine ⟨_, pss_cons (ps_if (PW.pt (pw_or (pt_cmpR op_isN (pv 0) pe_non (nomark _)) (pw_or1 (pt_val (pe_callB call_isi (by rfl) mI PyProof.Rows.boot_isinstance (pa_cons (pv 0) (pa_cons (pe_bltn (v := .ty "bool") (by rfl) mB (by decide +kernel) rfl) pa_nil))))))) (pss_one (ps_ret pe_bl)) pss_nil)
      (pss_cons (ps_if (pt_val (pe_callB call_isi (by rfl) mI PyProof.Rows.boot_isinstance (pa_cons (pv 0) (pa_cons (pe_bltn (v := .ty "int") (by rfl) mN (by decide +kernel) rfl) pa_nil)))) (pss_one (ps_ret (pe_chain op_le op_le (pe_un un_neg (pe_glob (v := .int (10 ^ 30)) (by rfl) m1 r1)) (pv 0) (pe_glob (v := .int (10 ^ 30)) (by rfl) m1 r1)))) pss_nil)
      (pss_one (ps_ret (pe_and (pe_callB call_isi (by rfl) mI PyProof.Rows.boot_isinstance (pa_cons (pv 0) (pa_cons (pe_bltn (v := .ty "str") (by rfl) mS (by decide +kernel) rfl) pa_nil))) (pe_one (pe_call GT hr (by rfl) mT kT bT .nil pass0 (pa_cons (pv 0) pa_nil))))))), ?_⟩
    refine ⟨_, rfl, rfl, _, rfl, ?_⟩
    rcases hv with rfl | ⟨b, rfl⟩ | ⟨i, rfl⟩ | ⟨x, rfl, hx⟩
    · exact iteT (iteT (q H _ same_id))
    · have ty : TyX K H (.bl b) (.type "bool") := .base (.bl b)
      exact iteF ⟨_, rfl, _, _, _, _, true, rfl, .ty _, ty, kit_ty (by decide +kernel), _, rfl, iteT (q H _ same_id)⟩
    · have ty : TyX K H (.int i) (.type "int") := .base (.int i)
      exact iteF ⟨_, rfl, _, _, _, _, false, rfl, .ty _, ty, kit_ty (by decide +kernel), _, rfl, iteF ⟨_, rfl, _, _, _, _, true, rfl, .ty _, ty, kit_ty (by decide +kernel), _, rfl, iteT ⟨_, rfl, _, rfl, _, _, rfl, rfl, _, rfl, ite2 (fun _ => ⟨_, _, rfl, rfl, q H _ same_id⟩) (fun _ => q H _ same_id)⟩⟩⟩
    · have ty : TyX K H (.str x) (.type "str") := .base (.str x)
      exact iteF ⟨_, rfl, _, _, _, _, false, rfl, .ty _, ty, kit_ty (by decide +kernel), _, rfl, iteF ⟨_, rfl, _, _, _, _, false, rfl, .ty _, ty, kit_ty (by decide +kernel), _, rfl, iteF ⟨_, rfl, _, _, _, _, true, rfl, .ty _, ty, kit_ty (by decide +kernel), _, rfl, iteT ⟨_, rfl, x, rfl, hx, q⟩⟩⟩⟩
end
end Toy


namespace Toy
open PySem PySem.Spec L2 PyProof.Rows PySem.W
abbrev sUnl : Stmt := top 33
abbrev sEnts : Stmt := top 32
abbrev sBeg : Stmt := top 19
abbrev sNar : Stmt := top 20
def spUnl (K : PySem.W.Frag) : Sp := fun vs H Q _ => ∃ (a : Addr) (ks : List Str), vs = [.ref a] ∧ (SqL K H a (ks.map V.str) ∨ SqT K H a (ks.map V.str)) ∧ ks.length ≤ 100 ∧ ∀ H' b, Same H H' → Q (.bl b) H'
def spEnts (K : PySem.W.Frag) : Sp := fun vs H Q _ => ∃ (a : Addr) (us : List V) (gs : List PyData) (p : PyData → Bool), vs = [.ref a] ∧ SqT K H a us ∧ DpAll K H us gs ∧ gs.length ≤ 8 ∧ gs.all (isEnt p) = true ∧ ∀ H' b, Same H H' → Q (.bl b) H'
def spBeg : Sp := fun vs H Q _ => ∃ (x k : Str) (ks : List Str), vs = [.str x, .str k] ∧ formOf x = some ks ∧ ∀ H' b, Same H H' → Q (.bl b) H'
def spNar : Sp := fun vs H Q _ => ∃ (x k : Str), vs = [.str x, .str k] ∧ ∀ H' y, Same H H' → Q (.str y) H'
abbrev NEn : List Str := ["values", "entry", "_", "key"]
section
variable {P : Program} {w : World} {K : PySem.W.Frag} {mg : Str → Option Value} {base : Heap}
theorem scUn : FnScope ["names"] ["names"] (defScope sUnl) := ⟨rfl, rfl, rfl, by decide +kernel, rfl, by decide +kernel, by decide +kernel⟩
theorem scEn : FnScope NEn ["values"] (defScope sEnts) := ⟨rfl, rfl, rfl, by decide +kernel, rfl, by decide +kernel, by decide +kernel⟩
theorem scBe : FnScope ["word", "kind"] ["word", "kind"] (defScope sBeg) := ⟨rfl, rfl, rfl, by decide +kernel, rfl, by decide +kernel, by decide +kernel⟩
theorem scNa : FnScope ["outer", "kind"] ["outer", "kind"] (defScope sNar) := ⟨rfl, rfl, rfl, by decide +kernel, rfl, by decide +kernel, by decide +kernel⟩
theorem ok_nar {f : Addr} {fd : FuncData} (F : Fun K "narrowed" "narrowed" sNar f fd) : FnOk P w K mg base CX0 1 f fd ["outer", "kind"] spNar := by
  refine F.ok scNa (fun vs H Q E h => ?_) (fun cdv A outer s H vs Q E hr h => ?_)
  · obtain ⟨x, k, rfl, _⟩ := h
    rfl
  · obtain ⟨x, k, rfl, q⟩ := h
    refine ⟨_, pss_one (ps_ret (pe_ifExp (pt_cmpR op_eq (pv 1) pe_str (nomark _)) (pv 0) (pv 1))), ?_⟩
    exact ⟨_, rfl, rfl, _, rfl, ite2 (fun _ => ⟨_, rfl, q H _ same_id⟩) (fun _ => ⟨_, rfl, q H _ same_id⟩)⟩
theorem ok_beg {f aF aT aW aC : Addr} {fd : FuncData} {ts ws cs : List Str} (F : Fun K "begins_kind" "begins_kind" sBeg f fd) (mFo : mg "FORMS" = some (.ref aF)) (FD : ∃ es n, KDict K w aF es n) (FK : FormsK K w aF)
    (mT : mg "TESTS" = some (.ref aT)) (TK : TupK K aT ts) (mW : mg "WALKS" = some (.ref aW)) (WK : TupK K aW ws) (mC : mg "CHOOSERS" = some (.ref aC)) (CK : TupK K aC cs) : FnOk P w K mg base CX0 1 f fd ["word", "kind"] spBeg := by
  obtain ⟨es, nn, FD⟩ := FD
  refine F.ok scBe (fun vs H Q E h => ?_) (fun cdv A outer s H vs Q E hr h => ?_)
  · obtain ⟨x, k, ks, rfl, _⟩ := h
    rfl
  · obtain ⟨x, k, ks, rfl, hk, q⟩ := h
    refine ⟨_, pss_cons (ps_if (pt_cmpR op_eq (pv 1) pe_str (nomark _)) (pss_one (ps_ret (pe_cmpR op_in_seq (pv 0) (pe_glob (v := .ref aW) (by rfl) mW rfl) (by rfl)))) pss_nil)
      (pss_cons (ps_if (pt_cmpR op_eq (pv 1) pe_str (nomark _)) (pss_one (ps_ret (pe_cmpR op_in_seq (pv 0) (pe_glob (v := .ref aC) (by rfl) mC rfl) (by rfl)))) pss_nil)
      (pss_one (ps_ret (pe_and (pe_cmpR (op_in_kd FD) (pv 0) (pe_glob (v := .ref aF) (by rfl) mFo rfl) (by rfl)) (pe_one (pe_cmpR op_eq (pe_cmpR op_in_seq (pv 0) (pe_glob (v := .ref aT) (by rfl) mT rfl) (by rfl)) (pe_cmpR op_eq (pv 1) pe_str (nomark _)) (nomark _))))))), ?_⟩
    refine ⟨_, rfl, rfl, _, rfl, ite2 (fun _ => ?_) (fun _ => ?_)⟩
    · exact ⟨_, rfl, aW, _, rfl, .inr (WK H), rfl, flat_strs ws, q H _ same_id⟩
    refine ⟨_, rfl, rfl, _, rfl, ite2 (fun _ => ?_) (fun _ => ?_)⟩
    · exact ⟨_, rfl, aC, _, rfl, .inr (CK H), rfl, flat_strs cs, q H _ same_id⟩
    obtain ⟨a, ⟨es2, n2, u, e1, e2, e3, e4⟩, _⟩ := FK _ (lookup_mem hk)
    exact ⟨_, rfl, x, _, rfl, rfl, e3, _, rfl, iteT ⟨_, rfl, aT, _, rfl, .inr (TK H), rfl, flat_strs ts, _, rfl, rfl, rfl, q H _ same_id⟩⟩
end
end Toy


namespace Toy
open PySem PySem.Spec L2 PyProof.Rows PySem.W
abbrev sFld : Stmt := top 30
abbrev NFi : List Str := ["value", "told", "name"]
def spFld (K : PySem.W.Frag) : Sp := fun vs H Q _ => ∃ (v : V) (k : Str) (f : PyData) (p : PyData → Bool), vs = [v, .str k] ∧ Dp K H v f ∧ fldOk p k f = true ∧ ∀ H' b, Same H H' → Q (.bl b) H'
section
variable {P : Program} {w : World} {K : PySem.W.Frag} {mg : Str → Option Value} {base : Heap}
theorem scFi : FnScope NFi ["value", "told"] (defScope sFld) := ⟨rfl, rfl, rfl, by decide +kernel, rfl, by decide +kernel, by decide +kernel⟩
theorem ok_unl {f : Addr} {fd : FuncData} (F : Fun K "_are_unlike" "_are_unlike" sUnl f fd) (mLen : mg "len" = none) (mSet : mg "set" = none) : FnOk P w K mg base CX0 1 f fd ["names"] (spUnl K) := by
  refine F.ok scUn (fun vs H Q E h => ?_) (fun cdv A outer s H vs Q E hr h => ?_)
  · obtain ⟨a, ks, rfl, _⟩ := h
    rfl
  · obtain ⟨a, ks, rfl, ha, hl, q⟩ := h
    refine ⟨_, pss_one (ps_ret (pe_cmpR op_eq (L2.pe_lenSetA rfl (by rfl) mLen (by rfl) mSet (pv 0)) (pe_callB call_len_seq (by rfl) mLen PySem.boot_len (pa_cons (pv 0) pa_nil)) (nomark _))), ?_⟩
    exact ⟨_, rfl, a, ks, rfl, ha, hl, fun c hc => ⟨_, rfl, a, _, rfl, ha, rfl, q H _ same_id⟩⟩
theorem strs_of {K : PySem.W.Frag} {H : Hp} : ∀ {us : List V} {gs : List PyData}, DpAll K H us gs → gs.all isStrD = true → us = (gs.map strD).map V.str
  | _, _, .nil, _ => rfl
  | _, g :: gs, .cons a b, h => by
    rw [List.all_cons, Bool.and_eq_true] at h
    have ih := strs_of b h.2
    cases g with
    | str x =>
      cases a
      rw [ih]
      rfl
    | _ => simp [isStrD] at h
theorem tyT {K : PySem.W.Frag} {H : Hp} {a : Addr} {xs : List V} (h : SqT K H a xs) : TyX K H (.ref a) (.type "tuple") := by
  rcases h with (h | ⟨o, h⟩) | ⟨o, its, n, hk, hc, _⟩
  · exact .base (.tup h)
  · exact .fTuple h
  · exact .kTuple hk hc
theorem ent_str {K : PySem.W.Frag} {H : Hp} {u : V} {g : PyData} {p : PyData → Bool} (h : Dp K H u g) (e : isEnt p g = true) : ∃ (t : Addr) (x : Str) (z : V), u = .ref t ∧ SqT K H t [.str x, z] ∧ okK x = true := by
  obtain ⟨x, g', rfl, hx, _⟩ := isEnt_cases e
  cases h with
  | @tup t es _ hs ha =>
  cases ha with
  | cons a b =>
  cases b with
  | cons c d =>
  cases d
  cases a
  exact ⟨t, x, _, rfl, hs, hx⟩
theorem ok_ents {f fN fU : Addr} {fd fdN fdU : FuncData} (F : Fun K "_are_entries" "_are_entries" sEnts f fd) (GN : FnOk P w K mg base CX0 1 fN fdN ["value"] spStr) (mN : mg "is_name" = some (.ref fN)) (kN : PySem.W.keepIn K (.ref fN) = true) (bN : Binds K fdN ["value"] [])
    (GU : FnOk P w K mg base CX0 1 fU fdU ["names"] (spUnl K)) (mU : mg "_are_unlike" = some (.ref fU)) (kU : PySem.W.keepIn K (.ref fU) = true) (bU : Binds K fdU ["names"] []) (mI : mg "isinstance" = none) (mTu : mg "tuple" = none) (mLen : mg "len" = none) (mA : mg "all" = none) : FnOk P w K mg base CX0 2 f fd ["values"] (spEnts K) := by
  refine F.ok scEn (fun vs H Q E h => ?_) (fun cdv A outer s H vs Q E hr h => ?_)
  · obtain ⟨a, us, gs, p, rfl, _⟩ := h
    rfl
  · obtain ⟨a, us, gs, p, rfl, ha, hus, hl, hall, q⟩ := h
    have lus := dpl_len hus
    refine ⟨_, pss_cons (ps_if (pt_not (pt_val (pe_callB (cr_all rfl) (by rfl) mA (by decide +kernel) (pa_cons (pe_lc (own := [("entry", 1)]) (g := gName 1) (te := tAndV (tCB (rIsi K) (tCons (tVar 1) (tCons (tC (.ty "tuple")) tNil))) (tAndV (tOp rEq (tCB (fun xs H Q => ∃ p ys, xs = [.ref p] ∧ (SqL K H p ys ∨ SqT K H p ys) ∧ Q (.int ys.length) H) (tCons (tVar 1) tNil)) (tC (.int 2))) (tCall spStr [] E0 (tCons (tOp (rIxT K) (tVar 1) (tC (.int 0))) tNil)))) (by rfl) scEn.nd (pi_tup (pv 0))
            (blkOk_by (own := [("entry", 1)]) (N := NEn) (sc := defScope sEnts) (by decide +kernel)) (fun _ _ _ _ _ => pg_name (i := 1) scEn.nd rfl (Or.inl rfl)) (fun _ _ _ _ _ => pts_nil)
            (fun _ _ _ _ _ => pe_and (pe_callB call_isi (by rfl) mI PyProof.Rows.boot_isinstance (pa_cons (pv 1) (pa_cons (pe_bltn (v := .ty "tuple") (by rfl) mTu (by decide +kernel) rfl) pa_nil)))
              (pe_and (pe_cmpR op_eq (pe_callB call_len_seq (by rfl) mLen PySem.boot_len (pa_cons (pv 1) pa_nil)) pe_int (nomark _)) (pe_one (pe_call GN hr (by rfl) mN kN bN .nil pass0 (pa_cons (pe_ix ix_tup (pv 1) pe_int (fun _ _ => rfl)) pa_nil)))))) pa_nil)))) (pss_one (ps_ret pe_bl)) pss_nil)
      (pss_one (ps_ret (pe_call GU hr (by rfl) mU kU bU .nil pass0 (pa_cons (pe_lc (own := [("key", 3), ("_", 2)]) (g := gTup K 2 (gCons (gName 3) (gCons (gName 2) gNil))) (te := tVar 3) (by rfl) scEn.nd (pi_tup (pv 0))
            (blkOk_by (own := [("key", 3), ("_", 2)]) (N := NEn) (sc := defScope sEnts) (by decide +kernel)) (fun _ _ _ _ _ => by exact (pg_tup rfl (pgs_cons (by exact (pg_name (i := 3) scEn.nd rfl (Or.inl rfl))) (pgs_cons (by exact (pg_name (i := 2) scEn.nd rfl (Or.inl rfl))) pgs_nil)))) (fun _ _ _ _ _ => pts_nil)
            (fun _ _ _ _ _ => pv 3)) pa_nil)))), ?_⟩
    refine ⟨_, rfl, a, rfl, ⟨us, ha⟩, fun D nD => ?_⟩
    refine lc_tup (K := K) (a := a) (xs := us) (fun i H' => Same H H' ∧ ∃ bs : List Bool, H' D = some (.lst (bs.map V.bl)) ∧ bs.length ≤ i) ⟨same_new same_id nD, [], upd_same, Nat.le_refl _⟩ ?_ ?_ ?_
    · rintro i H' _ ⟨s5, _⟩
      exact same_seqT s5 ha
    · rintro i u H' hi ⟨s2, bs, hD, lb⟩
      obtain ⟨g, hg, hug⟩ := dpl_get hus hi
      have il : i < us.length := by
        rcases Nat.lt_or_ge i us.length with z | z
        · exact z
        · rw [List.getElem?_eq_none z] at hi
          cases hi
      obtain ⟨t, x, z, rfl, ht, hx⟩ := ent_str hug (List.all_eq_true.mp hall g (List.mem_of_getElem? hg))
      have ht2 := same_seqT s2 ht
      have ty : TyX K H' (.ref t) (.type "tuple") := tyT ht2
      have step : ∀ H3 (b : Bool), Same H' H3 → ∃ acc, H3 D = some (.lst acc) ∧ acc.length < sizeLine ∧ (Same H (upd H3 D (.lst (acc ++ [V.bl b]))) ∧ ∃ bs : List Bool, (upd H3 D (.lst (acc ++ [V.bl b]))) D = some (.lst (bs.map V.bl)) ∧ bs.length ≤ i + 1) := fun H3 b s3 =>
        ⟨_, s3 _ _ hD, small1000 (by rw [List.length_map]; omega), same_put (s2.trans s3) nD, bs ++ [b], by rw [upd_same, List.map_append]; rfl, by rw [List.length_append, List.length_singleton]; omega⟩
      refine ⟨rfl, _, rfl, _, _, _, _, true, rfl, .ty _, ty, kit_ty (by decide +kernel), _, rfl, iteT ⟨_, rfl, t, _, rfl, .inr ht2, rfl, _, rfl, iteT ⟨_, rfl, t, _, 0, _, rfl, rfl, ht2, at_0 _ _, x, rfl, hx, fun H3 b s3 => step H3 b s3⟩⟩⟩
    · rintro H1 ⟨s1, bs, hD, lb⟩
      refine ⟨D, bs, rfl, SqL.of hD, _, rfl, ite2 (fun _ => q H1 _ s1) (fun _ => ?_)⟩
      have ha1 := same_seqT s1 ha
      refine ⟨_, rfl, a, rfl, ⟨us, ha1⟩, fun D2 nD2 => ?_⟩
      refine lc_tup (K := K) (a := a) (xs := us) (fun i H' => Same H1 H' ∧ ∃ ks : List Str, H' D2 = some (.lst (ks.map V.str)) ∧ ks.length ≤ i) ⟨same_new same_id nD2, [], upd_same, Nat.le_refl _⟩ ?_ ?_ ?_
      · rintro i H' _ ⟨s5, _⟩
        exact same_seqT s5 ha1
      · rintro i u H' hi ⟨s2, ks, hD2, lb2⟩
        obtain ⟨g, hg, hug⟩ := dpl_get hus hi
        have il : i < us.length := by
          rcases Nat.lt_or_ge i us.length with z | z
          · exact z
          · rw [List.getElem?_eq_none z] at hi
            cases hi
        obtain ⟨t, x, z, rfl, ht, hx⟩ := ent_str hug (List.all_eq_true.mp hall g (List.mem_of_getElem? hg))
        have ht2 := same_seqT (s1.trans s2) ht
        exact ⟨t, _, rfl, ht2, rfl, _, _, rfl, _, _, rfl, rfl, rfl, _, rfl, _, hD2, small1000 (by rw [List.length_map]; omega), same_put s2 nD2, ks ++ [x], by rw [upd_same, List.map_append]; rfl, by rw [List.length_append, List.length_singleton]; omega⟩
      · rintro H2 ⟨s2, ks, hD2, lb2⟩
        exact ⟨D2, ks, rfl, .inl (SqL.of hD2), by omega, fun H3 b s3 => q H3 b ((s1.trans s2).trans s3)⟩
abbrev sIdx : Stmt := top 31
theorem scIx : FnScope ["value"] ["value"] (defScope sIdx) := ⟨rfl, rfl, rfl, by decide +kernel, rfl, by decide +kernel, by decide +kernel⟩
theorem ok_index {f fI : Addr} {fd fdI : FuncData} {u99 : Value} (F : Fun K "is_index" "is_index" sIdx f fd) (m99 : mg "MOST_INDEX" = some u99) (r99 : RelV (.int 99) u99)
    (GI : FnOk P w K mg base CX0 1 fI fdI ["value"] spInt) (mIn : mg "is_integer" = some (.ref fI)) (kI : PySem.W.keepIn K (.ref fI) = true) (bI : Binds K fdI ["value"] []) : FnOk P w K mg base CX0 2 f fd ["value"] spInt := by
  refine F.ok scIx (fun vs H Q E h => ?_) (fun cdv A outer s H vs Q E hr h => ?_)
  · obtain ⟨i, rfl, _⟩ := h
    rfl
  · obtain ⟨i, rfl, q⟩ := h
    refine ⟨_, pss_one (ps_ret (pe_and (pe_call GI hr (by rfl) mIn kI bI .nil pass0 (pa_cons (pv 0) pa_nil)) (pe_one (pe_chain op_le op_le pe_int (pv 0) (pe_glob (v := .int 99) (by rfl) m99 r99))))), ?_⟩
    exact ⟨_, rfl, i, rfl, fun H1 b s1 => ⟨_, rfl, ite2 (fun _ => ⟨_, rfl, _, _, rfl, rfl, _, rfl, ite2 (fun _ => ⟨_, _, rfl, rfl, q H1 _ s1⟩) (fun _ => q H1 _ s1)⟩) (fun _ => q H1 _ s1)⟩⟩
theorem ok_fld {f aP aS fN fF fI fL fU fE : Addr} {fd fdN fdF fdI fdL fdU fdE : FuncData} {u3 : Value} {ss : List Str} (F : Fun K "_is_field" "_is_field" sFld f fd) (mPK : mg "PART_KINDS" = some (.ref aP)) (PKK : TupK K aP kinds4) (mSo : mg "SORTS" = some (.ref aS)) (SK : TupK K aS ss)
    (m3 : mg "MOST_HANDED" = some u3) (r3 : RelV (.int 3) u3)
    (GN : FnOk P w K mg base CX0 1 fN fdN ["value"] spStr) (mN : mg "is_name" = some (.ref fN)) (kN : PySem.W.keepIn K (.ref fN) = true) (bN : Binds K fdN ["value"] [])
    (GF : FnOk P w K mg base CX0 2 fF fdF ["value"] spStr) (mF : mg "is_free_name" = some (.ref fF)) (kF : PySem.W.keepIn K (.ref fF) = true) (bF : Binds K fdF ["value"] [])
    (GI : FnOk P w K mg base CX0 2 fI fdI ["value"] spInt) (mIn : mg "is_index" = some (.ref fI)) (kI : PySem.W.keepIn K (.ref fI) = true) (bI : Binds K fdI ["value"] [])
    (GL : FnOk P w K mg base CX0 2 fL fdL ["value"] spLf) (mL : mg "is_leaf" = some (.ref fL)) (kL : PySem.W.keepIn K (.ref fL) = true) (bL : Binds K fdL ["value"] [])
    (GU : FnOk P w K mg base CX0 1 fU fdU ["names"] (spUnl K)) (mU : mg "_are_unlike" = some (.ref fU)) (kU : PySem.W.keepIn K (.ref fU) = true) (bU : Binds K fdU ["names"] [])
    (GE : FnOk P w K mg base CX0 2 fE fdE ["values"] (spEnts K)) (mE : mg "_are_entries" = some (.ref fE)) (kE : PySem.W.keepIn K (.ref fE) = true) (bE : Binds K fdE ["values"] [])
    (mI : mg "isinstance" = none) (mTu : mg "tuple" = none) (mLen : mg "len" = none) (mA : mg "all" = none) : FnOk P w K mg base CX0 3 f fd ["value", "told"] (spFld K) := by
  refine F.ok scFi (fun vs H Q E h => ?_) (fun cdv A outer s H vs Q E hr h => ?_)
  · obtain ⟨v, k, f, p, rfl, _⟩ := h
    rfl
  · obtain ⟨v, k, f, p, rfl, hv, hf, q⟩ := h
    have hr1 : Room 1 _ := hr.mono (show 1 ≤ 2 by omega)
    refine ⟨_, pss_cons (ps_if (pt_cmpR op_in_seq (pv 1) (pe_glob (v := .ref aP) (by rfl) mPK rfl) (by rfl)) (pss_one (ps_ret pe_bl)) pss_nil)
      (pss_cons (ps_if (pt_cmpR op_eq (pv 1) pe_str (nomark _)) (pss_one (ps_ret (pe_call GN hr1 (by rfl) mN kN bN .nil pass0 (pa_cons (pv 0) pa_nil)))) pss_nil)
      (pss_cons (ps_if (pt_cmpR op_eq (pv 1) pe_str (nomark _)) (pss_one (ps_ret (pe_call GF hr (by rfl) mF kF bF .nil pass0 (pa_cons (pv 0) pa_nil)))) pss_nil)
      (pss_cons (ps_if (pt_cmpR op_eq (pv 1) pe_str (nomark _)) (pss_one (ps_ret (pe_call GI hr (by rfl) mIn kI bI .nil pass0 (pa_cons (pv 0) pa_nil)))) pss_nil)
      (pss_cons (ps_if (pt_cmpR op_eq (pv 1) pe_str (nomark _)) (pss_one (ps_ret (pe_call GL hr (by rfl) mL kL bL .nil pass0 (pa_cons (pv 0) pa_nil)))) pss_nil)
      (pss_cons (ps_if (pt_cmpR op_eq (pv 1) pe_str (nomark _)) (pss_one (ps_ret (pe_cmpR op_in_seq (pv 0) (pe_glob (v := .ref aS) (by rfl) mSo rfl) (by rfl)))) pss_nil)
      (pss_cons (ps_if (pt_not (pt_val (pe_callB call_isi (by rfl) mI PyProof.Rows.boot_isinstance (pa_cons (pv 0) (pa_cons (pe_bltn (v := .ty "tuple") (by rfl) mTu (by decide +kernel) rfl) pa_nil))))) (pss_one (ps_ret pe_bl)) pss_nil)
      (pss_cons (ps_if (pt_cmpR op_eq (pv 1) pe_str (nomark _)) (pss_one (ps_ret (pe_cmpR op_le (pe_callB call_len_seq (by rfl) mLen PySem.boot_len (pa_cons (pv 0) pa_nil)) (pe_glob (v := .int 3) (by rfl) m3 r3) (nomark _)))) pss_nil)
      (pss_cons (ps_if (pt_cmpR op_eq (pv 1) pe_str (nomark _)) (pss_one (ps_ret (pe_and (pe_cmpR op_le (pe_callB call_len_seq (by rfl) mLen PySem.boot_len (pa_cons (pv 0) pa_nil)) (pe_glob (v := .int 3) (by rfl) m3 r3) (nomark _))
          (pe_and (pe_callB (cr_all rfl) (by rfl) mA (by decide +kernel) (pa_cons (pe_lc (own := [("name", 2)]) (g := gName 2) (te := tCall spStr [] E0 (tCons (tVar 2) tNil)) (by rfl) scFi.nd (pi_tup (pv 0))
            (blkOk_by (own := [("name", 2)]) (N := NFi) (sc := defScope sFld) (by decide +kernel)) (fun _ _ _ _ _ => pg_name (i := 2) scFi.nd rfl (Or.inl rfl)) (fun _ _ _ _ _ => pts_nil)
            (fun _ _ _ _ _ => pe_call GF hr (by rfl) mF kF bF .nil pass0 (pa_cons (pv 2) pa_nil))) pa_nil))
          (pe_one (pe_call GU hr1 (by rfl) mU kU bU .nil pass0 (pa_cons (pv 0) pa_nil))))))) pss_nil)
      (pss_one (ps_ret (pe_call GE hr (by rfl) mE kE bE .nil pass0 (pa_cons (pv 0) pa_nil)))))))))))), ?_⟩
    refine ⟨_, rfl, aP, _, rfl, .inr (PKK H), rfl, flat_strs kinds4, _, rfl, ?_⟩
    have ein : inV (V.str k) (kinds4.map V.str) = PK k := inV_strs k kinds4
    show (if inV (V.str k) (kinds4.map V.str) = true then _ else _)
    rw [ein]
    refine ite2 (fun c1 => q H _ same_id) (fun c1 => ?_)
    have strV : ∀ {k' : Str}, (k' = "key" ∨ k' = "free" ∨ k' = "sort") → k = k' → ∃ x, v = .str x ∧ okK x = true := by
      intro k' hk' e
      subst e
      obtain ⟨x, rfl, hx⟩ := fld_s _ hk' hf
      cases hv
      exact ⟨x, rfl, hx⟩
    refine ⟨_, rfl, rfl, _, rfl, ite2 (fun c => ?_) (fun c2 => ?_)⟩
    · obtain ⟨x, rfl, hx⟩ := strV (.inl rfl) (V.str.inj (of_decide_eq_true c))
      exact ⟨_, rfl, x, rfl, hx, fun H' b s => q H' b s⟩
    refine ⟨_, rfl, rfl, _, rfl, ite2 (fun c => ?_) (fun c3 => ?_)⟩
    · obtain ⟨x, rfl, hx⟩ := strV (.inr (.inl rfl)) (V.str.inj (of_decide_eq_true c))
      exact ⟨_, rfl, x, rfl, hx, fun H' b s => q H' b s⟩
    refine ⟨_, rfl, rfl, _, rfl, ite2 (fun c => ?_) (fun c4 => ?_)⟩
    · have e : k = "index" := V.str.inj (of_decide_eq_true c)
      subst e
      rw [fldOk, if_neg (by decide +kernel), if_neg (by decide +kernel), if_neg (by decide +kernel), if_neg (by decide +kernel), if_pos rfl] at hf
      cases f with
      | int i =>
        cases hv
        exact ⟨_, rfl, i, rfl, fun H1 b s1 => q H1 b s1⟩
      | _ => simp [isIntD] at hf
    refine ⟨_, rfl, rfl, _, rfl, ite2 (fun c => ?_) (fun c5 => ?_)⟩
    · have e : k = "leaf" := V.str.inj (of_decide_eq_true c)
      subst e
      rw [fldOk, if_neg (by decide +kernel), if_neg (by decide +kernel), if_neg (by decide +kernel), if_neg (by decide +kernel), if_neg (by decide +kernel), if_pos rfl] at hf
      have lv : LfV v := by
        cases f with
        | none => cases hv; exact .inl rfl
        | bool b => cases hv; exact .inr (.inl ⟨b, rfl⟩)
        | int i => cases hv; exact .inr (.inr (.inl ⟨i, rfl⟩))
        | str x =>
          cases hv
          unfold isLeafD at hf
          rw [Bool.and_eq_true] at hf
          exact .inr (.inr (.inr ⟨x, rfl, hf.1⟩))
        | _ => simp [isLeafD] at hf
      exact ⟨_, rfl, v, rfl, lv, fun H' b s => q H' b s⟩
    refine ⟨_, rfl, rfl, _, rfl, ite2 (fun c => ?_) (fun c6 => ?_)⟩
    · obtain ⟨x, rfl, hx⟩ := strV (.inr (.inr rfl)) (V.str.inj (of_decide_eq_true c))
      exact ⟨_, rfl, aS, _, rfl, .inr (SK H), rfl, flat_strs ss, q H _ same_id⟩
    have n2 : ¬ k = "key" := fun z => c2 (by rw [z]; exact decide_eq_true rfl)
    have n3 : ¬ k = "free" := fun z => c3 (by rw [z]; exact decide_eq_true rfl)
    have n4 : ¬ k = "index" := fun z => c4 (by rw [z]; exact decide_eq_true rfl)
    have n5 : ¬ k = "leaf" := fun z => c5 (by rw [z]; exact decide_eq_true rfl)
    have n6 : ¬ k = "sort" := fun z => c6 (by rw [z]; exact decide_eq_true rfl)
    have hf2 := hf
    rw [fldOk, if_neg c1] at hf2
    have tupV : ∀ (p2 : PyData → Bool), tupAll p2 f = true → ∃ a us gs, f = .tuple gs ∧ v = .ref a ∧ SqT K H a us ∧ DpAll K H us gs ∧ gs.length ≤ 8 ∧ gs.all p2 = true := by
      intro p2 h
      obtain ⟨gs, rfl, g8, gall⟩ := tupAll_cases h
      cases hv with
      | @tup a us _ h1 h2 => exact ⟨a, us, gs, rfl, rfl, h1, h2, g8, gall⟩
    by_cases e7 : k = "filters"
    · subst e7
      obtain ⟨a, us, gs, rfl, rfl, ha, hus, g8, gall⟩ := tupV _ (fld_f hf)
      refine ⟨_, rfl, _, _, _, _, true, rfl, .ty _, tyT ha, kit_ty (by decide +kernel), _, rfl, iteF ⟨_, rfl, rfl, _, rfl, ite2 (fun _ => ?_) (fun z => absurd (decide_eq_true rfl) z)⟩⟩
      exact ⟨_, rfl, a, us, rfl, .inr ha, _, _, rfl, rfl, q H _ same_id⟩
    by_cases e8 : k = "parameters"
    · subst e8
      obtain ⟨a, us, gs, rfl, rfl, ha, hus, g8, gall⟩ := tupV _ (fld_ps hf)
      have lus := dpl_len hus
      have hstr : ∃ ks : List Str, us = ks.map V.str ∧ ks.length ≤ 8 ∧ ∀ x ∈ ks, okK x = true := by
        refine ⟨gs.map strD, ?_, by rw [List.length_map]; exact g8, ?_⟩
        · exact strs_of hus gall
        · intro x hx
          obtain ⟨g, hg, rfl⟩ := List.mem_map.mp hx
          have := List.all_eq_true.mp gall g hg
          cases g with
          | str y => exact this
          | _ => simp [isStrD] at this
      obtain ⟨ks, rfl, lk, hks⟩ := hstr
      refine ⟨_, rfl, _, _, _, _, true, rfl, .ty _, tyT ha, kit_ty (by decide +kernel), _, rfl, iteF ⟨_, rfl, rfl, _, rfl, ite2 (fun z => absurd (V.str.inj (of_decide_eq_true z)) (by decide +kernel)) (fun _ => ⟨_, rfl, rfl, _, rfl, ite2 (fun _ => ?_) (fun z => absurd (decide_eq_true rfl) z)⟩)⟩⟩
      refine ⟨_, rfl, a, _, rfl, .inr ha, _, _, rfl, rfl, _, rfl, ite2 (fun _ => ?_) (fun _ => q H _ same_id)⟩
      refine ⟨_, rfl, a, rfl, ⟨_, ha⟩, fun D nD => ?_⟩
      refine lc_tup (K := K) (a := a) (xs := ks.map V.str) (fun i H' => Same H H' ∧ ∃ bs : List Bool, H' D = some (.lst (bs.map V.bl)) ∧ bs.length ≤ i) ⟨same_new same_id nD, [], upd_same, Nat.le_refl _⟩ ?_ ?_ ?_
      · rintro i H' _ ⟨s5, _⟩
        exact same_seqT s5 ha
      · rintro i u H' hi ⟨s2, bs, hD, lb⟩
        rw [List.getElem?_map] at hi
        obtain ⟨x, hx, rfl⟩ : ∃ x, ks[i]? = some x ∧ u = .str x := by
          cases e : ks[i]? with
          | none => rw [e] at hi; cases hi
          | some x => rw [e] at hi; exact ⟨x, rfl, (Option.some.inj hi).symm⟩
        have il : i < ks.length := by
          rcases Nat.lt_or_ge i ks.length with z | z
          · exact z
          · rw [List.getElem?_eq_none z] at hx
            cases hx
        exact ⟨rfl, _, rfl, x, rfl, hks x (List.mem_of_getElem? hx), fun H3 b s3 => ⟨_, s3 _ _ hD, small1000 (by rw [List.length_map]; omega), same_put (s2.trans s3) nD, bs ++ [b], by rw [upd_same, List.map_append]; rfl, by rw [List.length_append, List.length_singleton]; omega⟩⟩
      · rintro H1 ⟨s1, bs, hD, lb⟩
        refine ⟨D, bs, rfl, SqL.of hD, _, rfl, ite2 (fun _ => ?_) (fun _ => q H1 _ s1)⟩
        exact ⟨_, rfl, a, ks, rfl, .inr (same_seqT s1 ha), by omega, fun H2 b s2 => q H2 b (s1.trans s2)⟩
    by_cases e9 : k = "entries"
    · subst e9
      obtain ⟨a, us, gs, rfl, rfl, ha, hus, g8, gall⟩ := tupV _ (fld_e hf)
      refine ⟨_, rfl, _, _, _, _, true, rfl, .ty _, tyT ha, kit_ty (by decide +kernel), _, rfl, iteF ⟨_, rfl, rfl, _, rfl, ite2 (fun z => absurd (V.str.inj (of_decide_eq_true z)) (by decide +kernel)) (fun _ => ⟨_, rfl, rfl, _, rfl, ite2 (fun z => absurd (V.str.inj (of_decide_eq_true z)) (by decide +kernel)) (fun _ => ?_)⟩)⟩⟩
      exact ⟨_, rfl, a, us, gs, p, rfl, ha, hus, g8, gall, fun H' b s => q H' b s⟩
    rw [if_neg e7, if_neg e9, if_neg e8, if_neg n4, if_neg n5] at hf2
    cases f with
    | str x =>
      cases hv
      have ty : TyX K H (.str x) (.type "str") := .base (.str x)
      exact ⟨_, rfl, _, _, _, _, false, rfl, .ty _, ty, kit_ty (by decide +kernel), _, rfl, iteT (q H _ same_id)⟩
    | _ => simp [isStrD] at hf2
end
end Toy


namespace Toy
open PySem PySem.Spec L2 PyProof.Rows PySem.W
abbrev sHF : Stmt := top 29
abbrev sOK : Stmt := top 28
abbrev sIF : Stmt := top 27
abbrev NHF : List Str := ["value", "kind", "fields", "told", "field"]
abbrev NOK : List Str := ["value", "kind", "waiting", "many", "term", "wanted", "level", "inner", "told", "part"]
def spHF (K : PySem.W.Frag) : Sp := fun vs H Q _ => ∃ (v : V) (n : Nat) (t : PyData) (k : Str), vs = [v, .str k] ∧ Dp K H v t ∧ wf (n + 1) t = true ∧ ∀ H' b, Same H H' → Q (.bl b) H'
def spOK (K : PySem.W.Frag) : Sp := fun vs H Q _ => ∃ (v : V) (n : Nat) (t : PyData) (k : Str), vs = [v, .str k] ∧ Dp K H v t ∧ wf n t = true ∧ szT n t ≤ 10000000 ∧ ∀ H' b, Same H H' → Q (.bl b) H'
def spIF (K : PySem.W.Frag) : Sp := fun vs H Q _ => ∃ (v : V) (n : Nat) (t : PyData), vs = [v] ∧ Dp K H v t ∧ wf n t = true ∧ szT n t ≤ 10000000 ∧ ∀ H' b, Same H H' → Q (.bl b) H'
section
variable {P : Program} {w : World} {K : PySem.W.Frag} {mg : Str → Option Value} {base : Heap}
theorem scHF : FnScope NHF ["value", "kind"] (defScope sHF) := ⟨rfl, rfl, rfl, by decide +kernel, rfl, by decide +kernel, by decide +kernel⟩
theorem scOK : FnScope NOK ["value", "kind"] (defScope sOK) := ⟨rfl, rfl, rfl, by decide +kernel, rfl, by decide +kernel, by decide +kernel⟩
theorem scIF : FnScope ["value"] ["value"] (defScope sIF) := ⟨rfl, rfl, rfl, by decide +kernel, rfl, by decide +kernel, by decide +kernel⟩
theorem ok_hf {f aF fB fF : Addr} {fd fdB fdF : FuncData} (F : Fun K "_has_form" "_has_form" sHF f fd) (mFo : mg "FORMS" = some (.ref aF)) (FK : FormsK K w aF)
    (GB : FnOk P w K mg base CX0 1 fB fdB ["word", "kind"] spBeg) (mB : mg "begins_kind" = some (.ref fB)) (kB : PySem.W.keepIn K (.ref fB) = true) (bB : Binds K fdB ["word", "kind"] [])
    (GF : FnOk P w K mg base CX0 3 fF fdF ["value", "told"] (spFld K)) (mF : mg "_is_field" = some (.ref fF)) (kF : PySem.W.keepIn K (.ref fF) = true) (bF : Binds K fdF ["value", "told"] [])
    (mI : mg "isinstance" = none) (mTu : mg "tuple" = none) (mS : mg "str" = none) (mLen : mg "len" = none) (mA : mg "all" = none) (mZip : mg "zip" = none) : FnOk P w K mg base CX0 4 f fd ["value", "kind"] (spHF K) := by
  refine F.ok scHF (fun vs H Q E h => ?_) (fun cdv A outer s H vs Q E hr h => ?_)
  · obtain ⟨v, n, t, k, rfl, _⟩ := h
    rfl
  · obtain ⟨v, n, t, k, rfl, hv, hw, q⟩ := h
    have hr1 : Room 1 _ := hr.mono (show 1 ≤ 3 by omega)
    obtain ⟨wd, fs, ks, rfl, hk, hf⟩ := wf_cases hw
    obtain ⟨aK, hK1, hK2⟩ := FK _ (lookup_mem hk)
    refine ⟨_, pss_cons (ps_if (PW.pt (pw_or (pt_not (pt_val (pe_callB call_isi (by rfl) mI PyProof.Rows.boot_isinstance (pa_cons (pv 0) (pa_cons (pe_bltn (v := .ty "tuple") (by rfl) mTu (by decide +kernel) rfl) pa_nil)))))
          (pw_or (pt_not (pt_truth (pv 0) (by intro _; rfl))) (pw_or1 (pt_not (pt_val (pe_callB call_isi (by rfl) mI PyProof.Rows.boot_isinstance (pa_cons (pe_ix ix_tup (pv 0) pe_int (fun _ _ => rfl)) (pa_cons (pe_bltn (v := .ty "str") (by rfl) mS (by decide +kernel) rfl) pa_nil))))))))) (pss_one (ps_ret pe_bl)) pss_nil)
      (pss_cons (ps_if (pt_not (pt_val (pe_call GB hr1 (by rfl) mB kB bB .nil pass0 (pa_cons (pe_ix ix_tup (pv 0) pe_int (fun _ _ => rfl)) (pa_cons (pv 1) pa_nil))))) (pss_one (ps_ret pe_bl)) pss_nil)
      (pss_cons (ps_set (i := 2) scHF.nd rfl (Or.inl rfl) (pe_ix ix_kdict (pe_glob (v := .ref aF) (by rfl) mFo rfl) (pe_ix ix_tup (pv 0) pe_int (fun _ _ => rfl)) (fun _ _ => rfl)))
      (pss_cons (ps_if (pt_cmpR op_ne (pe_callB call_len_seq (by rfl) mLen PySem.boot_len (pa_cons (pv 0) pa_nil)) (pe_op op_add (pe_callB call_len_seq (by rfl) mLen PySem.boot_len (pa_cons (pv 2) pa_nil)) pe_int) (nomark _)) (pss_one (ps_ret pe_bl)) pss_nil)
      (pss_one (ps_ret (pe_callB (cr_all rfl) (by rfl) mA (by decide +kernel) (pa_cons (pe_lc (own := [("told", 3), ("field", 4)]) (g := gTup K 2 (gCons (gName 3) (gCons (gName 4) gNil))) (te := tCall (spFld K) [] E0 (tCons (tVar 4) (tCons (tVar 3) tNil))) (by rfl) scHF.nd (RZ.pi_zipA (by rfl) mZip (pa_cons (pv 2) (pa_cons (pe_slice sl_tup (pv 0) (po_some pe_int) po_none) pa_nil)))
            (blkOk_by (own := [("told", 3), ("field", 4)]) (N := NHF) (sc := defScope sHF) (by decide +kernel)) (fun _ _ _ _ _ => by exact (pg_tup rfl (pgs_cons (by exact (pg_name (i := 3) scHF.nd rfl (Or.inl rfl))) (pgs_cons (by exact (pg_name (i := 4) scHF.nd rfl (Or.inl rfl))) pgs_nil)))) (fun _ _ _ _ _ => pts_nil)
            (fun _ _ _ _ _ => pe_call GF hr (by rfl) mF kF bF .nil pass0 (pa_cons (pv 4) (pa_cons (pv 3) pa_nil)))) pa_nil))))))), ?_⟩
    cases hv with
    | @tup av xs _ hseq hall =>
    cases hall with
    | @cons v0 vs d0 ds h0 hvs =>
    cases h0
    have hkl := flds_len hf
    have hvl := dpl_len hvs
    have hvl : vs.length = fs.length := hvl
    have k4 : ks.length ≤ 4 := forms_len _ (lookup_mem hk)
    refine ⟨_, rfl, _, _, _, _, true, rfl, .ty _, tyT hseq, kit_ty (by decide +kernel), _, rfl, iteF ?_⟩
    refine ⟨_, rfl, _, .inr (.inl ⟨_, hseq, rfl⟩), iteF ?_⟩
    have tyS : TyX K H (.str wd) (.type "str") := .base (.str wd)
    refine ⟨_, rfl, av, _, 0, _, rfl, rfl, hseq, at_0 _ _, _, _, _, _, true, rfl, .ty _, tyS, kit_ty (by decide +kernel), _, rfl, iteF ?_⟩
    refine ⟨_, rfl, av, _, 0, _, rfl, rfl, hseq, at_0 _ _, _, rfl, wd, k, ks, rfl, hk, fun H1 b s1 => ⟨_, rfl, ite2 (fun _ => q H1 _ s1) (fun _ => ?_)⟩⟩
    have seq1 := same_seqT s1 hseq
    refine ⟨_, rfl, av, _, 0, _, rfl, rfl, seq1, at_0 _ _, aF, wd, _, rfl, rfl, hK1, ?_⟩
    refine ⟨_, rfl, av, _, rfl, .inr seq1, _, rfl, aK, _, rfl, .inr (hK2 H1), _, _, rfl, rfl, rfl, _, rfl, ite2 (fun _ => q H1 _ s1) (fun _ => ?_)⟩
    refine ⟨_, rfl, _, rfl, 1, rfl, av, _, rfl, seq1, cut_1w _ _, fun B nB => ?_⟩
    rw [cut_1]
    have sB := same_new (u := .tup vs) s1 nB
    have hB : (upd H1 B (.tup vs)) B = some (.tup vs) := upd_same
    generalize upd H1 B (.tup vs) = H2 at sB hB ⊢
    refine ⟨aK, B, ks.map V.str, vs, rfl, .inr ⟨hK2 H2, SqT.of hB, fun D nD => ?_⟩⟩
    refine ⟨fun i m H' => m + i = ks.length ∧ Same H2 H' ∧ ∃ bs : List Bool, H' D = some (.lst (bs.map V.bl)) ∧ bs.length ≤ i, ⟨ks.length, rfl, same_new same_id nD, [], upd_same, Nat.le_refl _⟩, fun i m H' hW => ?_⟩
    obtain ⟨em, s2, bs, hD, lb⟩ := hW
    have hBB := SqT.of (K := K) (s2 _ _ hB)
    have hlk : (ks.map V.str).length = ks.length := List.length_map ..
    by_cases hi : i < ks.length
    · have m1 : (ks.map V.str)[i]? = some (.str ks[i]) := by rw [List.getElem?_map, List.getElem?_eq_getElem hi]; rfl
      obtain ⟨y0, m2⟩ : ∃ y0, vs[i]? = some y0 := ⟨vs[i]'(by omega), List.getElem?_eq_getElem (by omega)⟩
      obtain ⟨f0, hf0, hyf⟩ := dpl_get hvs m2
      have hfo := flds_get hf (List.getElem?_eq_getElem hi) hf0
      refine .inr ⟨⟨_, _, _, _, hK2 H', hBB, m1, m2⟩, fun H3 => Same H2 H3 ∧ ∃ bs : List Bool, H3 D = some (.lst (bs.map V.bl)) ∧ bs.length ≤ i + 1, fun H3 hN => ⟨m - 1, by omega, by omega, hN.1, hN.2⟩, fun v H3 hy => ?_⟩
      obtain ⟨T1, x1, x2, rfl, nT, rfl, f1, f2⟩ := hy
      obtain rfl : x1 = .str ks[i] := Option.some.inj ((f1 _ (hK2 H')).symm.trans m1)
      obtain rfl : x2 = y0 := Option.some.inj ((f2 _ hBB).symm.trans m2)
      have nDT : D ≠ T1 := ne_of_none hD nT
      have sT : Same H2 (upd H' T1 (.tup [.str ks[i], x2])) := same_new s2 nT
      refine ⟨T1, _, rfl, SqT.of upd_same, rfl, _, _, rfl, _, _, rfl, rfl, rfl, _, rfl, _, rfl, x2, ks[i], f0, wf n, rfl, dpM (sB.trans sT) hyf, hfo, fun H5 b s5 => ?_⟩
      exact ⟨_, s5 _ _ ((upd_ne nDT).trans hD), small1000 (by rw [List.length_map]; omega), same_put (sT.trans s5) nD, bs ++ [b], by rw [upd_same, List.map_append]; rfl, by rw [List.length_append, List.length_singleton]; omega⟩
    · exact .inl ⟨⟨_, _, hK2 H', hBB, .inl (by show (ks.map V.str).length ≤ i; omega)⟩, D, bs, rfl, SqL.of hD, q H' _ (sB.trans s2)⟩
def OI (K : PySem.W.Frag) (H : Hp) (q : Addr) (e : Nat × PyData) : Prop := ∃ (u : V) (k : Str) (lv : Int), H q = some (.tup [u, .str k, .int lv]) ∧ Dp K H u e.2 ∧ wf e.1 e.2 = true
theorem OI.put {K : PySem.W.Frag} {H : Hp} {q : Addr} {e : Nat × PyData} {L : Addr} {xs ys : List V} (h : OI K H q e) (hL : H L = some (.lst xs)) : OI K (upd H L (.lst ys)) q e := by
  obtain ⟨u, k, lv, h1, h2, h3⟩ := h
  exact ⟨u, k, lv, (upd_ne (ne_of h1 hL (by intro e; cases e))).trans h1, dp_put hL h2 (noL_wf h3), h3⟩
theorem OI.same {K : PySem.W.Frag} {H H' : Hp} {q : Addr} {e : Nat × PyData} (h : OI K H q e) (s : Same H H') : OI K H' q e := by
  obtain ⟨u, k, lv, h1, h2, h3⟩ := h
  exact ⟨u, k, lv, s _ _ h1, dpM s h2, h3⟩
def tot2 (ws : List (Nat × PyData)) : Nat := (ws.map fun e => szT e.1 e.2).sum
theorem len_le_tot2 : ∀ ws : List (Nat × PyData), ws.length ≤ tot2 ws
  | [] => Nat.le_refl _
  | e :: ws => by
    have := len_le_tot2 ws
    have := szT_pos e.1 e.2
    unfold tot2 at *
    rw [List.map_cons, List.sum_cons, List.length_cons]
    omega
theorem tot2_app (a b : List (Nat × PyData)) : tot2 (a ++ b) = tot2 a + tot2 b := by
  unfold tot2
  rw [List.map_append, List.sum_append]
def OW (K : PySem.W.Frag) (H : Hp) (v kv : V) (L : Addr) (mm : Nat) (σ : L2.St) (H' : Hp) : Prop := ∃ (o4 o5 o6 o7 : Option V) (many : Int) (ys : List Addr) (ws : List (Nat × PyData)), σ = [some v, some kv, some (.ref L), some (.int many), o4, o5, o6, o7, none, none] ∧ Same H H' ∧ H' L = some (.lst (ys.map V.ref)) ∧ Paired (OI K H') ys ws ∧ tot2 ws ≤ 10000000 ∧ mm = tot2 ws
theorem ok_of {f fH fK fN : Addr} {fd fdH fdK fdN : FuncData} {u40 u200 : Value} (F : Fun K "_is_of_kind" "_is_of_kind" sOK f fd) (m1 : mg "MOST_LEVELS" = some u40) (r1 : RelV (.int 40) u40) (m2 : mg "MOST_SPOTS" = some u200) (r2 : RelV (.int 200) u200)
    (GH : FnOk P w K mg base CX0 4 fH fdH ["value", "kind"] (spHF K)) (mH : mg "_has_form" = some (.ref fH)) (kH : PySem.W.keepIn K (.ref fH) = true) (bH : Binds K fdH ["value", "kind"] [])
    (GK : FnOk P w K mg base CX0 1 fK fdK ["term"] (spKP K)) (mK : mg "kinds_and_parts" = some (.ref fK)) (kK : PySem.W.keepIn K (.ref fK) = true) (bK : Binds K fdK ["term"] [])
    (GN : FnOk P w K mg base CX0 1 fN fdN ["outer", "kind"] spNar) (mN : mg "narrowed" = some (.ref fN)) (kN : PySem.W.keepIn K (.ref fN) = true) (bN : Binds K fdN ["outer", "kind"] [])
    (mLen : mg "len" = none) : FnOk P w K mg base CX0 5 f fd ["value", "kind"] (spOK K) := by
  refine F.ok scOK (fun vs H Q E h => ?_) (fun cdv A outer s H vs Q E hr h => ?_)
  · obtain ⟨v, n, t, k, rfl, _⟩ := h
    rfl
  · obtain ⟨v, n, t, k, rfl, hv, hw, hz, q⟩ := h
    have hr1 : Room 1 _ := hr.mono (show 1 ≤ 4 by omega)
    refine ⟨_, pss_cons (ps_set (i := 2) scOK.nd rfl (Or.inl rfl) (pe_lst (pa_cons (pe_tup (pa_cons (pv 0) (pa_cons (pv 1) (pa_cons pe_int pa_nil)))) pa_nil)))
      (pss_cons (ps_set (i := 3) scOK.nd rfl (Or.inl rfl) pe_int)
      (pss_cons (ps_while PassesOwn.never (pt_truth (pv 2) (by intro _; rfl))
        (pss_cons (ps_asg (pe_bm0 PySem.F.plainAttrs_list PySem.F.slot_list_pop PySem.F.type_list_pop mt_pop (pv 2)) (pg_tup (by rfl) (pgs_cons (pg_name (i := 4) scOK.nd rfl (.inl rfl)) (pgs_cons (pg_name (i := 5) scOK.nd rfl (.inr rfl)) (pgs_cons (pg_name (i := 6) scOK.nd rfl (.inr rfl)) pgs_nil)))))
        (pss_cons (ps_if (PW.pt (pw_or (pt_cmpR op_gt (pv 6) (pe_glob (v := .int 40) (by rfl) m1 r1) (nomark _)) (pw_or1 (pt_not (pt_val (pe_call GH hr (by rfl) mH kH bH .nil pass0 (pa_cons (pv 4) (pa_cons (pv 5) pa_nil)))))))) (pss_one (ps_ret pe_bl)) pss_nil)
        (pss_cons (ps_set (i := 7) scOK.nd rfl (Or.inl rfl) (pe_call GK hr1 (by rfl) mK kK bK .nil pass0 (pa_cons (pv 4) pa_nil)))
        (pss_cons (ps_aug (i := 3) scOK.nd rfl (Or.inl rfl) (pe_callB call_len_seq (by rfl) mLen PySem.boot_len (pa_cons (pv 7) pa_nil)) ip_add)
        (pss_cons (ps_if (pt_cmpR op_gt (pv 3) (pe_glob (v := .int 200) (by rfl) m2 r2) (nomark _)) (pss_one (ps_ret pe_bl)) pss_nil)
        (pss_one (ps_expr (pe_bm PySem.F.plainAttrs_list PySem.F.slot_list_extend PySem.F.type_list_extend mt_extend (pv 2) (pa_cons (pe_lc (own := [("told", 8), ("part", 9)]) (g := gTup K 2 (gCons (gName 8) (gCons (gName 9) gNil))) (te := tTup (tCons (tVar 9) (tCons (tCall spNar [] E0 (tCons (tVar 5) (tCons (tVar 8) tNil))) (tCons (tOp rAdd (tVar 6) (tC (.int 1))) tNil)))) (by rfl) scOK.nd (pi_list (pv 7))
            (blkOk_by (own := [("told", 8), ("part", 9)]) (N := NOK) (sc := defScope sOK) (by decide +kernel)) (fun _ _ _ _ _ => by exact (pg_tup rfl (pgs_cons (by exact (pg_name (i := 8) scOK.nd rfl (Or.inl rfl))) (pgs_cons (by exact (pg_name (i := 9) scOK.nd rfl (Or.inl rfl))) pgs_nil)))) (fun _ _ _ _ _ => pts_nil)
            (fun _ _ _ _ _ => pe_tup (pa_cons (pv 9) (pa_cons (pe_call GN hr1 (by rfl) mN kN bN .nil pass0 (pa_cons (pv 5) (pa_cons (pv 8) pa_nil))) (pa_cons (pe_op op_add (pv 6) pe_int) pa_nil))))) pa_nil))))))))))
      (pss_one (ps_ret pe_bl)))), ?_⟩
    refine ⟨_, rfl, _, rfl, few (by show 3 ≤ 1000; decide), fun T nT => ⟨few (by show 1 ≤ 1000; decide), fun L nL => ?_⟩⟩
    have s1 : Same H (upd (upd H T (.tup [v, .str k, .int 1])) L (.lst [.ref T])) := same_new (same_new same_id nT) nL
    have nTL : T ≠ L := ne_of_none upd_same nL
    have hT1 : (upd (upd H T (.tup [v, .str k, .int 1])) L (.lst [.ref T])) T = some (.tup [v, .str k, .int 1]) := (upd_ne nTL).trans upd_same
    have hL1 : (upd (upd H T (.tup [v, .str k, .int 1])) L (.lst [.ref T])) L = some (.lst ([T].map V.ref)) := upd_same
    have nLH : H L = none := fresh_of (same_new (u := .tup [v, .str k, .int 1]) same_id nT) nL
    generalize upd (upd H T (.tup [v, .str k, .int 1])) L (.lst [.ref T]) = H1 at s1 hT1 hL1 ⊢
    refine ⟨OW K H v (.str k) L, ⟨_, none, none, none, none, 1, [T], [(n, t)], rfl, s1, hL1, .cons ⟨v, k, 1, hT1, dpM s1 hv, hw⟩ .nil, ?_, rfl⟩, ?_⟩
    · unfold tot2
      simp only [List.map_cons, List.map_nil, List.sum_cons, List.sum_nil]
      omega
    rintro mm σ H2 ⟨o4, o5, o6, o7, many, ys, ws, rfl, s2, hL, hys, htot, rfl⟩
    refine ⟨_, rfl, _, .inl ⟨ys.map V.ref, SqL.of hL, rfl⟩, ?_⟩
    rcases List.eq_nil_or_concat ws with rfl | ⟨wi, e, rfl⟩
    · cases hys
      exact iteF (q H2 _ s2)
    rw [List.concat_eq_append] at hys htot ⊢
    obtain ⟨yi, y, rfl, hyi, hy⟩ := paired_snoc hys
    have et : (!((yi ++ [y]).map V.ref).isEmpty) = true := by
      cases yi <;> rfl
    rw [et]
    refine iteT ⟨fun σ' H' => ∃ m', m' < tot2 (wi ++ [e]) ∧ OW K H v (.str k) L m' σ' H', fun _ _ h => h, ?_⟩
    obtain ⟨n1, t1⟩ := e
    obtain ⟨u, k1, lv, hyT, hu1, hwf⟩ := hy
    simp only at hu1 hwf
    cases n1 with
    | zero => cases hwf
    | succ n1 =>
    have hyL : y ≠ L := ne_of hyT hL (by intro z; cases z)
    refine ⟨_, rfl, .inl ⟨rfl, _, SqL.of hL⟩, L, _, .ref y, rfl, rfl, hL, by simp, y, [u, .str k1, .int lv], rfl, SqT.of ((upd_ne hyL).trans hyT), rfl, _, _, rfl, _, _, rfl, _, _, rfl, rfl, ?_⟩
    rw [List.map_append, List.map_singleton, List.dropLast_concat]
    have s3 : Same H (upd H2 L (.lst (yi.map V.ref))) := same_put s2 nLH
    have hL3 : (upd H2 L (.lst (yi.map V.ref))) L = some (.lst (yi.map V.ref)) := upd_same
    have hyi3 : Paired (OI K (upd H2 L (.lst (yi.map V.ref)))) yi wi := L2.Paired.mapP hyi fun _ _ z => z.put hL
    have hu3 := dp_put (zs := yi.map V.ref) hL hu1 (noL_wf hwf)
    generalize upd H2 L (.lst (yi.map V.ref)) = H3 at s3 hL3 hyi3 hu3 ⊢
    have hpw := parts_wf hwf
    refine ⟨_, rfl, _, _, rfl, rfl, _, rfl, ite2 (fun _ => iteT (q H3 _ s3)) (fun _ => ?_)⟩
    refine ⟨_, rfl, _, rfl, u, n1, t1, k1, rfl, hu3, hwf, fun H4 b s34 => ⟨_, rfl, ite2 (fun _ => q H4 _ (s3.trans s34)) (fun _ => ?_)⟩⟩
    refine ⟨_, rfl, u, n1, t1, rfl, dpM s34 hu3, hwf, fun H5 R qs us s45 nR hR hqs hus hlen hkin => ?_⟩
    have s35 : Same H3 H5 := s34.trans s45
    have s05 := s3.trans s35
    have lqs := Paired.length hqs
    have lus := dpl_len hus
    rw [List.length_map] at lus
    refine ⟨_, rfl, _, rfl, R, _, rfl, .inl (SqL.of hR), _, _, rfl, rfl, ?_⟩
    refine ⟨_, rfl, _, _, rfl, rfl, _, rfl, ite2 (fun _ => q H5 _ s05) (fun _ => ?_)⟩
    have hL5 := s35 _ _ hL3
    refine ⟨_, rfl, .inl ⟨rfl, _, SqL.of hL5⟩, _, rfl, R, rfl, ⟨_, SqL.of hR⟩, fun D nD => ?_⟩
    have nDL : L ≠ D := ne_of_none hL5 nD
    have hus5 : DpAll K H5 (us.map (·.2)) (partsOf t1) := dpAllM s45 hus
    refine lc_list (K := K) (a := R) (xs := qs.map V.ref) (fun i H' => ∃ rs : List Addr, Same H5 H' ∧ H' D = some (.lst (rs.map V.ref)) ∧ Paired (OI K H') rs (((partsOf t1).take i).map fun p => (n1, p))) ⟨[], same_new same_id nD, upd_same, .nil⟩ ?_ ?_ ?_
    · rintro i H' _ ⟨rs, s6, _⟩
      exact SqL.of (s6 _ _ hR)
    · rintro i x H' hi ⟨rs, s6, hD, hrs⟩
      rw [List.getElem?_map] at hi
      obtain ⟨q0, hq0, rfl⟩ : ∃ q0, qs[i]? = some q0 ∧ x = .ref q0 := by
        cases e : qs[i]? with
        | none => rw [e] at hi; cases hi
        | some q0 => rw [e] at hi; exact ⟨q0, rfl, (Option.some.inj hi).symm⟩
      obtain ⟨ku, hku, hkp⟩ := paired_get hqs hq0
      obtain ⟨g, hg, hug⟩ := dpl_get hus5 (show (us.map (·.2))[i]? = some ku.2 by rw [List.getElem?_map, hku]; rfl)
      have lrs := Paired.length hrs
      rw [List.length_map, List.length_take] at lrs
      refine ⟨q0, _, rfl, SqT.of (s6 _ _ hkp), rfl, _, _, rfl, _, _, rfl, rfl, rfl, _, rfl, _, rfl, _, rfl, k1, ku.1, rfl, fun H7 y7 s7 => ⟨_, rfl, _, _, rfl, rfl, few (by show 3 ≤ 1000; decide), fun T2 nT2 => ?_⟩⟩
      have hD7 := s7 _ _ hD
      have nDT : D ≠ T2 := ne_of_none hD7 nT2
      refine ⟨rs.map V.ref, (upd_ne nDT).trans hD7, small1000 (by rw [List.length_map]; omega), rs ++ [T2], ?_, by rw [upd_same, List.map_append]; rfl, ?_⟩
      · intro b' o ho
        rw [upd_ne (ne_of_none ho nD), upd_ne (ne_of_none (s7 _ _ (s6 _ _ ho)) nT2)]
        exact s7 _ _ (s6 _ _ ho)
      · rw [List.take_add_one, hg, List.map_append]
        have sn : Same H7 (upd H7 T2 (.tup [ku.2, .str y7, .int (lv + 1)])) := same_new same_id nT2
        refine Paired.snoc (L2.Paired.mapP hrs fun _ _ z => ((z.same s7).same sn).put ((upd_ne nDT).trans hD7)) ?_
        refine OI.put (xs := rs.map V.ref) ⟨ku.2, y7, lv + 1, upd_same, dpM ((s6.trans s7).trans sn) hug, hpw g (List.mem_of_getElem? hg)⟩ ((upd_ne nDT).trans hD7)
    · rintro H6 ⟨rs, s6, hD, hrs⟩
      rw [List.length_map, lqs, lus, List.take_length] at hrs
      have nTt : tot2 ((partsOf t1).map fun p => (n1, p)) = ((partsOf t1).map (szT n1)).sum := by
        unfold tot2
        rw [List.map_map]
        rfl
      have esz : tot2 (wi ++ [(n1 + 1, t1)]) = tot2 (wi ++ (partsOf t1).map fun p => (n1, p)) + 1 := by
        rw [tot2_app, tot2_app, nTt]
        unfold tot2
        simp only [List.map_cons, List.map_nil, List.sum_cons, List.sum_nil, szT]
        omega
      have ll := len_le_tot2 (wi ++ (partsOf t1).map fun p => (n1, p))
      rw [List.length_append, List.length_map] at ll
      have lrs := Paired.length hrs
      rw [List.length_map] at lrs
      have lyi := Paired.length hyi
      have hL6 := s6 _ _ hL5
      refine ⟨L, D, yi.map V.ref, rs.map V.ref, rfl, rfl, hL6, hD, by rw [List.length_map, List.length_map, sizeLine_eq]; omega, ?_⟩
      refine ⟨tot2 (wi ++ (partsOf t1).map fun p => (n1, p)), by omega, _, _, _, _, _, yi ++ rs, wi ++ (partsOf t1).map fun p => (n1, p), rfl, same_put (s05.trans s6) nLH, by rw [upd_same, List.map_append], ?_, by omega, rfl⟩
      exact paired_app (L2.Paired.mapP hyi3 fun _ _ z => (z.same (s35.trans s6)).put hL6) (L2.Paired.mapP hrs fun _ _ z => z.put hL6)
theorem ok_if {f fO : Addr} {fd fdO : FuncData} (F : Fun K "is_filter" "is_filter" sIF f fd) (GO : FnOk P w K mg base CX0 5 fO fdO ["value", "kind"] (spOK K)) (mO : mg "_is_of_kind" = some (.ref fO)) (kO : PySem.W.keepIn K (.ref fO) = true) (bO : Binds K fdO ["value", "kind"] []) : FnOk P w K mg base CX0 6 f fd ["value"] (spIF K) := by
  refine F.ok scIF (fun vs H Q E h => ?_) (fun cdv A outer s H vs Q E hr h => ?_)
  · obtain ⟨v, n, t, rfl, _⟩ := h
    rfl
  · obtain ⟨v, n, t, rfl, hv, hw, hz, q⟩ := h
    refine ⟨_, pss_one (ps_ret (pe_call GO hr (by rfl) mO kO bO .nil pass0 (pa_cons (pv 0) (pa_cons pe_str pa_nil)))), ?_⟩
    exact ⟨_, rfl, v, n, t, "filter", rfl, hv, hw, hz, q⟩
end
end Toy


namespace Toy
open PySem PySem.Spec L2 PyProof.Rows PySem.W
/-! ### sizes -/
def BB : Nat → Nat
  | 0 => 1
  | n + 1 => 1 + 8 * BB n
def wgt (k : Str) : Nat := if PK k = true then 1 else if k = "filters" then 8 else if k = "entries" then 8 else 0
theorem forms_wgt : ∀ p ∈ formsL, (p.2.map wgt).sum ≤ 8 := by decide +kernel
theorem partsF_len {p : PyData → Bool} : ∀ {ks : List Str} {fs : List PyData}, flds p ks fs = true → (partsF ks fs).length ≤ (ks.map wgt).sum
  | [], [], _ => Nat.le_refl _
  | k :: ks, f :: fs, h => by
    simp only [flds, Bool.and_eq_true] at h
    have ih := partsF_len h.2
    rw [partsF, List.length_append, List.map_cons, List.sum_cons]
    have h1 : (partsK k f).length ≤ wgt k := by
      unfold partsK wgt
      split
      · exact Nat.le_refl _
      · split
        · rename_i c
          subst c
          obtain ⟨gs, rfl, g8, _⟩ := tupAll_cases (fld_f h.1)
          exact g8
        · split
          · rename_i c
            subst c
            obtain ⟨gs, rfl, g8, _⟩ := tupAll_cases (fld_e h.1)
            rw [List.length_map]
            exact g8
          · exact Nat.le_refl _
    omega
  | [], _ :: _, h => by cases h
  | _ :: _, [], h => by cases h
theorem sum_le {α : Type} {f : α → Nat} {b : Nat} : ∀ {l : List α}, (∀ x ∈ l, f x ≤ b) → (l.map f).sum ≤ l.length * b
  | [], _ => by simp
  | x :: l, h => by
    have h1 := h x List.mem_cons_self
    have h2 := sum_le fun y hy => h y (List.mem_cons_of_mem _ hy)
    rw [List.map_cons, List.sum_cons, List.length_cons, Nat.succ_mul]
    omega
theorem szT_le : ∀ {n : Nat} {t : PyData}, wf n t = true → szT n t ≤ BB n
  | 0, _, h => by cases h
  | n + 1, t, h => by
    have hp := parts_wf h
    obtain ⟨w, fs, ks, rfl, hk, hf⟩ := wf_cases h
    have l1 := partsF_len hf
    have l2 : (ks.map wgt).sum ≤ 8 := forms_wgt _ (lookup_mem hk)
    rw [szT, BB]
    have : ((partsOf (.tuple (.str w :: fs))).map (szT n)).sum ≤ (partsOf (.tuple (.str w :: fs))).length * BB n := sum_le fun p hp' => szT_le (hp p hp')
    have l3 : (partsOf (.tuple (.str w :: fs))).length ≤ 8 := by
      rw [partsOf_node hk]
      omega
    have := Nat.mul_le_mul_right (BB n) l3
    omega
def SAME : PyData := .tuple [.str "same"]
def LEAF1 : PyData := .tuple [.str "leaf", .int 1]
def CALL0 : PyData := .tuple [.str "call", .str "f", .tuple []]
theorem wf_same (n : Nat) : wf (n + 1) SAME = true := wf_node fo_same rfl
theorem wf_leaf1 (n : Nat) : wf (n + 1) LEAF1 = true := wf_node fo_leaf (by simp only [flds, Bool.and_true]; exact fld_leaf rfl)
theorem kx : okK "x" = true := by decide +kernel
theorem ky : okK "y" = true := by decide +kernel
theorem kf : okK "f" = true := by decide +kernel
theorem kg : okK "g" = true := by decide +kernel
theorem kh : okK "h" = true := by decide +kernel
theorem wf_call0 (n : Nat) : wf (n + 1) CALL0 = true := wf_node fo_call (by
  simp only [flds, Bool.and_true, Bool.and_eq_true]
  exact ⟨fld_str kf _ (.inr (.inl rfl)), fld_filters rfl⟩)
theorem sz_same (n : Nat) : szT n SAME = 1 := by
  cases n with
  | zero => rfl
  | succ n =>
    rw [szT, SAME, partsOf_node fo_same]
    rfl
theorem parts_leaf1 : partsOf LEAF1 = [] := by
  rw [LEAF1, partsOf_node fo_leaf]
  simp only [partsF, partsK]
  rw [if_neg (by decide +kernel), if_neg (by decide +kernel), if_neg (by decide +kernel)]
  rfl
theorem sz_leaf1 (n : Nat) : szT n LEAF1 = 1 := by
  cases n with
  | zero => rfl
  | succ n =>
    rw [szT, parts_leaf1]
    rfl
theorem sz_call0 (n : Nat) : szT n CALL0 = 1 := by
  cases n with
  | zero => rfl
  | succ n =>
    rw [szT, CALL0, parts_call]
    rfl
theorem pk_fp {p : PyData → Bool} {f : PyData} (h : p f = true) : fldOk p "filter" f = true := by
  unfold fldOk
  rw [if_pos pk_f]
  exact h
theorem wf_as {n : Nat} {a b : PyData} {x : Str} (ha : wf n a = true) (hb : wf n b = true) (hx : okK x = true) : wf (n + 1) (.tuple [.str "as", a, .str x, b]) = true := wf_node fo_as (by
  simp only [flds, Bool.and_true, Bool.and_eq_true]
  exact ⟨pk_fp ha, fld_str hx _ (.inr (.inl rfl)), pk_fp hb⟩)
theorem sz_as (n : Nat) (a b : PyData) (x : Str) : szT (n + 1) (.tuple [.str "as", a, .str x, b]) = 1 + (szT n a + szT n b) := by
  rw [szT, parts_as]
  simp
theorem wf_def {n : Nat} {a b ps : PyData} {x : Str} (ha : wf n a = true) (hb : wf n b = true) (hx : okK x = true) (hp : tupAll isStrD ps = true) : wf (n + 1) (.tuple [.str "def", .str x, ps, a, b]) = true := wf_node fo_def (by
  simp only [flds, Bool.and_true, Bool.and_eq_true]
  exact ⟨fld_str hx _ (.inr (.inl rfl)), fld_params hp, pk_fp ha, pk_fp hb⟩)
theorem sz_def (n : Nat) (a b ps : PyData) (x : Str) : szT (n + 1) (.tuple [.str "def", .str x, ps, a, b]) = 1 + (szT n a + szT n b) := by
  rw [szT, parts_def]
  simp
/-- a filter off the tape, of n levels, and its size -/
def FS (K : PySem.W.Frag) (d : Addr) (H : Hp) (n : Nat) (z : Nat) (v : V) : Prop := ∃ t, Dp K (delH H d) v t ∧ wf n t = true ∧ szT n t ≤ z ∧ 1 ≤ n
theorem FS.but {K : PySem.W.Frag} {d : Addr} {H H' : Hp} {n z : Nat} {v : V} (h : FS K d H n z v) (b : But d H H') : FS K d H' n z v := by
  obtain ⟨t, h1, h2⟩ := h
  exact ⟨t, dpM (But.off b) h1, h2⟩
theorem tup_off {K : PySem.W.Frag} {d T : Addr} {H : Hp} {xs : List V} {ds : List PyData} (h : H T = some (.tup xs)) (n : T ≠ d) (a : DpAll K (delH H d) xs ds) : Dp K (delH H d) (.ref T) (.tuple ds) := .tup (SqT.of ((delH_ne n).trans h)) a
end Toy


namespace L2
open PySem PySem.Spec PyProof.Rows
section
variable {X : Cx}
/-- repr of a truth -/
def rReB : List V → Hp → VK → Prop := fun xs H Q => ∃ b, xs = [.bl b] ∧ Q (.str (if b then "True" else "False")) H
theorem call_reB : CallR X (.builtin "repr") rReB := by
  intro pins s σ H xs us Q I r h
  obtain ⟨b, rfl, q⟩ := h
  obtain ⟨u, rfl, ru⟩ := vals1 r
  cases ru
  exact PySem.P.repr_of_bool ⟨.str _, H, I.tok _, ⟨_, rfl⟩, q⟩
end
end L2
namespace Toy
open PySem PySem.Spec L2 PyProof.Rows PySem.W
abbrev sLaw : Stmt := top 53
abbrev NLw : List Str := ["_law_script", "_law_tape", "_law_turn", "_law_keys", "_law_again", "_law_x", "_law_way"]
theorem scLw : FnScope NLw ["_law_script"] (defScope sLaw) := ⟨rfl, rfl, rfl, by decide +kernel, rfl, by decide +kernel, by decide +kernel⟩
def spLaw (K : PySem.W.Frag) : Sp := fun vs H Q _ => ∃ (a : Addr) (ns : List Int), vs = [.ref a] ∧ SqL K H a (ns.map V.int) ∧ ns.length ≤ 63 ∧ ∀ H', Q (.bl true) H'
theorem del_same {H : Hp} {d : Addr} : Same (delH H d) H := fun b o e => by
  by_cases h : b = d
  · subst h
    rw [show delH H b b = none by unfold delH; simp] at e
    cases e
  · rw [delH_ne h] at e
    exact e
theorem seq_if_inv {t : TT} {A R : TS} {D : Ends} {σ : L2.St} {H : Hp} (c0 : Bool) (I : L2.St → Hp → Prop) (ht : ∀ Q' : Bool → Hp → Prop, Q' c0 H → t σ H Q') (hA : ∀ N : L2.St → Hp → Prop, (∀ σ' H', I σ' H' → N σ' H') → A { D with nx := N } σ H) (h0 : I σ H) (hR : ∀ σ' H', I σ' H' → R D σ' H') : tSeq (tIfS t A tNext) R D σ H := by
  refine ht _ ?_
  cases c0 with
  | true => exact hA _ hR
  | false => exact hR _ _ h0
structure LawT (mg : Str → Option Value) : Prop where
  len : mg "len" = none
  range : mg "range" = none
  min : mg "min" = none
  repr : mg "repr" = none
def keys3 : List Str := ["a", "b", "zz"]
theorem keys3_ok : KeysOk keys3 := ⟨by decide, by decide, by decide +kernel⟩
section
variable {P : Program} {w : World} {K : PySem.W.Frag} {mg : Str → Option Value} {base : Heap}
theorem body_law {f fB fD fP fF fIF fC fBo : Addr} {dB dD dP dF dIF dC dBo : FuncData} (L : LawT mg)
    (GB : FnOk P w K mg base CX0 1 fB dB ["_law_script"] (spBegin K)) (mB : mg "_law_begin" = some (.ref fB)) (kB : PySem.W.keepIn K (.ref fB) = true) (bB : Binds K dB ["_law_script"] [])
    (GD : FnOk P w K mg base CX0 1 fD dD ["_law_tape", "_law_many"] spDraw) (mD : mg "_law_draw" = some (.ref fD)) (kD : PySem.W.keepIn K (.ref fD) = true) (bD : Binds K dD ["_law_tape", "_law_many"] [])
    (GP : FnOk P w K mg base CX0 2 fP dP ["_law_tape", "_law_items"] spPick) (mP : mg "_law_pick" = some (.ref fP)) (kP : PySem.W.keepIn K (.ref fP) = true) (bP : Binds K dP ["_law_tape", "_law_items"] [])
    (GF : FnOk P w K mg base CX0 12 fF dF ["_law_tape", "_law_keys", "_law_deep"] (spFl K 5)) (mF : mg "_law_filter" = some (.ref fF)) (kF : PySem.W.keepIn K (.ref fF) = true) (bF : Binds K dF ["_law_tape", "_law_keys", "_law_deep"] [])
    (GIF : FnOk P w K mg base CX0 6 fIF dIF ["value"] (spIF K)) (mIF : mg "is_filter" = some (.ref fIF)) (kIF : PySem.W.keepIn K (.ref fIF) = true) (bIF : Binds K dIF ["value"] [])
    (GC : FnOk P w K mg base CX0 5 fC dC ["term"] (spCl K)) (mC : mg "is_closed" = some (.ref fC)) (kC : PySem.W.keepIn K (.ref fC) = true) (bC : Binds K dC ["term"] [])
    (GBo : FnOk P w K mg base CX0 16 fBo dBo PB (spBo K 13)) (mBo : mg "_law_is_bound" = some (.ref fBo)) (kBo : PySem.W.keepIn K (.ref fBo) = true) (bBo : Binds K dBo PB []) :
    BodyOk P w K mg base 16 NLw "law" (defScope sLaw) (defBody sLaw) f (spLaw K) := by
  intro cdv s H vs Q E hr h
  obtain ⟨a, ns, rfl, hS, hlen, q⟩ := h
  have hr1 : Room 1 (callerA.deeper (PyProof.Rows.envOfC "law" (defScope sLaw) s.heap.objs.size f cdv)) := hr.mono (by decide)
  have hr2 : Room 2 (callerA.deeper (PyProof.Rows.envOfC "law" (defScope sLaw) s.heap.objs.size f cdv)) := hr.mono (by decide)
  have hr3 : Room 3 (callerA.deeper (PyProof.Rows.envOfC "law" (defScope sLaw) s.heap.objs.size f cdv)) := hr.mono (by decide)
  have hr5 : Room 5 (callerA.deeper (PyProof.Rows.envOfC "law" (defScope sLaw) s.heap.objs.size f cdv)) := hr.mono (by decide)
  have hr6 : Room 6 (callerA.deeper (PyProof.Rows.envOfC "law" (defScope sLaw) s.heap.objs.size f cdv)) := hr.mono (by decide)
  have hr12 : Room 12 (callerA.deeper (PyProof.Rows.envOfC "law" (defScope sLaw) s.heap.objs.size f cdv)) := hr.mono (by decide)
  refine ⟨_, PSs.nox (pss_cons (ps_set (i := 1) scLw.nd rfl (Or.inl rfl) (pe_call GB hr1 (by rfl) mB kB bB .nil pass0 (pa_cons (pv 0) pa_nil)))
    (pss_cons (ps_for PassesOwn.never rfl (pi_range1 (by rfl) L.range (pa_cons (pe_op op_add pe_int (pe_callB (call_min2 rfl) (by rfl) L.min (by decide +kernel) (pa_cons pe_int (pa_cons (pe_callB call_len_seq (by rfl) L.len PySem.boot_len (pa_cons (pv 0) pa_nil)) pa_nil)))) pa_nil)) (pg_name (i := 2) scLw.nd rfl (Or.inl rfl))
      (pss_cons (ps_set (i := 3) scLw.nd rfl (Or.inl rfl) (pe_lst (pa_cons pe_str (pa_cons pe_str (pa_cons pe_str pa_nil)))))
      (pss_one (ps_for PassesOwn.never rfl (pi_range1 (by rfl) L.range (pa_cons pe_int pa_nil)) (pg_name (i := 4) scLw.nd rfl (Or.inl rfl))
        (pss_cons (ps_set (i := 5) scLw.nd rfl (Or.inl rfl) (pe_call GF hr12 (by rfl) mF kF bF .nil pass0 (pa_cons (pv 1) (pa_cons (pv 3) (pa_cons (pe_call GD hr1 (by rfl) mD kD bD .nil pass0 (pa_cons (pv 1) (pa_cons pe_int pa_nil))) pa_nil)))))
        (pss_cons (ps_set (i := 6) scLw.nd rfl (Or.inl rfl) (pe_call GD hr1 (by rfl) mD kD bD .nil pass0 (pa_cons (pv 1) (pa_cons pe_int pa_nil))))
        (pss_cons (ps_if (pt_cmpR op_gt (pv 6) pe_int (nomark _)) (pss_one (ps_set (i := 5) scLw.nd rfl (Or.inl rfl) (pe_tup (pa_cons pe_str (pa_cons (pe_tup (pa_cons pe_str pa_nil)) (pa_cons pe_str (pa_cons (pe_tup (pa_cons pe_str (pa_cons (pe_tup (pa_cons pe_str (pa_cons pe_int pa_nil))) (pa_cons pe_str (pa_cons (pv 5) pa_nil))))) pa_nil))))))) pss_nil)
        (pss_cons (ps_if (pt_cmpR op_gt (pv 6) pe_int (nomark _)) (pss_one (ps_set (i := 5) scLw.nd rfl (Or.inl rfl) (pe_tup (pa_cons pe_str (pa_cons pe_str (pa_cons (pe_call GP hr2 (by rfl) mP kP bP .nil pass0 (pa_cons (pv 1) (pa_cons (pe_lst (pa_cons (pe_tup pa_nil) (pa_cons (pe_tup (pa_cons pe_str pa_nil)) (pa_cons (pe_tup (pa_cons pe_str (pa_cons pe_str pa_nil))) pa_nil)))) pa_nil)))
            (pa_cons (pe_tup (pa_cons pe_str pa_nil)) (pa_cons (pe_tup (pa_cons pe_str (pa_cons pe_str (pa_cons (pe_tup pa_nil) (pa_cons (pe_tup (pa_cons pe_str pa_nil)) (pa_cons (pv 5) pa_nil)))))) pa_nil)))))))) pss_nil)
        (pss_cons (ps_if (pt_cmpR op_gt (pv 6) pe_int (nomark _)) (pss_one (ps_set (i := 5) scLw.nd rfl (Or.inl rfl) (pe_tup (pa_cons pe_str (pa_cons pe_str (pa_cons (pe_tup (pa_cons pe_str pa_nil)) (pa_cons (pe_tup (pa_cons pe_str (pa_cons pe_str (pa_cons (pe_tup pa_nil) pa_nil)))) (pa_cons (pv 5) pa_nil)))))))) pss_nil)
        (pss_one (ps_if (PW.pt (pw_and (pt_val (pe_call GIF hr6 (by rfl) mIF kIF bIF .nil pass0 (pa_cons (pv 5) pa_nil))) (pw_and1 (pt_cmpR op_ne (pe_callB call_reB (by rfl) L.repr (by decide +kernel) (pa_cons (pe_call GC hr5 (by rfl) mC kC bC .nil pass0 (pa_cons (pv 5) pa_nil)) pa_nil))
          (pe_callB call_reB (by rfl) L.repr (by decide +kernel) (pa_cons (pe_call GBo hr (by rfl) mBo kBo bBo .nil pass0 (pa_cons (pv 5) (pa_cons (pe_lst pa_nil) (pa_cons pe_dnewK pa_nil)))) pa_nil)) (nomark _))))) (pss_one (ps_ret pe_bl)) pss_nil)))))))))))
    (pss_one (ps_ret pe_bl)))), ?_⟩
  refine ⟨_, rfl, a, ns, rfl, hS, hlen, fun H1 d l s1 nd nl nld hT => ?_⟩
  refine ⟨_, rfl, a, _, rfl, .inl (s1.seq hS), _, _, rfl, _, _, rfl, rfl, _, rfl, ?_⟩
  generalize hnn : (4 + if (((ns.map V.int).length : Nat) : Int) < 4 then (((ns.map V.int).length : Nat) : Int) else 4) = nn
  have hn10 : 4 ≤ nn ∧ nn ≤ 8 := by
    rw [← hnn]
    split <;> omega
  refine ⟨by omega, by omega, ?_⟩
  refine for_range (lo := 0) (n := nn.toNat) (fun i σ H' => ∃ v2 v3 v4 v5 v6 : Option V, σ = [some (.ref a), some (.ref d), v2, v3, v4, v5, v6] ∧ Tape H' d l (40000 * i)) ⟨none, none, none, none, none, rfl, hT⟩ ?_ ?_
  · rintro i σ Ha hi ⟨v2, v3, v4, v5, v6, rfl, ta⟩
    have hi8 : i ≤ 7 := by omega
    refine ⟨few (by show 3 ≤ 1000; decide), fun kp nkp => ?_⟩
    have sb : Same Ha (upd Ha kp (.lst [.str "a", .str "b", .str "zz"])) := same_new same_id nkp
    have hkp : (upd Ha kp (.lst [.str "a", .str "b", .str "zz"])) kp = some (.lst (keys3.map V.str)) := upd_same
    have nkd : kp ≠ d := by
      obtain ⟨o, ho⟩ := ta.at.1
      exact (ne_of_none ho nkp).symm
    generalize upd Ha kp (.lst [.str "a", .str "b", .str "zz"]) = Hk at sb hkp ⊢
    have tk := ta.same sb
    refine ⟨_, rfl, by omega, by omega, ?_⟩
    refine for_range (lo := 0) (n := 8) (fun j σ H' => ∃ v4 v5 v6 : Option V, σ = [some (.ref a), some (.ref d), some (.int (0 + (i : Int))), some (.ref kp), v4, v5, v6] ∧ Tape H' d l (40000 * i + 5000 * j) ∧ H' kp = some (.lst (keys3.map V.str))) ⟨v4, v5, v6, rfl, tk, hkp⟩ ?_ ?_
    · rintro j σ Hb hj ⟨w4, w5, w6, rfl, tb, hkb⟩
      have hj7 : j ≤ 7 := by omega
      generalize hN : 40000 * i + 5000 * j = N0 at tb
      refine ⟨_, rfl, _, rfl, _, rfl, d, l, N0, 5, rfl, tb, by omega, by decide, by decide, fun Hc r b2 tc r0 r5 => ?_⟩
      have hkc := b2 _ _ nkd hkb
      have cf4 : cF r.toNat ≤ cF 4 := cF_le (by omega)
      have cf4v : cF 4 = 4810 := by decide
      refine ⟨d, l, kp, N0 + 1, r, keys3, ⟨by omega, by omega⟩, rfl, tc, by omega, hkc, keys3_ok, fun Hd v b3 td fv => ?_⟩
      have hkd := b3 _ _ nkd hkc
      have fs7 : FS K d Hd 7 2396745 v := by
        obtain ⟨t, h1, h2⟩ := fv
        have h3 := wf_mono h2 (show r.toNat + 3 ≤ 7 by omega)
        refine ⟨t, h1, h3, ?_, by omega⟩
        have := szT_le h3
        have e : BB 7 = 2396745 := by decide
        omega
      have td : Tape Hd d l (N0 + 4811) := td.more (by omega)
      refine ⟨_, rfl, d, l, N0 + 4811, 4, rfl, td, by omega, by decide, by decide, fun He wy b4 te w0 w4' => ?_⟩
      have hke := b4 _ _ nkd hkd
      have fse := fs7.but b4
      have te : Tape He d l (N0 + 4812) := te
      have nd_ : ∀ {Hx : Hp}, Tape Hx d l (N0 + 4812) → ∀ {T : Addr}, Hx T = none → T ≠ d := fun t T e => by
        obtain ⟨o, ho⟩ := t.at.1
        exact (ne_of_none ho e).symm
      dsimp only
      refine seq_if_inv (decide (wy > 0)) (fun σ' H' => ∃ v' n, σ' = [some (.ref a), some (.ref d), some (.int (0 + (i : Int))), some (.ref kp), some (.int (0 + (j : Int))), some v', some (.int wy)] ∧ n ≤ 9 ∧ FS K d H' n 2396749 v' ∧ Tape H' d l (N0 + 4812) ∧ H' kp = some (.lst (keys3.map V.str))) (fun Q' k => ⟨_, rfl, _, _, rfl, rfl, _, rfl, k⟩) (fun N hN => ?_) ⟨v, 7, rfl, by decide, ?_, te, hke⟩ ?_
      · refine ⟨few (by show 1 ≤ 1000; decide), fun T1 n1 => ⟨few (by show 2 ≤ 1000; decide), fun T3 n3 => ⟨_, rfl, few (by show 4 ≤ 1000; decide), fun T4 n4 => ⟨few (by show 4 ≤ 1000; decide), fun T5 n5 => ?_⟩⟩⟩⟩
        have d1 : T1 ≠ d := nd_ te n1
        have s1 : Same He (upd He T1 (.tup [.str "same"])) := same_new same_id n1
        have h1 : (upd He T1 (.tup [.str "same"])) T1 = some (.tup [.str "same"]) := upd_same
        generalize upd He T1 (.tup [.str "same"]) = G1 at s1 h1 n3 n4 n5 ⊢
        have d3 : T3 ≠ d := nd_ (te.same s1) n3
        have s3 : Same G1 (upd G1 T3 (.tup [.str "leaf", .int 1])) := same_new same_id n3
        have h3 : (upd G1 T3 (.tup [.str "leaf", .int 1])) T3 = some (.tup [.str "leaf", .int 1]) := upd_same
        generalize upd G1 T3 (.tup [.str "leaf", .int 1]) = G3 at s3 h3 n4 n5 ⊢
        have d4 : T4 ≠ d := nd_ ((te.same s1).same s3) n4
        have s4 : Same G3 (upd G3 T4 (.tup [.str "as", .ref T3, .str "y", v])) := same_new same_id n4
        have h4 : (upd G3 T4 (.tup [.str "as", .ref T3, .str "y", v])) T4 = some (.tup [.str "as", .ref T3, .str "y", v]) := upd_same
        generalize upd G3 T4 (.tup [.str "as", .ref T3, .str "y", v]) = G4 at s4 h4 n5 ⊢
        have d5 : T5 ≠ d := nd_ (((te.same s1).same s3).same s4) n5
        have s5 : Same G4 (upd G4 T5 (.tup [.str "as", .ref T1, .str "x", .ref T4])) := same_new same_id n5
        have h5 : (upd G4 T5 (.tup [.str "as", .ref T1, .str "x", .ref T4])) T5 = some (.tup [.str "as", .ref T1, .str "x", .ref T4]) := upd_same
        generalize upd G4 T5 (.tup [.str "as", .ref T1, .str "x", .ref T4]) = G5 at s5 h5 ⊢
        have s35 := s3.trans (s4.trans s5)
        have s05 := s1.trans s35
        refine hN _ _ ⟨_, 9, rfl, by decide, ?_, te.same s05, s05 _ _ hke⟩
        obtain ⟨t, p1, p2, p3, _⟩ := fse.but (Same.but s05 d)
        refine ⟨.tuple [.str "as", SAME, .str "x", .tuple [.str "as", LEAF1, .str "y", t]], tup_off h5 d5 (.cons (.str _) (.cons (tup_off (s35 _ _ h1) d1 (.cons (.str _) .nil)) (.cons (.str _) (.cons (tup_off (s5 _ _ h4) d4 (.cons (.str _) (.cons (tup_off ((s4.trans s5) _ _ h3) d3 (.cons (.str _) (.cons (.int 1) .nil))) (.cons (.str _) (.cons p1 .nil))))) .nil)))), wf_as (wf_same 7) (wf_as (wf_leaf1 6) p2 ky) kx, ?_, by decide⟩
        rw [sz_as, sz_as, sz_same, sz_leaf1]
        omega
      · obtain ⟨t, p1, p2, p3, p4⟩ := fse
        exact ⟨t, p1, p2, by omega, p4⟩
      rintro σ' Hf ⟨v1, n1', rfl, hn1, fsf, tf, hkf⟩
      refine seq_if_inv (decide (wy > 1)) (fun σ' H' => ∃ v' n, σ' = [some (.ref a), some (.ref d), some (.int (0 + (i : Int))), some (.ref kp), some (.int (0 + (j : Int))), some v', some (.int wy)] ∧ n ≤ 11 ∧ FS K d H' n 2396753 v' ∧ Tape H' d l (N0 + 4814) ∧ H' kp = some (.lst (keys3.map V.str))) (fun Q' k => ⟨_, rfl, _, _, rfl, rfl, _, rfl, k⟩) (fun N hN => ?_) ⟨v1, n1', rfl, by omega, ?_, tf.more (by omega), hkf⟩ ?_
      · obtain ⟨t0, p1, p2, p3, p4⟩ := fsf
        refine ⟨_, rfl, few (by show 0 ≤ 1000; decide), fun A0 a0 => ⟨few (by show 1 ≤ 1000; decide), fun A1 a1 => ⟨few (by show 2 ≤ 1000; decide), fun A2 a2 => ⟨few (by show 3 ≤ 1000; decide), fun L nL => ?_⟩⟩⟩⟩
        have e0 : A0 ≠ d := nd_ tf a0
        have u0 : Same Hf (upd Hf A0 (.tup [])) := same_new same_id a0
        have g0 : (upd Hf A0 (.tup [])) A0 = some (.tup []) := upd_same
        generalize upd Hf A0 (.tup []) = F0 at u0 g0 a1 a2 nL ⊢
        have e1 : A1 ≠ d := nd_ (tf.same u0) a1
        have u1 : Same F0 (upd F0 A1 (.tup [.str "x"])) := same_new same_id a1
        have g1 : (upd F0 A1 (.tup [.str "x"])) A1 = some (.tup [.str "x"]) := upd_same
        generalize upd F0 A1 (.tup [.str "x"]) = F1 at u1 g1 a2 nL ⊢
        have e2 : A2 ≠ d := nd_ ((tf.same u0).same u1) a2
        have u2 : Same F1 (upd F1 A2 (.tup [.str "g", .str "h"])) := same_new same_id a2
        have g2 : (upd F1 A2 (.tup [.str "g", .str "h"])) A2 = some (.tup [.str "g", .str "h"]) := upd_same
        generalize upd F1 A2 (.tup [.str "g", .str "h"]) = F2 at u2 g2 nL ⊢
        have u3 : Same F2 (upd F2 L (.lst [.ref A0, .ref A1, .ref A2])) := same_new same_id nL
        have u03 : Same Hf (upd F2 L (.lst [.ref A0, .ref A1, .ref A2])) := ((u0.trans u1).trans u2).trans u3
        refine ⟨d, l, L, N0 + 4812, _, rfl, tf.same u03, by omega, upd_same, by simp, by show 3 < 1000000; decide, fun Hq pv bP tP hmem => ?_⟩
        have tP : Tape Hq d l (N0 + 4813) := tP
        have hpk : ∃ P, Dp K (delH Hq d) pv P ∧ tupAll isStrD P = true := by
          simp only [List.mem_cons, List.not_mem_nil, or_false] at hmem
          rcases hmem with rfl | rfl | rfl
          · exact ⟨.tuple [], tup_off (bP _ _ e0 (u3 _ _ (u2 _ _ (u1 _ _ g0)))) e0 .nil, by decide +kernel⟩
          · exact ⟨.tuple [.str "x"], tup_off (bP _ _ e1 (u3 _ _ (u2 _ _ g1))) e1 (.cons (.str _) .nil), by decide +kernel⟩
          · exact ⟨.tuple [.str "g", .str "h"], tup_off (bP _ _ e2 (u3 _ _ g2)) e2 (.cons (.str _) (.cons (.str _) .nil)), by decide +kernel⟩
        obtain ⟨Pd, hP1, hP2⟩ := hpk
        have q1 : Dp K (delH Hq d) v1 t0 := dpM (But.off bP) (dpM (But.off (Same.but u03 d)) p1)
        have hkP := bP _ _ nkd (u03 _ _ hkf)
        have nd3 : ∀ {Hx : Hp}, Tape Hx d l (N0 + 4813) → ∀ {T : Addr}, Hx T = none → T ≠ d := fun t T e => by
          obtain ⟨o, ho⟩ := t.at.1
          exact (ne_of_none ho e).symm
        refine ⟨few (by show 1 ≤ 1000; decide), fun T1 n1 => ⟨few (by show 0 ≤ 1000; decide), fun T2 n2 => ⟨few (by show 1 ≤ 1000; decide), fun T3 n3 => ⟨_, rfl, few (by show 5 ≤ 1000; decide), fun T4 n4 => ⟨few (by show 5 ≤ 1000; decide), fun T5 n5 => ?_⟩⟩⟩⟩⟩
        have d1 : T1 ≠ d := nd3 tP n1
        have s1 : Same Hq (upd Hq T1 (.tup [.str "same"])) := same_new same_id n1
        have h1 : (upd Hq T1 (.tup [.str "same"])) T1 = some (.tup [.str "same"]) := upd_same
        generalize upd Hq T1 (.tup [.str "same"]) = G1 at s1 h1 n2 n3 n4 n5 ⊢
        have d2 : T2 ≠ d := nd3 (tP.same s1) n2
        have s2 : Same G1 (upd G1 T2 (.tup [])) := same_new same_id n2
        have h2 : (upd G1 T2 (.tup [])) T2 = some (.tup []) := upd_same
        generalize upd G1 T2 (.tup []) = G2 at s2 h2 n3 n4 n5 ⊢
        have d3 : T3 ≠ d := nd3 ((tP.same s1).same s2) n3
        have s3 : Same G2 (upd G2 T3 (.tup [.str "same"])) := same_new same_id n3
        have h3 : (upd G2 T3 (.tup [.str "same"])) T3 = some (.tup [.str "same"]) := upd_same
        generalize upd G2 T3 (.tup [.str "same"]) = G3 at s3 h3 n4 n5 ⊢
        have d4 : T4 ≠ d := nd3 (((tP.same s1).same s2).same s3) n4
        have s4 : Same G3 (upd G3 T4 (.tup [.str "def", .str "g", .ref T2, .ref T3, v1])) := same_new same_id n4
        have h4 : (upd G3 T4 (.tup [.str "def", .str "g", .ref T2, .ref T3, v1])) T4 = some (.tup [.str "def", .str "g", .ref T2, .ref T3, v1]) := upd_same
        generalize upd G3 T4 (.tup [.str "def", .str "g", .ref T2, .ref T3, v1]) = G4 at s4 h4 n5 ⊢
        have d5 : T5 ≠ d := nd3 ((((tP.same s1).same s2).same s3).same s4) n5
        have s5 : Same G4 (upd G4 T5 (.tup [.str "def", .str "f", pv, .ref T1, .ref T4])) := same_new same_id n5
        have h5 : (upd G4 T5 (.tup [.str "def", .str "f", pv, .ref T1, .ref T4])) T5 = some (.tup [.str "def", .str "f", pv, .ref T1, .ref T4]) := upd_same
        generalize upd G4 T5 (.tup [.str "def", .str "f", pv, .ref T1, .ref T4]) = G5 at s5 h5 ⊢
        have s45 := s4.trans s5
        have s35 := s3.trans s45
        have s25 := s2.trans s35
        have s05 := s1.trans s25
        obtain ⟨m2, rfl⟩ : ∃ m2, n1' = m2 + 1 := ⟨n1' - 1, by omega⟩
        have qv := dpM (But.off (Same.but s05 d)) q1
        have qP := dpM (But.off (Same.but s05 d)) hP1
        refine hN _ _ ⟨_, m2 + 3, rfl, by omega, ?_, (tP.same s05).more (by omega), s05 _ _ hkP⟩
        refine ⟨.tuple [.str "def", .str "f", Pd, SAME, .tuple [.str "def", .str "g", .tuple [], SAME, t0]], tup_off h5 d5 (.cons (.str _) (.cons (.str _) (.cons qP (.cons (tup_off (s25 _ _ h1) d1 (.cons (.str _) .nil)) (.cons (tup_off (s5 _ _ h4) d4 (.cons (.str _) (.cons (.str _) (.cons (tup_off (s35 _ _ h2) d2 .nil) (.cons (tup_off (s45 _ _ h3) d3 (.cons (.str _) .nil)) (.cons qv .nil)))))) .nil))))), wf_def (wf_same (m2 + 1)) (wf_def (wf_same m2) p2 kg (by decide +kernel)) kf hP2, ?_, by omega⟩
        rw [sz_def, sz_def, sz_same, sz_same]
        omega
      · obtain ⟨t, p1, p2, p3, p4⟩ := fsf
        exact ⟨t, p1, p2, by omega, p4⟩
      rintro σ' Hg ⟨v2, n2', rfl, hn2, fsg, tg, hkg⟩
      refine seq_if_inv (decide (wy > 2)) (fun σ' H' => ∃ v' n, σ' = [some (.ref a), some (.ref d), some (.int (0 + (i : Int))), some (.ref kp), some (.int (0 + (j : Int))), some v', some (.int wy)] ∧ n ≤ 12 ∧ FS K d H' n 2396755 v' ∧ Tape H' d l (N0 + 4814) ∧ H' kp = some (.lst (keys3.map V.str))) (fun Q' k => ⟨_, rfl, _, _, rfl, rfl, _, rfl, k⟩) (fun N hN => ?_) ⟨v2, n2', rfl, by omega, ?_, tg, hkg⟩ ?_
      · refine ⟨few (by show 1 ≤ 1000; decide), fun T1 n1 => ⟨few (by show 0 ≤ 1000; decide), fun T3 n3 => ⟨few (by show 3 ≤ 1000; decide), fun T4 n4 => ⟨_, rfl, few (by show 5 ≤ 1000; decide), fun T5 n5 => ?_⟩⟩⟩⟩
        have nd2 : ∀ {Hx : Hp}, Tape Hx d l (N0 + 4814) → ∀ {T : Addr}, Hx T = none → T ≠ d := fun t T e => by
          obtain ⟨o, ho⟩ := t.at.1
          exact (ne_of_none ho e).symm
        have d1 : T1 ≠ d := nd2 tg n1
        have s1 : Same Hg (upd Hg T1 (.tup [.str "f"])) := same_new same_id n1
        have h1 : (upd Hg T1 (.tup [.str "f"])) T1 = some (.tup [.str "f"]) := upd_same
        generalize upd Hg T1 (.tup [.str "f"]) = G1 at s1 h1 n3 n4 n5 ⊢
        have d3 : T3 ≠ d := nd2 (tg.same s1) n3
        have s3 : Same G1 (upd G1 T3 (.tup [])) := same_new same_id n3
        have h3 : (upd G1 T3 (.tup [])) T3 = some (.tup []) := upd_same
        generalize upd G1 T3 (.tup []) = G3 at s3 h3 n4 n5 ⊢
        have d4 : T4 ≠ d := nd2 ((tg.same s1).same s3) n4
        have s4 : Same G3 (upd G3 T4 (.tup [.str "call", .str "f", .ref T3])) := same_new same_id n4
        have h4 : (upd G3 T4 (.tup [.str "call", .str "f", .ref T3])) T4 = some (.tup [.str "call", .str "f", .ref T3]) := upd_same
        generalize upd G3 T4 (.tup [.str "call", .str "f", .ref T3]) = G4 at s4 h4 n5 ⊢
        have d5 : T5 ≠ d := nd2 (((tg.same s1).same s3).same s4) n5
        have s5 : Same G4 (upd G4 T5 (.tup [.str "def", .str "h", .ref T1, .ref T4, v2])) := same_new same_id n5
        have h5 : (upd G4 T5 (.tup [.str "def", .str "h", .ref T1, .ref T4, v2])) T5 = some (.tup [.str "def", .str "h", .ref T1, .ref T4, v2]) := upd_same
        generalize upd G4 T5 (.tup [.str "def", .str "h", .ref T1, .ref T4, v2]) = G5 at s5 h5 ⊢
        have s35 := s3.trans (s4.trans s5)
        have s05 := s1.trans s35
        obtain ⟨t, p1, p2, p3, p4⟩ := fsg.but (Same.but s05 d)
        obtain ⟨m2, rfl⟩ : ∃ m2, n2' = m2 + 1 := ⟨n2' - 1, by omega⟩
        refine hN _ _ ⟨_, m2 + 2, rfl, by omega, ?_, tg.same s05, s05 _ _ hkg⟩
        refine ⟨.tuple [.str "def", .str "h", .tuple [.str "f"], CALL0, t], tup_off h5 d5 (.cons (.str _) (.cons (.str _) (.cons (tup_off (s35 _ _ h1) d1 (.cons (.str _) .nil)) (.cons (tup_off (s5 _ _ h4) d4 (.cons (.str _) (.cons (.str _) (.cons (tup_off ((s4.trans s5) _ _ h3) d3 .nil) .nil)))) (.cons p1 .nil))))), wf_def (wf_call0 m2) p2 kh (by decide +kernel), ?_, by omega⟩
        rw [sz_def, sz_call0]
        omega
      · obtain ⟨t, p1, p2, p3, p4⟩ := fsg
        exact ⟨t, p1, p2, by omega, p4⟩
      rintro σ' Hh ⟨v3, n3', rfl, hn3, fsh, th, hkh⟩
      obtain ⟨t, p1, p2, p3, p4⟩ := fsh
      have hv3 : Dp K Hh v3 t := dpM del_same p1
      have fin : ∀ H', Same Hh H' → ∃ v4 v5 v6 : Option V, [some (.ref a), some (.ref d), some (.int (0 + (i : Int))), some (.ref kp), some (.int (0 + (j : Int))), some v3, some (.int wy)] = [some (.ref a), some (.ref d), some (.int (0 + (i : Int))), some (.ref kp), v4, v5, v6] ∧ Tape H' d l (40000 * i + 5000 * (j + 1)) ∧ H' kp = some (.lst (keys3.map V.str)) := fun H' s => ⟨_, _, _, rfl, (th.same s).more (by omega), s _ _ hkh⟩
      refine ⟨_, rfl, v3, n3', t, rfl, hv3, p2, by omega, fun H2 b s2 => ⟨_, rfl, ite2 (fun _ => ?_) (fun _ => fin H2 s2)⟩⟩
      refine ⟨_, rfl, v3, n3', t, rfl, dpM s2 hv3, p2, by omega, by omega, fun H3 s3 => ⟨_, rfl, _, rfl, few (by show 0 ≤ 1000; decide), fun L0 nL0 p0 np0 => ?_⟩⟩
      have s23 : Same Hh (upd (upd H3 L0 (.lst [])) p0 (.dK [])) := same_new (same_new (s2.trans s3) nL0) np0
      have hL0 : (upd (upd H3 L0 (.lst [])) p0 (.dK [])) L0 = some (.lst (([] : List Str).map V.str)) := (upd_ne (ne_of_none upd_same np0)).trans upd_same
      have hp0 : (upd (upd H3 L0 (.lst [])) p0 (.dK [])) p0 = some (.dK []) := upd_same
      generalize upd (upd H3 L0 (.lst [])) p0 (.dK []) = H4 at s23 hL0 hp0 ⊢
      refine ⟨v3, n3', t, L0, p0, [], [], fun _ => none, by omega, rfl, dpM s23 hv3, p2, hL0, hp0, ⟨List.nodup_nil, fun _ => rfl⟩, by simp only [List.length_nil]; omega, by simp only [List.length_nil]; omega, fun H5 s5 => ?_⟩
      have ee : (fun x => decide (x ∈ ([] : List Str))) = (fun _ => false : NF) := by
        funext x
        simp
      rw [ee]
      exact ⟨_, rfl, rfl, _, rfl, ite2 (fun z => absurd z (by rw [decide_eq_true rfl]; decide)) (fun _ => fin H5 (s23.trans s5))⟩
    · rintro σ Hb ⟨w4, w5, w6, rfl, tb, hkb⟩
      exact ⟨_, _, _, _, _, rfl, tb.more (by omega)⟩
  · rintro σ Ha ⟨v2, v3, v4, v5, v6, rfl, ta⟩
    exact q Ha
end
end Toy


namespace Toy
open PySem PySem.Spec PyProof.Rows L2
/-! ### the head: what the top has written, as one answer -/
def wordOf : Value → Option Str
  | .str x _ => some x
  | _ => none
theorem words_vals : ∀ {us : List Value} {xs : List Str}, us.map wordOf = xs.map some → Vals (xs.map V.str) us
  | [], [], _ => .nil
  | [], _ :: _, h => by simp at h
  | _ :: _, [], h => by simp at h
  | u :: us, x :: xs, h => by
    simp only [List.map_cons, List.cons.injEq] at h
    refine .cons ?_ (words_vals h.2)
    cases u with
    | str y t =>
      obtain rfl := Option.some.inj h.1
      exact ⟨t, rfl⟩
    | _ => simp [wordOf] at h
def tupB (K : PySem.W.Frag) (a : Addr) (xs : List Str) : Bool := match K.lookup a with
  | some ⟨cls, none, .seq vs _, _⟩ => cls == .type "tuple" && decide (vs.toList.map wordOf = xs.map some)
  | _ => false
def tupB2 (K : PySem.W.Frag) (v : Value) (xs : List Str) : Bool := match v with
  | .ref a => tupB K a xs
  | _ => false
theorem tupB_ok {K : PySem.W.Frag} {a : Addr} {xs : List Str} (h : tupB K a xs = true) (hz : xs.length ≤ 1000) : TupK K a xs := by
  unfold tupB at h
  split at h
  · rename_i cls vs n sl e
    rw [Bool.and_eq_true] at h
    have h2 := of_decide_eq_true h.2
    have hl : vs.toList.length = xs.length := by
      have := congrArg List.length h2
      simpa using this
    have hc : cls = .type "tuple" := eq_of_beq h.1
    exact fun H => .inr ⟨_, vs, n, e, hc, rfl, few (by rw [← Array.length_toList]; omega), words_vals h2⟩
  · cases h
def wordsL : List Str := ["null", "yes", "no", "each", "none", "fail", "try", "other", "if", "then", "else", "end", "when", "as", "catch", "reduce", "first", "take", "fails", "def", "in", "change", "drop", "places", "add", "append", "is", "equal", "at", "and", "or", "not"]
def sortsL : List Str := ["null", "no", "yes", "number", "text", "list", "dict"]
def testsL : List Str := ["is", "equal", "at", "and", "or", "not"]
def walksL : List Str := ["same", "field", "item", "none", "fail", "pipe", "if"]
def choosersL : List Str := ["same", "field", "item", "every", "none", "fail", "pipe", "both", "if", "try", "other"]
def exB (K : PySem.W.Frag) : Bool := tupB K (He.ga K "PART_KINDS") kinds4 && (tupB K (He.ga K "WORDS") wordsL && (tupB K (He.ga K "SORTS") sortsL && (tupB K (He.ga K "TESTS") testsL && (tupB K (He.ga K "WALKS") walksL && (tupB K (He.ga K "CHOOSERS") choosersL && formsL.all fun p => match PySem.W.nsIn K (He.ga K "FORMS") p.1 with
  | some (some v) => tupB2 K v p.2
  | _ => false)))))
theorem forms_ok {K : PySem.W.Frag} {w : World} {d : Addr} (D : ∃ es n, KDict K w d es n) (h : (formsL.all fun p => match PySem.W.nsIn K d p.1 with
  | some (some v) => tupB2 K v p.2
  | _ => false) = true) : FormsK K w d := by
  obtain ⟨es, n, D⟩ := D
  intro p hp
  have z := List.all_eq_true.mp h p hp
  cases e : PySem.W.nsIn K d p.1 with
  | none => rw [e] at z; cases z
  | some r =>
    cases r with
    | none => rw [e] at z; cases z
    | some v =>
      rw [e] at z
      cases v with
      | ref a => exact ⟨a, ⟨es, n, .ref a, D.at_, D.lit, e, rfl⟩, tupB_ok z (Nat.le_trans (forms_len p hp) (by decide))⟩
      | _ => simp [tupB2] at z
def ts : List He.Tab := [(fun K => He.ga K "FORMS", formsL.map (·.1))]
def hdOf (x : Str) (st : Stmt) : He.DefD := ⟨(x, none), x, x, defArgs st, defBody st, defScope st, [], []⟩
def fn : List He.DefD := [hdOf "is_integer" sIsInt, hdOf "is_name" sName, hdOf "is_free_name" sFree, hdOf "is_leaf" sLeafV, hdOf "_is_text" sTxt, hdOf "begins_kind" sBeg, hdOf "kinds_and_parts" sKP, hdOf "is_filter" sIF, hdOf "_is_of_kind" sOK, hdOf "narrowed" sNar, hdOf "_has_form" sHF, hdOf "_is_field" sFld, hdOf "_are_entries" sEnts, hdOf "_are_unlike" sUnl, hdOf "is_index" sIdx, hdOf "is_closed" sCl, hdOf "first_unbound" sFU, hdOf "_may_be_called" sMB, hdOf "_scoped_parts" sSP, hdOf "_inner_scopes" sIS, hdOf "_law_begin" sBegin, hdOf "_law_draw" sDraw, hdOf "_law_pick" sPick, hdOf "_law_leaf" sLeaf, hdOf "_law_test" sTest, hdOf "_law_step" sStep, hdOf "_law_walk" sWalk, hdOf "_law_chooser" sChs, hdOf "_law_filter" sFl, hdOf "_law_slots" sSlots, hdOf "_law_test_slots" sTSlots, hdOf "_law_parts" sParts, hdOf "_law_is_bound" sBound, hdOf "law" sLaw]
def fa : List He.Fa := [.glo "is_integer", .glo "is_name", .glo "is_free_name", .glo "is_leaf", .glo "_is_text", .glo "begins_kind", .glo "kinds_and_parts", .glo "is_filter", .glo "_is_of_kind", .glo "narrowed", .glo "_has_form", .glo "_is_field", .glo "_are_entries", .glo "_are_unlike", .glo "is_index", .glo "is_closed", .glo "first_unbound", .glo "_may_be_called", .glo "_scoped_parts", .glo "_inner_scopes", .glo "_law_begin", .glo "_law_draw", .glo "_law_pick", .glo "_law_leaf", .glo "_law_test", .glo "_law_step", .glo "_law_walk", .glo "_law_chooser", .glo "_law_filter", .glo "_law_slots", .glo "_law_test_slots", .glo "_law_parts", .glo "_law_is_bound", .glo "law", .glo "FORMS", .glo "TESTS", .glo "WALKS", .glo "CHOOSERS", .glo "PART_KINDS", .glo "WORDS", .glo "SORTS", .int "MOST_LETTERS_words" 8, .int "GREATEST" (10 ^ 30), .int "MOST_LETTERS_data" 200, .int "PERCENT_SIGN" 37, .int "MOST_SPOTS" 200, .int "MOST_LEVELS" 40, .int "MOST_INDEX" 99, .int "MOST_HANDED" 3, .free "len", .free "int", .free "bool", .free "str", .free "list", .free "dict", .free "range", .free "min", .free "repr", .free "ord", .free "isinstance", .free "all", .free "tuple", .free "zip", .free "set", .free "enumerate", .free "reversed"]
abbrev R : PySem.W.OpenRow := PySem.W.OpenLaw.row PySem.Challenge.rw_sieveways_k06_names_that_are_bound
abbrev hk : PySem.W.Hook := He.hookX 5 fa fn ts [] exB
def ob (s : PySem.W.SharedT) : He.AlX := He.obsX 5 fa fn ts [] exB (HandSHeadRun.getT s)
theorem ob_eq (s : PySem.W.SharedT) : ob s = hk.obs s.abs := He.obsX_eq (HandSHeadRun.getT_eq s)
def looseN0 : List Str := ["is_integer", "is_name", "is_free_name", "is_leaf", "_is_text", "begins_kind", "kinds_and_parts", "is_filter", "_is_of_kind", "narrowed", "_has_form", "_is_field", "_are_entries", "_are_unlike", "is_index", "is_closed", "first_unbound", "_may_be_called"]
def looseN1 : List Str := ["_scoped_parts", "_inner_scopes", "_law_begin", "_law_draw", "_law_pick", "_law_leaf", "_law_test", "_law_step", "_law_walk", "_law_chooser", "_law_filter", "_law_slots", "_law_test_slots", "_law_parts", "_law_is_bound", "FORMS", "TESTS", "WALKS"]
def looseN2 : List Str := ["CHOOSERS", "PART_KINDS", "WORDS", "SORTS", "MOST_LETTERS_words", "GREATEST", "MOST_LETTERS_data", "PERCENT_SIGN", "MOST_SPOTS", "MOST_LEVELS", "MOST_INDEX", "MOST_HANDED"]
def looseN : List Str := looseN0 ++ looseN1 ++ looseN2
/-! a text's hash asks the world whether a special's get may raise: the run is told for either answer -/
def wB (b : Bool) (w : World) : World := ⟨w.draws, {w.params with followText := fun x => match decide (x = "special-get-raises") with | true => b | false => w.params.followText x}⟩
theorem wB_eq (w : World) : wB (w.params.followText "special-get-raises") w = w := by
  have e : (fun x => match decide (x = "special-get-raises") with | true => w.params.followText "special-get-raises" | false => w.params.followText x) = w.params.followText := by
    funext x
    by_cases h : x = "special-get-raises"
    · subst h; rfl
    · rw [decide_eq_false h]
  unfold wB
  rw [e]
theorem runT (w : World) : HandSHeadRun.RunEq R (PySem.W.view R.prog [53]) hk ob 9000 looseN (wB true w) := by
  intro os
  kernel_rfl
theorem runF (w : World) : HandSHeadRun.RunEq R (PySem.W.view R.prog [53]) hk ob 9000 looseN (wB false w) := by
  intro os
  kernel_rfl
theorem run (w : World) : HandSHeadRun.RunEq R (PySem.W.view R.prog [53]) hk ob 9000 looseN w := by
  have z := wB_eq w
  cases h : w.params.followText "special-get-raises" with
  | true =>
    rw [h] at z
    exact (congrArg (HandSHeadRun.RunEq R (PySem.W.view R.prog [53]) hk ob 9000 looseN) z).mp (runT w)
  | false =>
    rw [h] at z
    exact (congrArg (HandSHeadRun.RunEq R (PySem.W.view R.prog [53]) hk ob 9000 looseN) z).mp (runF w)
end Toy


namespace Toy
open PySem PySem.Spec PyProof.Rows L2
/-! ### the facts, read off the head's answer -/
theorem fun_of {K : PySem.W.Frag} {x q : Str} {st : Stmt} {f : Addr} {fd : FuncData} (F : FunD K x q (defArgs st) (defBody st) (defScope st) [] [] f fd) : Fun K x q st f fd := by
  obtain ⟨oc, od, dV, kV, doc, pm, an, cdv, ct, osl, rfl, lk, hcd, hD, _⟩ := F.ex
  rcases hD with ⟨_, rfl⟩ | ⟨e, _⟩
  · exact ⟨⟨oc, od, kV, doc, pm, an, cdv, ct, osl, rfl, lk, hcd⟩, F.kp⟩
  · exact absurd rfl e
theorem facts {P : Program} {w : World} {K : PySem.W.Frag} {h : Heap} {mg : Str → Option Value} {f : Addr} (X : K.In h) (G : h.Ns mainGlobals mg) (hfa : mg ("law" : Str) = some (.ref f)) (S : He.SaysX fa fn ts [] exB w h K) :
    ∃ fd : FuncData, FunD K "law" "law" (defArgs sLaw) (defBody sLaw) (defScope sLaw) [] [] f fd ∧ (∀ (s : Shared) (v : Value), BindsTo s fd ⟨[v], []⟩ [("_law_script", v)]) ∧ ∀ base : Heap, K.In base → base.Ns mainGlobals mg → BodyOk P w K mg base 16 NLw "law" (defScope sLaw) (defBody sLaw) f (spLaw K) := by
  obtain ⟨dIi, FIi⟩ := S.t.d.def_ 0 (d := hdOf "is_integer" sIsInt) rfl
  have mIi := He.glo_ok X G (S.t.d.fact 0 (f := .glo "is_integer") rfl)
  obtain ⟨dNm, FNm⟩ := S.t.d.def_ 1 (d := hdOf "is_name" sName) rfl
  have mNm := He.glo_ok X G (S.t.d.fact 1 (f := .glo "is_name") rfl)
  obtain ⟨dFr, FFr⟩ := S.t.d.def_ 2 (d := hdOf "is_free_name" sFree) rfl
  have mFr := He.glo_ok X G (S.t.d.fact 2 (f := .glo "is_free_name") rfl)
  obtain ⟨dLv, FLv⟩ := S.t.d.def_ 3 (d := hdOf "is_leaf" sLeafV) rfl
  have mLv := He.glo_ok X G (S.t.d.fact 3 (f := .glo "is_leaf") rfl)
  obtain ⟨dTx, FTx⟩ := S.t.d.def_ 4 (d := hdOf "_is_text" sTxt) rfl
  have mTx := He.glo_ok X G (S.t.d.fact 4 (f := .glo "_is_text") rfl)
  obtain ⟨dBg, FBg⟩ := S.t.d.def_ 5 (d := hdOf "begins_kind" sBeg) rfl
  have mBg := He.glo_ok X G (S.t.d.fact 5 (f := .glo "begins_kind") rfl)
  obtain ⟨dKp, FKp⟩ := S.t.d.def_ 6 (d := hdOf "kinds_and_parts" sKP) rfl
  have mKp := He.glo_ok X G (S.t.d.fact 6 (f := .glo "kinds_and_parts") rfl)
  obtain ⟨dIf, FIf⟩ := S.t.d.def_ 7 (d := hdOf "is_filter" sIF) rfl
  have mIf := He.glo_ok X G (S.t.d.fact 7 (f := .glo "is_filter") rfl)
  obtain ⟨dOk, FOk⟩ := S.t.d.def_ 8 (d := hdOf "_is_of_kind" sOK) rfl
  have mOk := He.glo_ok X G (S.t.d.fact 8 (f := .glo "_is_of_kind") rfl)
  obtain ⟨dNa, FNa⟩ := S.t.d.def_ 9 (d := hdOf "narrowed" sNar) rfl
  have mNa := He.glo_ok X G (S.t.d.fact 9 (f := .glo "narrowed") rfl)
  obtain ⟨dHf, FHf⟩ := S.t.d.def_ 10 (d := hdOf "_has_form" sHF) rfl
  have mHf := He.glo_ok X G (S.t.d.fact 10 (f := .glo "_has_form") rfl)
  obtain ⟨dFi, FFi⟩ := S.t.d.def_ 11 (d := hdOf "_is_field" sFld) rfl
  have mFi := He.glo_ok X G (S.t.d.fact 11 (f := .glo "_is_field") rfl)
  obtain ⟨dEn, FEn⟩ := S.t.d.def_ 12 (d := hdOf "_are_entries" sEnts) rfl
  have mEn := He.glo_ok X G (S.t.d.fact 12 (f := .glo "_are_entries") rfl)
  obtain ⟨dUn, FUn⟩ := S.t.d.def_ 13 (d := hdOf "_are_unlike" sUnl) rfl
  have mUn := He.glo_ok X G (S.t.d.fact 13 (f := .glo "_are_unlike") rfl)
  obtain ⟨dIx, FIx⟩ := S.t.d.def_ 14 (d := hdOf "is_index" sIdx) rfl
  have mIx := He.glo_ok X G (S.t.d.fact 14 (f := .glo "is_index") rfl)
  obtain ⟨dCl, FCl⟩ := S.t.d.def_ 15 (d := hdOf "is_closed" sCl) rfl
  have mCl := He.glo_ok X G (S.t.d.fact 15 (f := .glo "is_closed") rfl)
  obtain ⟨dFu, FFu⟩ := S.t.d.def_ 16 (d := hdOf "first_unbound" sFU) rfl
  have mFu := He.glo_ok X G (S.t.d.fact 16 (f := .glo "first_unbound") rfl)
  obtain ⟨dMb, FMb⟩ := S.t.d.def_ 17 (d := hdOf "_may_be_called" sMB) rfl
  have mMb := He.glo_ok X G (S.t.d.fact 17 (f := .glo "_may_be_called") rfl)
  obtain ⟨dSp, FSp⟩ := S.t.d.def_ 18 (d := hdOf "_scoped_parts" sSP) rfl
  have mSp := He.glo_ok X G (S.t.d.fact 18 (f := .glo "_scoped_parts") rfl)
  obtain ⟨dIs, FIs⟩ := S.t.d.def_ 19 (d := hdOf "_inner_scopes" sIS) rfl
  have mIs := He.glo_ok X G (S.t.d.fact 19 (f := .glo "_inner_scopes") rfl)
  obtain ⟨dB, FB⟩ := S.t.d.def_ 20 (d := hdOf "_law_begin" sBegin) rfl
  have mB := He.glo_ok X G (S.t.d.fact 20 (f := .glo "_law_begin") rfl)
  obtain ⟨dD, FD⟩ := S.t.d.def_ 21 (d := hdOf "_law_draw" sDraw) rfl
  have mD := He.glo_ok X G (S.t.d.fact 21 (f := .glo "_law_draw") rfl)
  obtain ⟨dPi, FPi⟩ := S.t.d.def_ 22 (d := hdOf "_law_pick" sPick) rfl
  have mPi := He.glo_ok X G (S.t.d.fact 22 (f := .glo "_law_pick") rfl)
  obtain ⟨dLf, FLf⟩ := S.t.d.def_ 23 (d := hdOf "_law_leaf" sLeaf) rfl
  have mLf := He.glo_ok X G (S.t.d.fact 23 (f := .glo "_law_leaf") rfl)
  obtain ⟨dTe, FTe⟩ := S.t.d.def_ 24 (d := hdOf "_law_test" sTest) rfl
  have mTe := He.glo_ok X G (S.t.d.fact 24 (f := .glo "_law_test") rfl)
  obtain ⟨dSt, FSt⟩ := S.t.d.def_ 25 (d := hdOf "_law_step" sStep) rfl
  have mSt := He.glo_ok X G (S.t.d.fact 25 (f := .glo "_law_step") rfl)
  obtain ⟨dWk, FWk⟩ := S.t.d.def_ 26 (d := hdOf "_law_walk" sWalk) rfl
  have mWk := He.glo_ok X G (S.t.d.fact 26 (f := .glo "_law_walk") rfl)
  obtain ⟨dCh, FCh⟩ := S.t.d.def_ 27 (d := hdOf "_law_chooser" sChs) rfl
  have mCh := He.glo_ok X G (S.t.d.fact 27 (f := .glo "_law_chooser") rfl)
  obtain ⟨dFl, FFl⟩ := S.t.d.def_ 28 (d := hdOf "_law_filter" sFl) rfl
  have mFl := He.glo_ok X G (S.t.d.fact 28 (f := .glo "_law_filter") rfl)
  obtain ⟨dSl, FSl⟩ := S.t.d.def_ 29 (d := hdOf "_law_slots" sSlots) rfl
  have mSl := He.glo_ok X G (S.t.d.fact 29 (f := .glo "_law_slots") rfl)
  obtain ⟨dTs, FTs⟩ := S.t.d.def_ 30 (d := hdOf "_law_test_slots" sTSlots) rfl
  have mTs := He.glo_ok X G (S.t.d.fact 30 (f := .glo "_law_test_slots") rfl)
  obtain ⟨dPa, FPa⟩ := S.t.d.def_ 31 (d := hdOf "_law_parts" sParts) rfl
  have mPa := He.glo_ok X G (S.t.d.fact 31 (f := .glo "_law_parts") rfl)
  obtain ⟨dBo, FBo⟩ := S.t.d.def_ 32 (d := hdOf "_law_is_bound" sBound) rfl
  have mBo := He.glo_ok X G (S.t.d.fact 32 (f := .glo "_law_is_bound") rfl)
  obtain ⟨dL, FL⟩ := S.t.d.def_ 33 (d := hdOf "law" sLaw) rfl
  have mL := He.glo_ok X G (S.t.d.fact 33 (f := .glo "law") rfl)
  have mg0 := He.glo_ok X G (S.t.d.fact 34 (f := .glo "FORMS") rfl)
  have mg1 := He.glo_ok X G (S.t.d.fact 35 (f := .glo "TESTS") rfl)
  have mg2 := He.glo_ok X G (S.t.d.fact 36 (f := .glo "WALKS") rfl)
  have mg3 := He.glo_ok X G (S.t.d.fact 37 (f := .glo "CHOOSERS") rfl)
  have mg4 := He.glo_ok X G (S.t.d.fact 38 (f := .glo "PART_KINDS") rfl)
  have mg5 := He.glo_ok X G (S.t.d.fact 39 (f := .glo "WORDS") rfl)
  have mg6 := He.glo_ok X G (S.t.d.fact 40 (f := .glo "SORTS") rfl)
  obtain ⟨ti0, mi0⟩ := He.int_ok X G (S.t.d.fact 41 (f := .int "MOST_LETTERS_words" 8) rfl)
  have ri0 : L2.RelV (.int 8) (.int 8 ti0) := ⟨ti0, rfl⟩
  obtain ⟨ti1, mi1⟩ := He.int_ok X G (S.t.d.fact 42 (f := .int "GREATEST" (10 ^ 30)) rfl)
  have ri1 : L2.RelV (.int (10 ^ 30)) (.int (10 ^ 30) ti1) := ⟨ti1, rfl⟩
  obtain ⟨ti2, mi2⟩ := He.int_ok X G (S.t.d.fact 43 (f := .int "MOST_LETTERS_data" 200) rfl)
  have ri2 : L2.RelV (.int 200) (.int 200 ti2) := ⟨ti2, rfl⟩
  obtain ⟨ti3, mi3⟩ := He.int_ok X G (S.t.d.fact 44 (f := .int "PERCENT_SIGN" 37) rfl)
  have ri3 : L2.RelV (.int 37) (.int 37 ti3) := ⟨ti3, rfl⟩
  obtain ⟨ti4, mi4⟩ := He.int_ok X G (S.t.d.fact 45 (f := .int "MOST_SPOTS" 200) rfl)
  have ri4 : L2.RelV (.int 200) (.int 200 ti4) := ⟨ti4, rfl⟩
  obtain ⟨ti5, mi5⟩ := He.int_ok X G (S.t.d.fact 46 (f := .int "MOST_LEVELS" 40) rfl)
  have ri5 : L2.RelV (.int 40) (.int 40 ti5) := ⟨ti5, rfl⟩
  obtain ⟨ti6, mi6⟩ := He.int_ok X G (S.t.d.fact 47 (f := .int "MOST_INDEX" 99) rfl)
  have ri6 : L2.RelV (.int 99) (.int 99 ti6) := ⟨ti6, rfl⟩
  obtain ⟨ti7, mi7⟩ := He.int_ok X G (S.t.d.fact 48 (f := .int "MOST_HANDED" 3) rfl)
  have ri7 : L2.RelV (.int 3) (.int 3 ti7) := ⟨ti7, rfl⟩
  have z0 := He.free_ok X G (S.t.d.fact 49 (f := .free "len") rfl)
  have z1 := He.free_ok X G (S.t.d.fact 50 (f := .free "int") rfl)
  have z2 := He.free_ok X G (S.t.d.fact 51 (f := .free "bool") rfl)
  have z3 := He.free_ok X G (S.t.d.fact 52 (f := .free "str") rfl)
  have z4 := He.free_ok X G (S.t.d.fact 53 (f := .free "list") rfl)
  have z5 := He.free_ok X G (S.t.d.fact 54 (f := .free "dict") rfl)
  have z6 := He.free_ok X G (S.t.d.fact 55 (f := .free "range") rfl)
  have z7 := He.free_ok X G (S.t.d.fact 56 (f := .free "min") rfl)
  have z8 := He.free_ok X G (S.t.d.fact 57 (f := .free "repr") rfl)
  have z9 := He.free_ok X G (S.t.d.fact 58 (f := .free "ord") rfl)
  have z10 := He.free_ok X G (S.t.d.fact 59 (f := .free "isinstance") rfl)
  have z11 := He.free_ok X G (S.t.d.fact 60 (f := .free "all") rfl)
  have z12 := He.free_ok X G (S.t.d.fact 61 (f := .free "tuple") rfl)
  have z13 := He.free_ok X G (S.t.d.fact 62 (f := .free "zip") rfl)
  have z14 := He.free_ok X G (S.t.d.fact 63 (f := .free "set") rfl)
  have z15 := He.free_ok X G (S.t.d.fact 64 (f := .free "enumerate") rfl)
  have z16 := He.free_ok X G (S.t.d.fact 65 (f := .free "reversed") rfl)
  have hm := S.more
  unfold exB at hm
  simp only [Bool.and_eq_true] at hm
  obtain ⟨x1, x2, x3, x4, x5, x6, x7⟩ := hm
  have KPK := tupB_ok x1 (by decide)
  have KWO := tupB_ok x2 (by decide)
  have KSO := tupB_ok x3 (by decide)
  have KTE := tupB_ok x4 (by decide)
  have KWA := tupB_ok x5 (by decide)
  have KCH := tupB_ok x6 (by decide)
  have FOR := S.t.tab 0 (t := (fun K => He.ga K "FORMS", formsL.map (·.1))) rfl
  have FK : FormsK K w (He.ga K "FORMS") := forms_ok FOR x7
  have bIi : Binds K dIi ["value"] [] := FIi.bindsN fun _ _ _ _ _ _ us hl => match us, hl with | [_], _ => rfl
  have bNm : Binds K dNm ["value"] [] := FNm.bindsN fun _ _ _ _ _ _ us hl => match us, hl with | [_], _ => rfl
  have bFr : Binds K dFr ["value"] [] := FFr.bindsN fun _ _ _ _ _ _ us hl => match us, hl with | [_], _ => rfl
  have bLv : Binds K dLv ["value"] [] := FLv.bindsN fun _ _ _ _ _ _ us hl => match us, hl with | [_], _ => rfl
  have bTx : Binds K dTx ["text"] [] := FTx.bindsN fun _ _ _ _ _ _ us hl => match us, hl with | [_], _ => rfl
  have bBg : Binds K dBg ["word", "kind"] [] := FBg.bindsN fun _ _ _ _ _ _ us hl => match us, hl with | [_, _], _ => rfl
  have bKp : Binds K dKp ["term"] [] := FKp.bindsN fun _ _ _ _ _ _ us hl => match us, hl with | [_], _ => rfl
  have bIf : Binds K dIf ["value"] [] := FIf.bindsN fun _ _ _ _ _ _ us hl => match us, hl with | [_], _ => rfl
  have bOk : Binds K dOk ["value", "kind"] [] := FOk.bindsN fun _ _ _ _ _ _ us hl => match us, hl with | [_, _], _ => rfl
  have bNa : Binds K dNa ["outer", "kind"] [] := FNa.bindsN fun _ _ _ _ _ _ us hl => match us, hl with | [_, _], _ => rfl
  have bHf : Binds K dHf ["value", "kind"] [] := FHf.bindsN fun _ _ _ _ _ _ us hl => match us, hl with | [_, _], _ => rfl
  have bFi : Binds K dFi ["value", "told"] [] := FFi.bindsN fun _ _ _ _ _ _ us hl => match us, hl with | [_, _], _ => rfl
  have bEn : Binds K dEn ["values"] [] := FEn.bindsN fun _ _ _ _ _ _ us hl => match us, hl with | [_], _ => rfl
  have bUn : Binds K dUn ["names"] [] := FUn.bindsN fun _ _ _ _ _ _ us hl => match us, hl with | [_], _ => rfl
  have bIx : Binds K dIx ["value"] [] := FIx.bindsN fun _ _ _ _ _ _ us hl => match us, hl with | [_], _ => rfl
  have bCl : Binds K dCl ["term"] [] := FCl.bindsN fun _ _ _ _ _ _ us hl => match us, hl with | [_], _ => rfl
  have bFu : Binds K dFu ["term", "known"] [] := FFu.bindsN fun _ _ _ _ _ _ us hl => match us, hl with | [_, _], _ => rfl
  have bMb : Binds K dMb ["call", "calls", "known"] [] := FMb.bindsN fun _ _ _ _ _ _ us hl => match us, hl with | [_, _, _], _ => rfl
  have bSp : Binds K dSp ["term"] [] := FSp.bindsN fun _ _ _ _ _ _ us hl => match us, hl with | [_], _ => rfl
  have bIs : Binds K dIs ["spot", "term", "names", "calls"] [] := FIs.bindsN fun _ _ _ _ _ _ us hl => match us, hl with | [_, _, _, _], _ => rfl
  have bB : Binds K dB ["_law_script"] [] := FB.bindsN fun _ _ _ _ _ _ us hl => match us, hl with | [_], _ => rfl
  have bD : Binds K dD ["_law_tape", "_law_many"] [] := FD.bindsN fun _ _ _ _ _ _ us hl => match us, hl with | [_, _], _ => rfl
  have bPi : Binds K dPi ["_law_tape", "_law_items"] [] := FPi.bindsN fun _ _ _ _ _ _ us hl => match us, hl with | [_, _], _ => rfl
  have bLf : Binds K dLf ["_law_tape"] [] := FLf.bindsN fun _ _ _ _ _ _ us hl => match us, hl with | [_], _ => rfl
  have bTe : Binds K dTe ["_law_tape", "_law_keys", "_law_deep"] [] := FTe.bindsN fun _ _ _ _ _ _ us hl => match us, hl with | [_, _, _], _ => rfl
  have bSt : Binds K dSt ["_law_tape", "_law_keys"] [] := FSt.bindsN fun _ _ _ _ _ _ us hl => match us, hl with | [_, _], _ => rfl
  have bWk : Binds K dWk ["_law_tape", "_law_keys", "_law_deep"] [] := FWk.bindsN fun _ _ _ _ _ _ us hl => match us, hl with | [_, _, _], _ => rfl
  have bCh : Binds K dCh ["_law_tape", "_law_keys", "_law_deep"] [] := FCh.bindsN fun _ _ _ _ _ _ us hl => match us, hl with | [_, _, _], _ => rfl
  have bFl : Binds K dFl ["_law_tape", "_law_keys", "_law_deep"] [] := FFl.bindsN fun _ _ _ _ _ _ us hl => match us, hl with | [_, _, _], _ => rfl
  have bSl : Binds K dSl ["_law_word"] [] := FSl.bindsN fun _ _ _ _ _ _ us hl => match us, hl with | [_], _ => rfl
  have bTs : Binds K dTs ["_law_word"] [] := FTs.bindsN fun _ _ _ _ _ _ us hl => match us, hl with | [_], _ => rfl
  have bPa : Binds K dPa ["_law_term"] [] := FPa.bindsN fun _ _ _ _ _ _ us hl => match us, hl with | [_], _ => rfl
  have bBo : Binds K dBo ["_law_term", "_law_names", "_law_calls"] [] := FBo.bindsN fun _ _ _ _ _ _ us hl => match us, hl with | [_, _, _], _ => rfl
  have e := hfa.symm.trans mL
  cases e
  refine ⟨dL, FL, fun s v => FL.bindsA (ps := ["_law_script"]) (fun _ _ _ _ _ _ us hl => match us, hl with | [_], _ => rfl) s [v] rfl, fun base _ _ => ?_⟩
  have GD : FnOk P w K mg base CX0 1 _ dD ["_law_tape", "_law_many"] spDraw := ok_draw (fun_of FD) z0 z1
  have GB : FnOk P w K mg base CX0 1 _ dB ["_law_script"] (spBegin K) := ok_begin (fun_of FB)
  have GPi : FnOk P w K mg base CX0 2 _ dPi ["_law_tape", "_law_items"] spPick := ok_pick (fun_of FPi) GD mD FD.kp bD z0
  have GLf : FnOk P w K mg base CX0 3 _ dLf ["_law_tape"] spLeaf := ok_leaf (fun_of FLf) GPi mPi FPi.kp bPi
  have GSt : FnOk P w K mg base CX0 3 _ dSt ["_law_tape", "_law_keys"] (spStep K) := ok_step (fun_of FSt) GPi mPi FPi.kp bPi GD mD FD.kp bD
  have tw := fun j => ok_tw (P := P) (w := w) (base := base) (fun_of FTe) (fun_of FWk) GPi mPi FPi.kp bPi GD mD FD.kp bD GLf mLf FLf.kp bLf GSt mSt FSt.kp bSt mTe FTe.kp bTe mWk FWk.kp bWk j
  have GTe : FnOk P w K mg base CX0 6 _ dTe ["_law_tape", "_law_keys", "_law_deep"] (spTm K 2) := (tw 2).1
  have GWk : FnOk P w K mg base CX0 6 _ dWk ["_law_tape", "_law_keys", "_law_deep"] (spTm K 2) := (tw 2).2
  have GCh : FnOk P w K mg base CX0 6 _ dCh ["_law_tape", "_law_keys", "_law_deep"] (spTm K 2) := ok_chs (fun_of FCh) GSt mSt FSt.kp bSt GD mD FD.kp bD mCh FCh.kp bCh mTe FTe.kp bTe mWk FWk.kp bWk tw 2
  have GFl : FnOk P w K mg base CX0 12 _ dFl ["_law_tape", "_law_keys", "_law_deep"] (spFl K 5) := ok_fl (fun_of FFl) GPi mPi FPi.kp bPi GD mD FD.kp bD GLf mLf FLf.kp bLf GTe mTe FTe.kp bTe GWk mWk FWk.kp bWk GCh mCh FCh.kp bCh mFl FFl.kp bFl 5
  have GSl : FnOk P w K mg base CX0 1 _ dSl ["_law_word"] (spSlot slF) := ok_slots (fun_of FSl)
  have GTs : FnOk P w K mg base CX0 1 _ dTs ["_law_word"] (spSlot slT) := ok_tslots (fun_of FTs)
  have GPa : FnOk P w K mg base CX0 2 _ dPa ["_law_term"] (spParts K) := ok_parts (fun_of FPa) GSl mSl FSl.kp bSl GTs mTs FTs.kp bTs z13 z4
  have GBo : FnOk P w K mg base CX0 16 _ dBo ["_law_term", "_law_names", "_law_calls"] (spBo K 13) := ok_bo (fun_of FBo) GPa mPa FPa.kp bPa z0 z4 z5 mBo FBo.kp bBo 13
  have GKp : FnOk P w K mg base CX0 1 _ dKp ["term"] (spKP K) := ok_kp (fun_of FKp) mg0 FK mg4 KPK z13
  have GIs : FnOk P w K mg base CX0 2 _ dIs ["spot", "term", "names", "calls"] (spIS K) := ok_is (fun_of FIs) GKp mKp FKp.kp bKp z0 z5 z15 z13
  have GSp : FnOk P w K mg base CX0 3 _ dSp ["term"] (spSP K) := ok_sp (fun_of FSp) GIs mIs FIs.kp bIs z4 z16
  have GMb : FnOk P w K mg base CX0 1 _ dMb ["call", "calls", "known"] (spMB K) := ok_mb (fun_of FMb) z0
  have GFu : FnOk P w K mg base CX0 4 _ dFu ["term", "known"] (spFU K) := ok_fu (fun_of FFu) GSp mSp FSp.kp bSp GMb mMb FMb.kp bMb
  have GCl : FnOk P w K mg base CX0 5 _ dCl ["term"] (spCl K) := ok_cl (fun_of FCl) GFu mFu FFu.kp bFu
  have GIi : FnOk P w K mg base CX0 1 _ dIi ["value"] spInt := ok_isInt (fun_of FIi) z10 z2 z1
  have GNm : FnOk P w K mg base CX0 1 _ dNm ["value"] spStr := ok_name (fun_of FNm) mi0 ri0 z10 z3 z0 z11
  have GFr : FnOk P w K mg base CX0 2 _ dFr ["value"] spStr := ok_free (fun_of FFr) GNm mNm FNm.kp bNm mg5 KWO
  have GTx : FnOk P w K mg base CX0 1 _ dTx ["text"] spStr := ok_txt (fun_of FTx) mi2 ri2 mi3 ri3 z0 z9 z11
  have GLv : FnOk P w K mg base CX0 2 _ dLv ["value"] spLf := ok_leafV (fun_of FLv) GTx mTx FTx.kp bTx mi1 ri1 z10 z2 z1 z3
  have GUn : FnOk P w K mg base CX0 1 _ dUn ["names"] (spUnl K) := ok_unl (fun_of FUn) z0 z14
  have GEn : FnOk P w K mg base CX0 2 _ dEn ["values"] (spEnts K) := ok_ents (fun_of FEn) GNm mNm FNm.kp bNm GUn mUn FUn.kp bUn z10 z12 z0 z11
  have GNa : FnOk P w K mg base CX0 1 _ dNa ["outer", "kind"] spNar := ok_nar (fun_of FNa)
  have GBg : FnOk P w K mg base CX0 1 _ dBg ["word", "kind"] spBeg := ok_beg (fun_of FBg) mg0 FOR FK mg1 KTE mg2 KWA mg3 KCH
  have GIx : FnOk P w K mg base CX0 2 _ dIx ["value"] spInt := ok_index (fun_of FIx) mi6 ri6 GIi mIi FIi.kp bIi
  have GFi : FnOk P w K mg base CX0 3 _ dFi ["value", "told"] (spFld K) := ok_fld (fun_of FFi) mg4 KPK mg6 KSO mi7 ri7 GNm mNm FNm.kp bNm GFr mFr FFr.kp bFr GIx mIx FIx.kp bIx GLv mLv FLv.kp bLv GUn mUn FUn.kp bUn GEn mEn FEn.kp bEn z10 z12 z0 z11
  have GHf : FnOk P w K mg base CX0 4 _ dHf ["value", "kind"] (spHF K) := ok_hf (fun_of FHf) mg0 FK GBg mBg FBg.kp bBg GFi mFi FFi.kp bFi z10 z12 z3 z0 z11 z13
  have GOk : FnOk P w K mg base CX0 5 _ dOk ["value", "kind"] (spOK K) := ok_of (fun_of FOk) mi5 ri5 mi4 ri4 GHf mHf FHf.kp bHf GKp mKp FKp.kp bKp GNa mNa FNa.kp bNa z0
  have GIf : FnOk P w K mg base CX0 6 _ dIf ["value"] (spIF K) := ok_if (fun_of FIf) GOk mOk FOk.kp bOk
  exact body_law ⟨z0, z6, z7, z8⟩ GB mB FB.kp bB GD mD FD.kp bD GPi mPi FPi.kp bPi GFl mFl FFl.kp bFl GIf mIf FIf.kp bIf GCl mCl FCl.kp bCl GBo mBo FBo.kp bBo
end Toy
open PySem PySem.W PySem.Calls PyProof.Rows
set_option maxRecDepth 100000 in
set_option maxHeartbeats 0 in
theorem PySem.Challenge.cw_sieveways_k06_names_that_are_bound_holds : PySem.Challenge.rw_sieveways_k06_names_that_are_bound.Holds := by
  w_on; o_law
  refine HandSHeadRun.head_any (r := OpenLaw.row PySem.Challenge.rw_sieveways_k06_names_that_are_bound) (q := view (OpenLaw.row PySem.Challenge.rw_sieveways_k06_names_that_are_bound).prog [53]) (H := Toy.hk) (ob := Toy.ob) (M := 9000) (loose := Toy.looseN) (d := HandSHeadRun.topDef (OpenLaw.row PySem.Challenge.rw_sieveways_k06_names_that_are_bound).prog 53) (kwd := []) Toy.ob_eq
    (by kernel_rfl) (fun s => by kernel_rfl) Toy.run (by kernel_rfl) (by kernel_rfl) (by kernel_rfl) (by rfl) (by first | assumption | decide +kernel) (by decide +kernel) ⟨rfl, rfl, rfl, rfl, rfl, by decide +kernel⟩ ?hw ?hc
  case hw => w_witness2
  case hc =>
    refine L2.walkG (l := PySem.Challenge.rw_sieveways_k06_names_that_are_bound) (n := 63) (k := 16) (x := "_law_script") rfl (by decide) (by kernel_rfl) ⟨rfl, by decide, by decide⟩ ?F
    intro w mg fa h Y G hmg0
    obtain ⟨K, KX, c⟩ := Y
    have hmg : mg ("law" : PySem.Str) = some (.ref fa) := by
      have e : (HandSHeadRun.topDef (OpenLaw.row PySem.Challenge.rw_sieveways_k06_names_that_are_bound).prog 53).name = ("law" : PySem.Str) := by kernel_rfl
      rw [← e]
      exact hmg0
    obtain ⟨fd, FD, hb, hF⟩ := Toy.facts (P := (PySem.Challenge.rw_sieveways_k06_names_that_are_bound).prog) (w := w) KX G hmg c
    exact ⟨K, fd, _, _, _, _, _, Toy.NLw, Toy.spLaw K, KX, FD, Toy.scLw, hb, fun H a ns hl hS => ⟨a, ns, rfl, hS, hl, fun _ => rfl⟩, hF⟩

