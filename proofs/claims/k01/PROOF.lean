import PyProof.Rows.All
import Wide.All
import OpenK.AllK
import Wide.FinOn
import HandS.ForMost
import HandS.Flow
import HandS.Wide
import HandS.Small
import KE.KExcInit
import HandS.Exc
import HandS.ExcInit
import HandS.ExcIs
import HandS.Defaults
import HandS.ExcValue
import HandS.MakeKw
import KE.KExcIs
import HandS.IsInst
import HandS.MakeKwOnly
import PyProof.ReprRoads
import HandS.Dict
import HandS.HeadEnd
import KE.KStateDown
import HandS.Head0
import HandS.Head1
import HandS.Head2
import HandS.HeadHook1
import HandS.HeadHook2
import HandS.HeadHook3
import HandS.HeadHook4
import PySem.Challenge.RW_sieveways_k01_errors
set_option Elab.async false
set_option linter.all false
set_option maxRecDepth 100000
set_option maxHeartbeats 0
namespace Toy
open PySem L2
def top (i : Nat) : Stmt := PySem.Challenge.pw_sieveways_k01_errors.main.body.getD i (.Pass ⟨0, 0, 0, 0⟩)
abbrev sBegin : Stmt := top 31
abbrev sDraw : Stmt := top 32
abbrev sPick : Stmt := top 33
/-! ### the tape -/
def kC : Key := Sum.inr ("cells" : Str)
def kA : Key := Sum.inr ("at" : Str)
def kL : Key := Sum.inr ("left" : Str)
def tp (l : Addr) (a f : Int) : List (Key × V) := [(kC, .ref l), (kA, .int a), (kL, .int f)]
theorem k_ca : ¬ (kC = kA) := by decide +kernel
theorem k_cl : ¬ (kC = kL) := by decide +kernel
theorem k_al : ¬ (kA = kL) := by decide +kernel
theorem k_la : ¬ (kL = kA) := by decide +kernel
theorem tp_cells (l : Addr) (a f : Int) : valV (tp l a f) kC = some (.ref l) := by
  unfold tp
  rw [valV_pos rfl]
theorem tp_at (l : Addr) (a f : Int) : valV (tp l a f) kA = some (.int a) := by
  unfold tp
  rw [valV_neg k_ca, valV_pos rfl]
theorem tp_left (l : Addr) (a f : Int) : valV (tp l a f) kL = some (.int f) := by
  unfold tp
  rw [valV_neg k_cl, valV_neg k_al, valV_pos rfl]
theorem put_at (l : Addr) (a f b : Int) : putK (tp l a f) kA (.int b) = tp l b f := by
  unfold tp putK
  rw [if_pos (by simp)]
  simp only [List.map_cons, List.map_nil]
  rw [if_neg k_ca, if_pos trivial, if_neg k_la]
theorem put_left (l : Addr) (a f b : Int) : putK (tp l a f) kL (.int b) = tp l a b := by
  unfold tp putK
  rw [if_pos (by simp)]
  simp only [List.map_cons, List.map_nil]
  rw [if_neg k_cl, if_neg k_al, if_pos trivial]
section
variable {H : Hp} {d l : Addr} {a f : Int} (h : H d = some (.dK (tp l a f)))
include h
theorem get_cells : DGet H d (.str ("cells" : Str)) (some (.ref l)) := by
  have z := DGet.k (k := kC) h
  rw [tp_cells] at z
  exact z
theorem get_at : DGet H d (.str ("at" : Str)) (some (.int a)) := by
  have z := DGet.k (k := kA) h
  rw [tp_at] at z
  exact z
theorem get_left : DGet H d (.str ("left" : Str)) (some (.int f)) := by
  have z := DGet.k (k := kL) h
  rw [tp_left] at z
  exact z
theorem set_at (b : Int) : DPut H d (.str ("at" : Str)) (.int b) (upd H d (.dK (tp l b f))) := by
  have z := DPut.k (k := kA) (v := .int b) h (by show 3 < sizeLine; decide)
  rw [put_at] at z
  exact z
theorem set_left (b : Int) : DPut H d (.str ("left" : Str)) (.int b) (upd H d (.dK (tp l a b))) := by
  have z := DPut.k (k := kL) (v := .int b) h (by show 3 < sizeLine; decide)
  rw [put_left] at z
  exact z
end
/-- at d a tape, of which at most n draws were made -/
def Tape (H : Hp) (d : Addr) (n : Nat) : Prop := ∃ (l : Addr) (ns : List Int) (a f : Int), H d = some (.dK (tp l a f)) ∧ H l = some (.lst (ns.map V.int)) ∧ ns ≠ [] ∧ ns.length ≤ 1000 ∧ 0 ≤ a ∧ a ≤ n
/-- all that stood stands, but at d -/
def But (d : Addr) (H H' : Hp) : Prop := ∀ b o, b ≠ d → H b = some o → H' b = some o
theorem But.refl {d : Addr} {H : Hp} : But d H H := fun _ _ _ e => e
theorem But.trans {d : Addr} {H H1 H2 : Hp} (a : But d H H1) (b : But d H1 H2) : But d H H2 := fun x o n e => b x o n (a x o n e)
theorem But.upd {d : Addr} {H H1 : Hp} {u : HO} (a : But d H H1) : But d H (upd H1 d u) := fun x o n e => by
  rw [upd_ne n]
  exact a x o n e
theorem But.new {d p : Addr} {H H1 : Hp} {u : HO} (a : But d H H1) (hp : H1 p = none) : But d H (L2.upd H1 p u) := fun x o n e => by
  rw [upd_ne (ne_of_none (a x o n e) hp)]
  exact a x o n e
def spDraw : Sp := fun vs H Q _ => ∃ (d : Addr) (n : Nat) (m : Int), vs = [.ref d, .int m] ∧ Tape H d n ∧ n ≤ 1000000 ∧ 0 < m ∧ m < 1000000 ∧
  ∀ H' r, But d H H' → Tape H' d (n + 1) → 0 ≤ r → r < m → Q (.int r) H'
section
variable {P : Program} {w : World} {K : PySem.W.Frag} {mg : Str → Option Value} {base : Heap}
theorem scD : FnScope ["_law_tape", "_law_many", "_law_turn", "_law_size", "_law_cell", "_law_got"] ["_law_tape", "_law_many"] (defScope sDraw) := ⟨rfl, rfl, rfl, by decide +kernel, rfl, by decide +kernel, by decide +kernel⟩
theorem ok_draw {f : Addr} {fd : FuncData} (F : Fun K "_law_draw" "_law_draw" sDraw f fd) (mLen : mg "len" = none) (mInt : mg "int" = none) : FnOk P w K mg base CX0 1 f fd ["_law_tape", "_law_many"] spDraw := by
  refine F.ok scD (fun vs H Q E h => ?_) (fun cdv A outer s H vs Q E hr h => ?_)
  · obtain ⟨d, n, m, rfl, _⟩ := h
    rfl
  · obtain ⟨d, n, m, rfl, ⟨l, ns, a, f, hd, hl, hne, hlen, a0, an⟩, hn, m0, m1, q⟩ := h
    have hu := hu_of hr
    refine ⟨_, pss_cons (ps_if (pt_cmpR op_lt (pe_dget hu (pv 0) pe_str (fun _ _ => rfl)) (pv 1) (nomark _))
      (pss_cons (ps_par (i := 2) (j := 3) rfl scD.nd rfl rfl (by decide) rfl rfl (pa_cons (pe_dget hu (pv 0) pe_str (fun _ _ => rfl)) (pa_cons (pe_callB call_len_seq (by rfl) mLen PySem.boot_len (pa_cons (pe_dget hu (pv 0) pe_str (fun _ _ => rfl)) pa_nil)) pa_nil)) (by rfl))
      (pss_cons (ps_asg (pe_tup (pa_cons (pe_ix ix_list (pe_dget hu (pv 0) pe_str (fun _ _ => rfl)) (pe_op op_mod (pe_callTy call_int1 (by rfl) mInt (by decide +kernel) (pa_cons (pv 2) pa_nil)) (pv 3)) (fun _ _ => rfl)) (pa_cons (pe_op op_add (pv 2) pe_int) pa_nil)))
          (pg_tup rfl (pgs_cons (pg_name (i := 4) scD.nd rfl (.inl rfl)) (pgs_cons (pg_sub (pv 0) pe_str (set_dict hu)) pgs_nil))))
      (pss_cons (ps_dput hu (pv 0) pe_str (pe_op op_mod (pe_callTy call_int1 (by rfl) mInt (by decide +kernel) (pa_cons (pe_op op_pow (pe_op op_add (pe_op op_add (pe_op op_mod (pe_callTy call_int1 (by rfl) mInt (by decide +kernel) (pa_cons (pv 4) pa_nil)) pe_int) (pe_op op_mul pe_int (pv 2))) pe_int) pe_int) pa_nil)) (pe_op op_add (pe_op op_pow pe_int pe_int) pe_int)) rfl)
      (pss_one (ps_if (PW.pt (pw_and (pt_cmpR op_ge (pv 4) (pe_op op_pow pe_int pe_int) (nomark _)) (pw_and1 (pt_cmpR op_lt (pv 2) (pv 3) (nomark _)))))
        (pss_one (ps_dput hu (pv 0) pe_str (pe_op op_sub (pv 4) (pe_op op_pow pe_int pe_int)) rfl)) pss_nil)))))
      pss_nil)
      (pss_cons (ps_asg (pe_tup (pa_cons (pe_op op_mod (pe_callTy call_int1 (by rfl) mInt (by decide +kernel) (pa_cons (pe_dget hu (pv 0) pe_str (fun _ _ => rfl)) pa_nil)) (pv 1)) (pa_cons (pe_op op_fdivW (pe_dget hu (pv 0) pe_str (fun _ _ => rfl)) (pv 1)) pa_nil)))
          (pg_tup rfl (pgs_cons (pg_name (i := 5) scD.nd rfl (.inl rfl)) (pgs_cons (pg_sub (pv 0) pe_str (set_dict hu)) pgs_nil))))
      (pss_one (ps_ret (pv 5)))), ?_⟩
    refine ⟨_, rfl, d, _, rfl, get_left hd, _, rfl, _, _, rfl, rfl, _, rfl, ?_⟩
    refine ite2 (fun c => ?_) (fun c => ?_)
    · have e0 : ((ns.map V.int).length : Int) = (ns.length : Int) := by rw [List.length_map]
      have lp : 0 < ns.length := List.length_pos_iff.mpr hne
      obtain ⟨j, hj, ej⟩ : ∃ j : Nat, j < ns.length ∧ a % ((ns.map V.int).length : Int) = (j : Int) := by
        rw [e0]
        have h1 : 0 ≤ a % (ns.length : Int) := Int.emod_nonneg a (by omega)
        have h2 : a % (ns.length : Int) < (ns.length : Int) := Int.emod_lt_of_pos a (by omega)
        exact ⟨(a % (ns.length : Int)).toNat, by omega, by omega⟩
      have hat : atI (ns.map V.int) (j : Int) = some (.int ns[j]) := atI_nat (by rw [List.getElem?_map, List.getElem?_eq_getElem hj]; rfl)
      refine ⟨_, rfl, d, _, rfl, get_at hd, _, rfl, d, _, rfl, get_cells hd, l, _, rfl, .inl (SqL.of hl), _, _, rfl, ?_⟩
      refine ⟨_, rfl, d, _, rfl, get_cells hd, _, rfl, .inl ⟨_, rfl, _, rfl, _, _, rfl, rfl, (by show 0 < ((ns.map V.int).length : Int); omega), ?_⟩⟩
      refine ⟨l, _, _, .int ns[j], rfl, rfl, SqL.of hl, (by rw [ej]; exact hat), _, rfl, _, _, rfl, rfl, (by show 2 ≤ sizeLine; decide), fun t nt => ?_⟩
      have ndt : d ≠ t := ne_of_none hd nt
      have nlt : l ≠ t := ne_of_none hl nt
      have nld : l ≠ d := ne_of hl hd (by intro z; cases z)
      refine ⟨t, _, rfl, SqT.of upd_same, rfl, _, _, rfl, _, _, rfl, _, rfl, d, _, rfl, set_at (by rw [upd_ne ndt]; exact hd) _, rfl, ?_⟩
      generalize hcell : ns[j] = cell
      have h63 : 0 ≤ cell % 2147483563 := Int.emod_nonneg _ (by decide)
      have h64 : cell % 2147483563 < 2147483563 := Int.emod_lt_of_pos _ (by decide)
      refine ⟨_, rfl, .inl ⟨_, rfl, _, _, rfl, rfl, (by show (0 : Int) < 2147483563; decide), _, rfl, _, _, rfl, rfl, (.inl ⟨by decide, by decide⟩), _, _, rfl, rfl, _, _, rfl, rfl, _, _, rfl, rfl, ⟨by decide, by decide, by omega⟩, .inl ⟨_, rfl, _, _, rfl, rfl, ⟨by decide, by decide, by decide⟩, _, _, rfl, rfl, _, _, rfl, rfl, (by show (0 : Int) < 10 ^ 50 + 151; decide), ?_⟩⟩⟩
      refine ⟨_, rfl, d, _, rfl, set_left upd_same _, ?_⟩
      refine ⟨_, rfl, _, _, rfl, rfl, ⟨by decide, by decide, by decide⟩, _, _, rfl, rfl, _, rfl, ?_⟩
      refine ite2 (fun c1 => ?_) (fun c1 => ?_)
      · refine ⟨_, rfl, _, rfl, _, _, rfl, rfl, _, rfl, ?_⟩
        refine ite2 (fun c2 => ?_) (fun c2 => ?_)
        · refine ⟨_, rfl, _, _, rfl, rfl, ⟨by decide, by decide, by decide⟩, _, _, rfl, rfl, _, rfl, d, _, rfl, set_left upd_same _, ?_⟩
          refine ⟨_, rfl, d, _, rfl, get_left upd_same, .inl ⟨_, rfl, _, rfl, _, _, rfl, rfl, m0, _, rfl, d, _, rfl, get_left upd_same, _, rfl, _, _, rfl, rfl, wide_div (b := 64) m0 (by omega) (by decide) (by decide), (by show 2 ≤ sizeLine; decide), fun t2 nt2 => ?_⟩⟩
          have ndt2 : d ≠ t2 := ne_of_none upd_same nt2
          refine ⟨t2, _, rfl, SqT.of upd_same, rfl, _, _, rfl, _, _, rfl, _, rfl, d, _, rfl, set_left (by rw [upd_ne ndt2]; exact upd_same) _, rfl, _, rfl, q _ _ ((((But.refl : But d H H).new nt).upd.upd.upd).new nt2).upd ?_ (Int.emod_nonneg _ (by omega)) (Int.emod_lt_of_pos _ m0)⟩
          have nlt2 : l ≠ t2 := ne_of_none (by rw [upd_ne nld, upd_ne nld, upd_ne nld, upd_ne nlt]; exact hl) nt2
          exact ⟨l, ns, a + 1, _, upd_same, by rw [upd_ne nld, upd_ne nlt2, upd_ne nld, upd_ne nld, upd_ne nld, upd_ne nlt]; exact hl, hne, hlen, by omega, by push_cast; omega⟩
        · refine ⟨_, rfl, d, _, rfl, get_left upd_same, .inl ⟨_, rfl, _, rfl, _, _, rfl, rfl, m0, _, rfl, d, _, rfl, get_left upd_same, _, rfl, _, _, rfl, rfl, wide_div (b := 64) m0 (by omega) (by decide) (by decide), (by show 2 ≤ sizeLine; decide), fun t2 nt2 => ?_⟩⟩
          have ndt2 : d ≠ t2 := ne_of_none upd_same nt2
          refine ⟨t2, _, rfl, SqT.of upd_same, rfl, _, _, rfl, _, _, rfl, _, rfl, d, _, rfl, set_left (by rw [upd_ne ndt2]; exact upd_same) _, rfl, _, rfl, q _ _ ((((But.refl : But d H H).new nt).upd.upd).new nt2).upd ?_ (Int.emod_nonneg _ (by omega)) (Int.emod_lt_of_pos _ m0)⟩
          have nlt2 : l ≠ t2 := ne_of_none (by rw [upd_ne nld, upd_ne nld, upd_ne nlt]; exact hl) nt2
          exact ⟨l, ns, a + 1, _, upd_same, by rw [upd_ne nld, upd_ne nlt2, upd_ne nld, upd_ne nld, upd_ne nlt]; exact hl, hne, hlen, by omega, by push_cast; omega⟩
      · refine iteF ?_
        refine ⟨_, rfl, d, _, rfl, get_left upd_same, .inl ⟨_, rfl, _, rfl, _, _, rfl, rfl, m0, _, rfl, d, _, rfl, get_left upd_same, _, rfl, _, _, rfl, rfl, wide_div (b := 64) m0 (by omega) (by decide) (by decide), (by show 2 ≤ sizeLine; decide), fun t2 nt2 => ?_⟩⟩
        have ndt2 : d ≠ t2 := ne_of_none upd_same nt2
        refine ⟨t2, _, rfl, SqT.of upd_same, rfl, _, _, rfl, _, _, rfl, _, rfl, d, _, rfl, set_left (by rw [upd_ne ndt2]; exact upd_same) _, rfl, _, rfl, q _ _ ((((But.refl : But d H H).new nt).upd.upd).new nt2).upd ?_ (Int.emod_nonneg _ (by omega)) (Int.emod_lt_of_pos _ m0)⟩
        have nlt2 : l ≠ t2 := ne_of_none (by rw [upd_ne nld, upd_ne nld, upd_ne nlt]; exact hl) nt2
        exact ⟨l, ns, a + 1, _, upd_same, by rw [upd_ne nld, upd_ne nlt2, upd_ne nld, upd_ne nld, upd_ne nlt]; exact hl, hne, hlen, by omega, by push_cast; omega⟩
    · refine ⟨_, rfl, d, _, rfl, get_left hd, .inl ⟨_, rfl, _, rfl, _, _, rfl, rfl, m0, _, rfl, d, _, rfl, get_left hd, _, rfl, _, _, rfl, rfl, wide_div (b := 64) m0 (by omega) (by decide) (by decide), (by show 2 ≤ sizeLine; decide), fun t nt => ?_⟩⟩
      have ndt : d ≠ t := ne_of_none hd nt
      refine ⟨t, _, rfl, SqT.of upd_same, rfl, _, _, rfl, _, _, rfl, _, rfl, d, _, rfl, set_left (by rw [upd_ne ndt]; exact hd) _, rfl, _, rfl, q _ _ (((But.refl : But d H H)).new nt).upd ?_ (Int.emod_nonneg _ (by omega)) (Int.emod_lt_of_pos _ m0)⟩
      exact ⟨l, ns, a, _, upd_same, by rw [upd_ne (ne_of hl hd (by intro z; cases z)), upd_ne (ne_of_none hl nt)]; exact hl, hne, hlen, by omega, by push_cast; omega⟩
end
end Toy


namespace Toy
open PySem L2
section
variable {P : Program} {w : World} {K : PySem.W.Frag} {mg : Str → Option Value} {base : Heap}
def spPick : Sp := fun vs H Q _ => ∃ (d p : Addr) (n : Nat) (xs : List V), vs = [.ref d, .ref p] ∧ Tape H d n ∧ n ≤ 1000000 ∧ H p = some (.lst xs) ∧ xs ≠ [] ∧ xs.length < 1000000 ∧
  ∀ H' v, But d H H' → Tape H' d (n + 1) → v ∈ xs → Q v H'
theorem scP : FnScope ["_law_tape", "_law_items"] ["_law_tape", "_law_items"] (defScope sPick) := ⟨rfl, rfl, rfl, by decide +kernel, rfl, by decide +kernel, by decide +kernel⟩
theorem ok_pick {f fD : Addr} {fd fdD : FuncData} (F : Fun K "_law_pick" "_law_pick" sPick f fd) (GD : FnOk P w K mg base CX0 1 fD fdD ["_law_tape", "_law_many"] spDraw) (mD : mg "_law_draw" = some (.ref fD)) (kD : PySem.W.keepIn K (.ref fD) = true) (bD : Binds K fdD ["_law_tape", "_law_many"] []) (mLen : mg "len" = none) : FnOk P w K mg base CX0 2 f fd ["_law_tape", "_law_items"] spPick := by
  refine F.ok scP (fun vs H Q E h => ?_) (fun cdv A outer s H vs Q E hr h => ?_)
  · obtain ⟨d, p, n, xs, rfl, _⟩ := h
    rfl
  · obtain ⟨d, p, n, xs, rfl, hT, hn, hp, hne, hlen, q⟩ := h
    refine ⟨_, pss_one (ps_ret (pe_ix ix_list (pv 1) (pe_call GD hr rfl mD kD bD .nil pass0 (pa_cons (pv 0) (pa_cons (pe_callB call_len_seq (by rfl) mLen PySem.boot_len (pa_cons (pv 1) pa_nil)) pa_nil))) (fun _ _ => rfl))), ?_⟩
    have lp : 0 < xs.length := List.length_pos_iff.mpr hne
    refine ⟨_, rfl, _, rfl, _, rfl, p, _, rfl, .inl (SqL.of hp), d, n, _, rfl, hT, hn, (by omega), (by omega), fun H1 r hb hT1 r0 r1 => ?_⟩
    have npd : p ≠ d := by
      obtain ⟨l, ns, a, f, hd, _⟩ := hT
      exact ne_of hp hd (by intro z; cases z)
    obtain ⟨j, ej⟩ : ∃ j : Nat, r = (j : Int) := ⟨r.toNat, by omega⟩
    have hj : j < xs.length := by omega
    refine ⟨p, xs, _, xs[j], rfl, rfl, SqL.of (hb _ _ npd hp), (by rw [ej]; exact atI_nat (List.getElem?_eq_getElem hj)), q _ _ hb hT1 (List.getElem_mem hj)⟩
theorem cut63 (ns : List Int) (h : ns.length ≤ 63) : cutV (ns.map V.int) none (some 63) = ns.map V.int := by
  unfold cutV
  rw [show HT.sIx (ns.map V.int).length (ns.map V.int).length (some 63) = min 63 (ns.map V.int).length from HT.sIx_nat _ _ 63, HT.sIx_none, List.length_map, show min 63 ns.length = ns.length by omega, List.drop_zero, Nat.sub_zero]
  exact List.take_of_length_le (by rw [List.length_map]; exact Nat.le_refl _)
theorem merge_tp (l : Addr) : mergeK [] [(kC, V.ref l), (kA, V.int 0), (kL, V.int 0)] = tp l 0 0 := by
  unfold mergeK
  simp only [List.foldl_cons, List.foldl_nil]
  unfold putK
  simp [k_ca, k_cl, k_al]
  rfl
def spBegin (K : PySem.W.Frag) : Sp := fun vs H Q _ => ∃ (a : Addr) (ns : List Int), vs = [.ref a] ∧ SqL K H a (ns.map V.int) ∧ ns.length ≤ 63 ∧ ∀ H' d, Same H H' → H d = none → Tape H' d 0 → Q (.ref d) H'
theorem scB : FnScope ["_law_script"] ["_law_script"] (defScope sBegin) := ⟨rfl, rfl, rfl, by decide +kernel, rfl, by decide +kernel, by decide +kernel⟩
theorem same_new {H H1 : Hp} {p : Addr} {u : HO} (a : Same H H1) (hp : H1 p = none) : Same H (upd H1 p u) := fun x o e => by
  rw [upd_ne (ne_of_none (a x o e) hp)]
  exact a x o e
theorem ok_begin {f : Addr} {fd : FuncData} (F : Fun K "_law_begin" "_law_begin" sBegin f fd) : FnOk P w K mg base CX0 1 f fd ["_law_script"] (spBegin K) := by
  refine F.ok scB (fun vs H Q E h => ?_) (fun cdv A outer s H vs Q E hr h => ?_)
  · obtain ⟨a, ns, rfl, _⟩ := h
    rfl
  · obtain ⟨a, ns, rfl, hS, hlen, q⟩ := h
    refine ⟨_, pss_one (ps_ret (pe_disp (pps_cons pe_str (pe_orT (pe_slice sl_list (pv 0) po_none (po_some pe_int)) (pe_one (pe_lst (pa_cons pe_int pa_nil)))) (pps_cons pe_str pe_int (pps_cons pe_str pe_int pps_nil))) (by rfl) (by rfl) (fun z => by cases z) (by decide))), ?_⟩
    intro p np
    have s1 : Same H (upd H p (.dK [])) := same_new (fun _ _ e => e) np
    refine ⟨_, rfl, 63, rfl, a, _, rfl, s1.seq hS, fun c nc => ?_⟩
    have npc : p ≠ c := ne_of_none upd_same nc
    refine ⟨_, .inl ⟨_, SqL.of upd_same, rfl⟩, ?_⟩
    have fin : ∀ (H2 : Hp) (l : Addr) (ms : List Int), Same (upd H p (.dK [])) H2 → H2 l = some (.lst (ms.map V.int)) → ms ≠ [] → ms.length ≤ 1000 → Q (.ref p) (upd H2 p (.dK (mergeK [] [(kC, V.ref l), (kA, V.int 0), (kL, V.int 0)]))) := by
      intro H2 l ms s2 hl h1 h2
      have npl : l ≠ p := ne_of hl (s2 _ _ upd_same) (by intro z; cases z)
      rw [merge_tp]
      refine q _ p (fun b o e => ?_) np ⟨l, ms, 0, 0, upd_same, by rw [upd_ne npl]; exact hl, h1, h2, Int.le_refl _, Int.le_refl _⟩
      rw [upd_ne (ne_of_none e np)]
      exact s2 _ _ (s1 _ _ e)
    refine ite2 (fun c1 => ?_) (fun c1 => ?_)
    · refine ⟨Eq.trans (upd_ne npc) upd_same, [(kC, V.ref c), (kA, V.int 0), (kL, V.int 0)], rfl, (by show 3 ≤ 15; decide), fin _ c ns (same_new (fun _ _ e => e) nc) (by rw [upd_same, cut63 ns hlen]) ?_ (by omega)⟩
      intro z
      rw [z] at c1
      exact Bool.false_ne_true c1
    · refine ⟨(by show 1 ≤ sizeLine; decide), fun e ne => ?_⟩
      have npe : p ≠ e := ne_of_none (Eq.trans (upd_ne npc) upd_same) ne
      refine ⟨Eq.trans (upd_ne npe) (Eq.trans (upd_ne npc) upd_same), [(kC, V.ref e), (kA, V.int 0), (kL, V.int 0)], rfl, (by show 3 ≤ 15; decide), fin _ e [0] (same_new (same_new (fun _ _ e => e) nc) ne) upd_same (by decide) (by decide)⟩
end
end Toy


/-! An own exception class over any base, called with positional or keyword arguments: the library tells it without keywords. -/
namespace PySem
namespace KX
open PySem.W PySem.Calls PyProof.Rows PySem.HandSPX
open Builtin Builtin.ObjectAttr
section
variable {P : Program} {wo : World} {Ar : Around} {Er : Value → Shared → Prop} {Rs : Result → Shared → Prop} {hp : Heap} {gs : Array GenState} {dr : Drawn} {tk : Nat} {os : OsState}
variable {cn qn : Str} {c nsA : Addr} {bases tl bt : List Value} {hasD : Bool} {sls : List Str} {subs : List Value} {abst : Bool} {coll : Option Bool} {cd : Option Addr} {y0 y1 y2 y3 y5 : Option Value} {base nid iid : String}
/-- the class's object -/
abbrev clsO (cn qn : Str) (c nsA : Addr) (bases tl : List Value) (hasD : Bool) (sls : List Str) (subs : List Value) (abst : Bool) (coll : Option Bool) (cd : Option Addr) (y0 y1 y2 y3 y5 : Option Value) (nid : String) : Obj :=
  excClassObj cn qn c nsA bases tl hasD sls subs abst coll cd y0 y1 y2 y3 y5 nid
variable (FB : ExcBaseFacts base nid iid bt) (same : ∀ Z : String, tl.contains (.type Z) = bt.contains (.type Z)) (at_ : hp.get? c = some (clsO cn qn c nsA bases tl hasD sls subs abst coll cd y0 y1 y2 y3 y5 nid))
include same in
theorem has_in {Z : String} {b : Bool} (z : bt.contains (.type Z) = b) : (Value.ref c :: tl).contains (.type Z) = b := by
  rw [List.contains_cons, same Z, z]; exact Bool.false_or b
include FB same at_ in
theorem new_checked {M : Model} {ps : List Value} {ks : List (Str × Value)} {Go : Unit → Shared → Prop} (go : Go () ⟨hp, gs, dr, tk, os⟩) : wpAny M Ar (checkBuiltinCall nid ⟨.ref c :: ps, ks⟩) Go Er ⟨hp, gs, dr, tk, os⟩ := by
  have star := FB.noStar
  have sub := has_in (c := c) same FB.hasB
  simp only [checkBuiltinCall, FB.newKind, FB.newSplit, FB.newRow]
  repeat (first | (refine wpAny_isSubtype_exc at_ ?_; rw [sub]) | refine wpAny_loadPart_at at_ ?_ | refine wpAny_madeBy_exc at_ ?_ | refine wpAny_staticBase_exc at_ ?_ | wp_step | simp only [Bool.false_eq_true, bne_self_eq_false, if_false])
  exact go
include FB same at_ in
theorem born {ps : List Value} {ks : List (Str × Value)} (few : ps.length ≤ sizeLine)
    (go : Rs (.ok (.ret (.ref (hp.objs.size + 1)))) ⟨(hp.push (W.kdv_tup ps)).push (excO c hp.objs.size), gs, dr, tk, os⟩) : codeAny (model P wo) Ar (.builtin nid ⟨.ref c :: ps, ks⟩) Rs ⟨hp, gs, dr, tk, os⟩ := by
  have fin := FB.ends
  have i1 := has_in (c := c) same FB.hasB
  have i2 := has_in (c := c) same FB.noAttr
  have i3 := has_in (c := c) same FB.noName
  refine codeAny_builtinAt FB.entry ?_
  unfold Builtin.«BaseException.__new__»
  refine wpAt_bind (?_ : wpAt _ _ _ (stack >>= _) _ _ _)
  refine wpAt_bind (wpAt_stack fun _ _ => wpAt_of_wpAny ?_)
  wp_walk
  refine wpAt_of_wpAny ?_
  rw [FB.owner]
  repeat (first | with_reducible refine wpAny_loadPart_at at_ ?_ | with_reducible refine wpAny_madeHere_exc FB.canon at_ ?_ | (with_reducible refine wpAny_isSubtype_exc at_ ?_; first | rw [i1] | rw [i2] | rw [i3]) | wp_step)
  show Rs _ _
  rw [Heap.size_push]
  exact go
include FB same at_ in
/-- C(.., k = ..): a new object, then the class's own __init__ -/
theorem class_called {ps : List Value} {ks : List (Str × Value)} {fi : Addr} (few : ps.length ≤ sizeLine)
    (ini : W.Looks (model P wo) hp (typeLookup (.ref c) "__init__") (some (.ref fi))) (bnd : ∀ self, W.Looks (model P wo) hp (bindSpecial (.ref fi) self) (.ref fi, [self]))
    (go : codeAny (model P wo) (Ar.under (.builtin "type.__call__" ⟨.ref c :: ps, ks⟩)) (.call (.ref fi) ⟨.ref (hp.objs.size + 1) :: ps, ks⟩) (W.InitBack (hp.objs.size + 1) Rs)
      ⟨(hp.push (W.kdv_tup ps)).push (excO c hp.objs.size), gs, dr, tk, os⟩) : codeAny (model P wo) Ar (.call (.ref c) ⟨ps, ks⟩) Rs ⟨hp, gs, dr, tk, os⟩ := by
  have t1 := tc_lookup
  have t2 := tc_bind (.ref c)
  have isT : (⟨hp, gs, dr, tk, os⟩ : Shared).TypeIs (.ref c) "type" := ⟨_, at_, rfl⟩
  refine codeAny_of_tree (?_ : wpAny _ _ (callAny (.ref c) _) _ _ _)
  repeat (any_goals (first | assumption | wp_step | with_reducible refine wpAny_loadPart_at at_ ?_))
  refine ⟨rfl, codeAny_call_builtin_at (Code.quiet_builtin _ (by decide +kernel)) entry_typeCall (wpAny_check_type_call_sub at_ (?_ : wpAny _ _ (Builtin.«type.__call__» ⟨.ref c :: ps, ks⟩) _ _ _))⟩
  repeat (first | with_reducible refine wpAny_madeBy_exc at_ ?_ | with_reducible refine wpAny_loadPart_at at_ ?_ | wp_step)
  refine codeAny_call_builtin_code (Code.quiet_builtin _ FB.quiet) (new_checked FB same at_ (born FB same at_ few ?_))
  show wpAny _ _ _ _ _ _
  have up : ∀ b o, hp.get? b = some o → ((hp.push (W.kdv_tup ps)).push (excO c hp.objs.size)).get? b = some o := fun _ _ q => Heap.get?_push_of_some _ (Heap.get?_push_of_some _ q)
  have at2 := up _ _ at_
  have obj : ((hp.push (W.kdv_tup ps)).push (excO c hp.objs.size)).get? (hp.objs.size + 1) = some (excO c hp.objs.size) := by heap_get
  have self : (Value.ref c :: tl).contains (.ref c) = true := by simp
  have l1 := ini.keeps up
  have l2 := (bnd (.ref (hp.objs.size + 1))).keeps up
  unfold isInstance
  repeat (first | (with_reducible refine wpAny_isSubtype_exc at2 ?_; rw [self]) | with_reducible refine wpAny_loadPart_at obj ?_ | wp_step)
  refine (l1.at ?_ : wpAny _ _ (typeLookup (.ref c) _) _ _ _)
  refine wpAny_holding (wpAny_bind (l2.at (wpAny_bind (wpAny_call (codeAny_mono go fun r s' q => ?_)))))
  cases r with
  | error e => exact q
  | ok fl =>
    cases fl with
    | ret v =>
      obtain ⟨rfl, q⟩ := q
      first
        | exact wpAny_pure (wpAny_pure q)
        | (wp_walk; exact q)
    | next => exact q.elim
    | brk => exact q.elim
    | cont => exact q.elim
end
end KX
end PySem


namespace PySem
namespace KX
open PySem.W PySem.Calls PyProof.Rows PySem.HandSPX
open Builtin Builtin.ObjectAttr
/-- what the written part says of an own exception class with an own __init__, over the built-in class of that name -/
structure Own (K : Frag) (c fi : Addr) (base nid iid : String) (bt : List Value) : Prop where
  FB : ExcBaseFacts base nid iid bt
  SF : StoreFacts base bt "object.__setattr__" "object"
  ini : excInitIn K c bt nid = true
  over : excOver K c bt = true
  dct : hasDictIn K c = true
  sa : findIn K (.ref c) "__setattr__" = some (some (.builtin "object.__setattr__"))
  ga : findIn K (.ref c) "__getattribute__" = some (some (.builtin "BaseException.__getattribute__"))
  gg : findIn K (.ref c) "__getattr__" = some none
  exc : subIn K (.ref c) (.type "BaseException") = some true
  kp : keepIn K (.ref c) = true
  fI : findIn K (.ref c) "__init__" = some (some (.ref fi))
  fT : typeIn K (.ref fi) = some (.type "function")
  cA : findIn K (.ref c) "__class__" = some (some (.builtin "object.__class__"))
  cN : specialIn K (.builtin "object.__class__") "__get__" = some (some (.builtin "getset_descriptor.__get__"))
  cT : takesIn K (.builtin "object.__class__") = some true
  cM : mroIn K c (.type "object") = some true
/-- no class says anything of the name f -/
structure Free (K : Frag) (c : Addr) (f : Str) : Prop where
  t : takerIn K c f = some none
  n : findIn K (.ref c) f = some none
/-- an exception's object, its dict at d -/
abbrev withD (c t : Addr) (d : Option Addr) : Obj := { cls := .ref c, dict := d, data := .fields #[.ref t, .none, .none, .none, .bool false, .none] }
section
variable {P : Program} {wo : World} {Ar : Around} {Rs : Result → Shared → Prop} {hp : Heap} {gs : Array GenState} {dr : Drawn} {tk : Nat} {os : OsState}
variable {K : Frag} {c fi : Addr} {base nid iid : String} {bt : List Value} {f : Str} {v : Value} {x t : Addr} {tn : Tok}
/-- the first store -/
theorem put_first (O : Own K c fi base nid iid bt) (N : Free K c f) (X : K.In hp) (hx : hp.get? x = some (withD c t none))
    (go : ∀ h' tk' dx, (∀ b o, b ≠ x → hp.get? b = some o → h'.get? b = some o) → hp.objs.size ≤ dx → dx ≠ x → h'.get? x = some (withD c t (some dx)) →
      h'.Ns1 dx (fun y => if y = f then some v else none) → Rs (.ok (.ret .none)) ⟨h', gs, dr, tk', os⟩) :
    codeAny (model P wo) Ar (.call (.builtin "object.__setattr__") ⟨[.ref x, .str f tn, v], []⟩) Rs ⟨hp, gs, dr, tk, os⟩ := by
  have at_ : InstAt hp x (withD c t none) c none := ⟨hx, rfl, rfl, trivial⟩
  have apart : x ≠ hp.objs.size := Nat.ne_of_lt (Heap.lt_size hx)
  obtain ⟨cd, hcd, hdd⟩ := any_some O.dct
  have look : Looks (model P wo) hp (classData c) cd := looks_clsIn X hcd
  refine osa_openX O.SF X at_ O.over N.t fun b => ?_
  show wpAny _ _ (storeInOwnDict (.ref x) (.ref c) (.str f tn) f v b) _ _ _
  obtain ⟨a1, a2, a3, a4, a5, a6, a7, a8, a9, a10, a11⟩ := cd
  have e6 : a6 = true := hdd
  subst e6
  unfold storeInOwnDict ownDictForStores
  repeat (first | with_reducible refine store_in_new ?_ ?_ | with_reducible refine look.at ?_ | with_reducible refine wpAny_loadPart_at hx ?_ | wp_step)
  · exact ⟨_, #[], _, (Heap.get?_update_ne _ _ _ _ apart.symm).trans (Heap.get?_push_at rfl rfl), rfl, fun e he => absurd he (by simp), fun _ => rfl⟩
  · intro h' tk' hn but
    have old : (hp.push { cls := .type "dict", data := .dict #[] }).get? x = some (withD c t none) := Heap.get?_push_of_some _ hx
    exact go h' tk' hp.objs.size (fun b o hb q => (but.2 b (Nat.ne_of_lt (Heap.lt_size q))).trans ((Heap.get?_update_ne _ _ _ _ hb).trans (Heap.get?_push_of_some _ q))) (Nat.le_refl _) apart.symm
      ((but.2 x apart).trans (Heap.get?_update_self _ old rfl)) hn
/-- a further store -/
theorem put_next {dx : Addr} {m0 : Str → Option Value} {ns : List Str} (O : Own K c fi base nid iid bt) (N : Free K c f) (X : K.In hp) (hx : hp.get? x = some (withD c t (some dx))) (hm : hp.Ns1 dx m0) (hw : Within m0 ns) (hz : ns.length ≤ 1000)
    (go : ∀ h' tk', (∀ b o, b ≠ dx → hp.get? b = some o → h'.get? b = some o) → h'.Ns1 dx (fun y => if y = f then some v else m0 y) → Rs (.ok (.ret .none)) ⟨h', gs, dr, tk', os⟩) :
    codeAny (model P wo) Ar (.call (.builtin "object.__setattr__") ⟨[.ref x, .str f tn, v], []⟩) Rs ⟨hp, gs, dr, tk, os⟩ := by
  obtain ⟨od, _, _, hod, _, _⟩ := hm.count hw
  have at_ : InstAt hp x (withD c t (some dx)) c (some od) := ⟨hx, rfl, rfl, hod⟩
  obtain ⟨cd, hcd, hdd⟩ := any_some O.dct
  have look : Looks (model P wo) hp (classData c) cd := looks_clsIn X hcd
  refine osa_openX O.SF X at_ O.over N.t fun b => ?_
  show wpAny _ _ (storeInOwnDict (.ref x) (.ref c) (.str f tn) f v b) _ _ _
  obtain ⟨a1, a2, a3, a4, a5, a6, a7, a8, a9, a10, a11⟩ := cd
  have e6 : a6 = true := hdd
  subst e6
  unfold storeInOwnDict ownDictForStores
  repeat (first | with_reducible refine PySem.OEX.store_in_old hm hw hz ?_ | with_reducible refine look.at ?_ | with_reducible refine wpAny_loadPart_at hx ?_ | wp_step)
  intro h' tk' hn but
  exact go h' tk' (fun b o hb q => (but.2 b hb).trans q) hn
end
end KX
end PySem


namespace PySem
namespace KX
open PySem.W PySem.Calls PyProof.Rows PySem.HandSPX
def arg1 (n : Str) (p : Pos) : Arg := { arg := n, annotation := none, pos := p }
def argsOf (l : List Arg) : Arguments := { posonlyargs := [], args := l, vararg := none, kwonlyargs := [], kw_defaults := [], kwarg := none, defaults := [] }
def setS (f : Str) (q1 q2 q3 q4 : Pos) : Stmt := .Assign [.Attribute (.Name "self" q1) f q2] (.Name f q3) q4
def scOf (l : List Str) : Scope := { kind := .function, names := l.map fun n => (n, .local), isGenerator := false, isCoroutine := false, more := [] }
/-- a local name is read -/
theorem readL {M : Model} {s : Shared} {name : Str} {sc : Scope} {L a : Addr} {cd : Value} {m : Str → Option Value} {x : Str} {pos : Pos} {v : Value} {Q : Value → Shared → Prop} {A : Around} {E : Value → Shared → Prop} (hn : s.heap.Ns L m) (hv : m x = some v)
    (hk : sc.kind = .function) (hl : sc.names.lookup x = some .local) (hd : (x == ("__debug__" : Str)) = false) (h : Q v s) : wpAny M A (eval (.Name x pos) (envOfC name sc L a cd)) Q E s := wpAny_Name (wpAny_loadName_local hk hl hn hv h) hd
/-- what __init__ leaves of the object at x: its dict at dx holds m -/
structure Filled (h h' : Heap) (x c dx t : Addr) (m : Str → Option Value) : Prop where
  old : ∀ b o, b ≠ x → h.get? b = some o → h'.get? b = some o
  obj : h'.get? x = some (withD c t (some dx))
  big : h.objs.size ≤ dx
  ne : dx ≠ x
  ns : h'.Ns1 dx m
section
variable {P : Program} {wo : World} {Ar : Around} {Rs : Result → Shared → Prop} {s : Shared} {K : Frag} {c fi : Addr} {base nid iid : String} {bt : List Value} {f g : Str} {v u : Value} {x t : Addr} {qual : Str} {fd : FuncData} {a1 a2 a3 q1 q2 q3 q4 r1 r2 r3 r4 : Pos} {args : Args}
theorem in_step {A : Around} {E : Value → Shared → Prop} {Q : Flow → Shared → Prop} {L a : Addr} {cd : Value} {sc : Scope} {m : Str → Option Value} {rest : List Stmt} (hn : s.heap.Ns L m) (hk : sc.kind = .function) (sS : sc.names.lookup ("self" : Str) = some NameKind.local) (sF : sc.names.lookup f = some .local)
    (dF : (f == ("__debug__" : Str)) = false) (mS : m "self" = some (.ref x)) (mF : m f = some v)
    (h : wpAny (model P wo) A (setAttr (.ref x) f v) (fun _ s' => wpAny (model P wo) A (execs rest (envOfC qual sc L a cd)) Q E s') E s) :
    wpAny (model P wo) A (execs (setS f q1 q2 q3 q4 :: rest) (envOfC qual sc L a cd)) Q E s := by
  refine wpAny_execs_cons (plainObj_wpAny_Assign_Attribute ?_)
  exact readL hn mF hk sF dF (readL hn mS hk sS (by decide) h)
theorem init_one (O : Own K c fi base nid iid bt) (N : Free K c f) (F : L2.FunD K "__init__" qual (argsOf [arg1 "self" a1, arg1 f a2]) [setS f q1 q2 q3 q4] (scOf ["self", f]) [] [] fi fd) (fs : (f == ("self" : Str)) = false) (fdb : (f == ("__debug__" : Str)) = false)
    (hb : BindsTo s fd args [("self", .ref x), (f, v)]) (X : K.In s.heap) (lim : s.heap.NoLimit) (hx : s.heap.get? x = some (withD c t none)) (room : Ar.depth < recursionLimit)
    (go : ∀ h' tk dx, Filled s.heap h' x c dx t (fun y => if y = f then some v else none) → Rs (.ok (.ret .none)) { s with heap := h', toks := tk }) :
    codeAny (model P wo) Ar (.call (.ref fi) args) Rs s := by
  obtain ⟨oc, od, dV, kV, doc, pm, an, cdv, ct, osl, rfl, lk, hcd, hD, hK⟩ := F.ex
  have l1 : (scOf ["self", f]).names.lookup ("self" : Str) = some .local := by simp [scOf, List.lookup]
  have l2 : (scOf ["self", f]).names.lookup f = some .local := by simp [scOf, List.lookup, fs]
  refine Att.call_fn (binds := [("self", .ref x), (f, v)]) X lim lk hcd room hb (by simp [l1, l2]) (fun s₁ IC => ?_) rfl rfl rfl
  obtain ⟨h₁, tk₁, rfl⟩ := IC.toInCall.same
  have up : ∀ b o, s.heap.get? b = some o → h₁.get? b = some o := IC.toInCall.keep
  have hn := IC.toInCall.ns
  have k1 : (envOfC qual (scOf ["self", f]) s.heap.objs.size fi cdv).kindOf ("self" : Str) = some .local := l1
  have k2 : (envOfC qual (scOf ["self", f]) s.heap.objs.size fi cdv).kindOf f = some .local := l2
  have nsf : ¬ (("self" : Str) = f) := fun z => by rw [← z] at fs; simp at fs
  refine in_step (x := x) (v := v) hn rfl l1 l2 fdb (by simp [bindL, k1, k2, nsf]) (by simp [bindL, k1, k2]) ?_
  refine set_plain (X.keeps up) (ox := withD c t none) (od := none) ⟨up _ _ hx, rfl, rfl, trivial⟩ O.sa ?_
  refine put_first O N (X.keeps up) (up _ _ hx) (fun h₃ tk₃ dx k₃ dn dne hx₃ hn₃ => ?_)
  have z : s.heap.objs.size < h₁.objs.size := hn.lt
  exact wpAny_execs_nil (go h₃ tk₃ dx ⟨fun b o hb e => k₃ b o hb (up b o e), hx₃, Nat.le_of_lt (Nat.lt_of_lt_of_le z dn), dne, hn₃⟩)
theorem init_two (O : Own K c fi base nid iid bt) (N : Free K c f) (N2 : Free K c g) (F : L2.FunD K "__init__" qual (argsOf [arg1 "self" a1, arg1 f a2, arg1 g a3]) [setS f q1 q2 q3 q4, setS g r1 r2 r3 r4] (scOf ["self", f, g]) [] [] fi fd)
    (fs : (f == ("self" : Str)) = false) (gs : (g == ("self" : Str)) = false) (gf : (g == f) = false) (fdb : (f == ("__debug__" : Str)) = false) (gdb : (g == ("__debug__" : Str)) = false)
    (hb : BindsTo s fd args [("self", .ref x), (f, v), (g, u)]) (X : K.In s.heap) (lim : s.heap.NoLimit) (hx : s.heap.get? x = some (withD c t none)) (hnx : K.lookup x = none) (room : Ar.depth < recursionLimit)
    (go : ∀ h' tk dx, Filled s.heap h' x c dx t (fun y => if y = g then some u else if y = f then some v else none) → Rs (.ok (.ret .none)) { s with heap := h', toks := tk }) :
    codeAny (model P wo) Ar (.call (.ref fi) args) Rs s := by
  obtain ⟨oc, od, dV, kV, doc, pm, an, cdv, ct, osl, rfl, lk, hcd, hD, hK⟩ := F.ex
  have l1 : (scOf ["self", f, g]).names.lookup ("self" : Str) = some .local := by simp [scOf, List.lookup]
  have l2 : (scOf ["self", f, g]).names.lookup f = some .local := by simp [scOf, List.lookup, fs]
  have l3 : (scOf ["self", f, g]).names.lookup g = some .local := by simp [scOf, List.lookup, gs, gf]
  refine Att.call_fn (binds := [("self", .ref x), (f, v), (g, u)]) X lim lk hcd room hb (by simp [l1, l2, l3]) (fun s₁ IC => ?_) rfl rfl rfl
  obtain ⟨h₁, tk₁, rfl⟩ := IC.toInCall.same
  have up : ∀ b o, s.heap.get? b = some o → h₁.get? b = some o := IC.toInCall.keep
  have hn := IC.toInCall.ns
  have k1 : (envOfC qual (scOf ["self", f, g]) s.heap.objs.size fi cdv).kindOf ("self" : Str) = some .local := l1
  have k2 : (envOfC qual (scOf ["self", f, g]) s.heap.objs.size fi cdv).kindOf f = some .local := l2
  have k3 : (envOfC qual (scOf ["self", f, g]) s.heap.objs.size fi cdv).kindOf g = some .local := l3
  have n1 : ¬ (("self" : Str) = f) := fun z => by rw [← z] at fs; simp at fs
  have n2 : ¬ (("self" : Str) = g) := fun z => by rw [← z] at gs; simp at gs
  have n3 : ¬ (f = g) := fun z => by rw [← z] at gf; simp at gf
  refine in_step (x := x) (v := v) hn rfl l1 l2 fdb (by simp [bindL, k1, k2, k3, n1, n2]) (by simp [bindL, k1, k2, k3, n3]) ?_
  refine set_plain (X.keeps up) (ox := withD c t none) (od := none) ⟨up _ _ hx, rfl, rfl, trivial⟩ O.sa ?_
  refine put_first O N (X.keeps up) (up _ _ hx) (fun h₃ tk₃ dx k₃ dn dne hx₃ hn₃ => ?_)
  have z : s.heap.objs.size < h₁.objs.size := hn.lt
  have lx : s.heap.objs.size ≠ x := Nat.ne_of_gt (Heap.lt_size hx)
  have hn3 : h₃.Ns s.heap.objs.size _ := hn.at fun o q => k₃ _ _ lx q
  obtain ⟨od3, _, _, hod3, _, _⟩ := hn₃.count (Within.cons f v Within.nil)
  have X3 : K.In h₃ := fun b o e => by
    by_cases hbx : b = x
    · rw [hbx, hnx] at e
      cases e
    · exact k₃ b o hbx (up _ _ (X b o e))
  refine in_step (x := x) (v := u) hn3 rfl l1 l3 gdb (by simp [bindL, k1, k2, k3, n1, n2]) (by simp [bindL, k1, k2, k3]) ?_
  refine set_plain X3 (ox := withD c t (some dx)) (od := some od3) ⟨hx₃, rfl, rfl, hod3⟩ O.sa ?_
  refine put_next O N2 X3 hx₃ hn₃ (Within.cons f v Within.nil) (by show 1 ≤ 1000; decide) (fun h₄ tk₄ k₄ hn₄ => ?_)
  exact wpAny_execs_nil (go h₄ tk₄ dx ⟨fun b o hb e => k₄ b o (Nat.ne_of_lt (Nat.lt_of_lt_of_le (Heap.lt_size (up b o e)) dn)) (k₃ b o hb (up b o e)), k₄ _ _ dne.symm hx₃, Nat.le_of_lt (Nat.lt_of_lt_of_le z dn), dne, hn₄⟩)
end
end KX
end PySem


namespace L2
open PySem PySem.Spec PyProof.Rows PySem.KX
/-- the end of C(..): the object at e and its dict at d stand -/
def Laid (H : Hp) (c : Addr) (fs : List (Str × V)) (Q : VK) : Prop := ∀ e d, H e = none → H d = none → d ≠ e → Q (.ref e) (upd (upd H d (exd d fs)) e (exo e c (some d)))
section
variable {X : Cx} {pins : List (Addr × Obj)} {σ : St} {H : Hp} {s : Shared} {c fi : Addr} {base nid iid : String} {bt : List Value} {f g : Str} {y z : V} {v u : Value} {qual : Str} {fd : FuncData} {a1 a2 a3 q1 q2 q3 q4 r1 r2 r3 r4 : Pos} {us : List Value} {ks : List (Str × Value)} {Q : VK} {k : Nat}
theorem laid_end {hp h' : Heap} {g0 : Array GenState} {dr : Drawn} {t0 t' : Nat} {os : OsState} {d0 t1 : Addr} {m : Str → Option Value} {fs : List (Str × V)} (I : Inv X pins σ H ⟨hp, g0, dr, t0, os⟩) (h : Laid H c fs Q) {w1 w2 : Obj}
    (M : Filled ((hp.push w1).push w2) h' (hp.objs.size + 1) c d0 t1 m) (rel : ∀ f, RelO (fs.lookup f) (m f)) :
    EP X pins σ Q (.ref (hp.objs.size + 1)) ⟨h', g0, dr, t', os⟩ := by
  have old : ∀ b o, hp.get? b = some o → h'.get? b = some o := fun b o e => M.old b o (Nat.ne_of_lt (Nat.lt_succ_of_lt (Heap.lt_size e))) (Heap.get?_push_of_some _ (Heap.get?_push_of_some _ e))
  have big : hp.objs.size ≤ d0 := by
    have z := M.big
    rw [Heap.size_push, Heap.size_push] at z
    omega
  have hn : H (hp.objs.size + 1) = none := I.hok.fresh (Nat.le_succ _)
  have hd : H d0 = none := I.hok.fresh big
  obtain ⟨G, g1, g2⟩ := restrict h' fun b => decide (b ≠ hp.objs.size + 1)
  have gk : ∀ b, b ≠ hp.objs.size + 1 → G.get? b = h'.get? b := fun b hb => g1 b (decide_eq_true hb)
  have ge : G.get? (hp.objs.size + 1) = none := g2 _ (by simp)
  have oldG : ∀ b o, hp.get? b = some o → G.get? b = some o := fun b o q => (gk b (Nat.ne_of_lt (Nat.lt_succ_of_lt (Heap.lt_size q)))).trans (old b o q)
  have J : Inv X pins σ (upd H d0 (exd d0 fs)) ⟨G, g0, dr, t', os⟩ := I.laid (t' := t') oldG big (exd_ok (M.ns.at fun o q => (gk d0 M.ne).trans q) rel)
  have he : (upd H d0 (exd d0 fs)) (hp.objs.size + 1) = none := by rw [upd_ne M.ne.symm]; exact hn
  refine ⟨.ref (hp.objs.size + 1), _, J.laidN (t' := t') (h' := h') (fun b o q => ?_) ge he (exo_ok M.obj), rfl, h _ _ hn hd M.ne⟩
  by_cases hb : b = hp.objs.size + 1
  · have q' : G.get? b = some o := q
    rw [hb, ge] at q'
    cases q'
  · exact (gk b hb).symm.trans q
theorem not_written {K : PySem.W.Frag} {hp : Heap} (KX : K.In hp) : K.lookup (hp.objs.size + 1) = none := by
  cases e : K.lookup (hp.objs.size + 1) with
  | none => rfl
  | some o =>
    have z : hp.get? (hp.objs.size + 1) = some o := KX _ _ e
    exact absurd (Nat.lt_of_succ_lt (Heap.lt_size z)) (Nat.lt_irrefl _)
theorem run_mk1 (O : Own X.K c fi base nid iid bt) (N : Free X.K c f) (F : FunD X.K "__init__" qual (argsOf [arg1 "self" a1, arg1 f a2]) [setS f q1 q2 q3 q4] (scOf ["self", f]) [] [] fi fd) (fs : (f == ("self" : Str)) = false) (fdb : (f == ("__debug__" : Str)) = false)
    (hr : Room 1 X.A) (I : Inv X pins σ H s) (rv : RelV y v) (few : us.length ≤ sizeLine) (hb : ∀ s self, BindsTo s fd ⟨.ref self :: us, ks⟩ [("self", .ref self), (f, v)])
    (h : Laid H c [(f, y)] Q) : wpAny (model X.prog X.w) X.A (call (.ref c) us ks) (EP X pins σ Q) X.xe s := by
  obtain ⟨nm, nsA, qn, bs, bm, hdct, sn, sub, ab, col, dd, k0, k1, k2, k3, k5, hC, same⟩ := PySem.W.excInit_of I.kIn O.ini
  obtain ⟨hp, g0, dr, tk, os⟩ := s
  have up : ∀ b o, hp.get? b = some o → ((hp.push (PySem.W.kdv_tup us)).push (PySem.HandSPX.excO c hp.objs.size)).get? b = some o := fun b o e => Heap.get?_push_of_some _ (Heap.get?_push_of_some _ e)
  have obj : ((hp.push (PySem.W.kdv_tup us)).push (PySem.HandSPX.excO c hp.objs.size)).get? (hp.objs.size + 1) = some (withD c hp.objs.size none) := by heap_get
  refine wpAny_call (class_called O.FB same hC few (PySem.W.looks_findIn I.kIn O.fI) (fun self => PySem.W.bind_fn I.kIn self O.fT) ?_)
  refine init_one (s := ⟨(hp.push (PySem.W.kdv_tup us)).push (PySem.HandSPX.excO c hp.objs.size), g0, dr, tk, os⟩) O N F fs fdb (hb _ _) (I.kIn.keeps up) (I.nolimit.keeps up) obj (by show X.A.depth + 1 < recursionLimit; have := hr.dp; omega) fun h' tk' d0 M => ?_
  refine ⟨rfl, laid_end I h M fun q => ?_⟩
  exact relO_put (fs := []) (mA := fun _ => none) rv (fun _ => True.intro) q
theorem run_mk2 (O : Own X.K c fi base nid iid bt) (N : Free X.K c f) (N2 : Free X.K c g) (F : FunD X.K "__init__" qual (argsOf [arg1 "self" a1, arg1 f a2, arg1 g a3]) [setS f q1 q2 q3 q4, setS g r1 r2 r3 r4] (scOf ["self", f, g]) [] [] fi fd)
    (fs : (f == ("self" : Str)) = false) (gs : (g == ("self" : Str)) = false) (gf : (g == f) = false) (fdb : (f == ("__debug__" : Str)) = false) (gdb : (g == ("__debug__" : Str)) = false)
    (hr : Room 1 X.A) (I : Inv X pins σ H s) (rv : RelV y v) (ru : RelV z u) (few : us.length ≤ sizeLine) (hb : ∀ s self, BindsTo s fd ⟨.ref self :: us, ks⟩ [("self", .ref self), (f, v), (g, u)])
    (h : Laid H c [(g, z), (f, y)] Q) : wpAny (model X.prog X.w) X.A (call (.ref c) us ks) (EP X pins σ Q) X.xe s := by
  obtain ⟨nm, nsA, qn, bs, bm, hdct, sn, sub, ab, col, dd, k0, k1, k2, k3, k5, hC, same⟩ := PySem.W.excInit_of I.kIn O.ini
  obtain ⟨hp, g0, dr, tk, os⟩ := s
  have up : ∀ b o, hp.get? b = some o → ((hp.push (PySem.W.kdv_tup us)).push (PySem.HandSPX.excO c hp.objs.size)).get? b = some o := fun b o e => Heap.get?_push_of_some _ (Heap.get?_push_of_some _ e)
  have obj : ((hp.push (PySem.W.kdv_tup us)).push (PySem.HandSPX.excO c hp.objs.size)).get? (hp.objs.size + 1) = some (withD c hp.objs.size none) := by heap_get
  refine wpAny_call (class_called O.FB same hC few (PySem.W.looks_findIn I.kIn O.fI) (fun self => PySem.W.bind_fn I.kIn self O.fT) ?_)
  refine init_two (s := ⟨(hp.push (PySem.W.kdv_tup us)).push (PySem.HandSPX.excO c hp.objs.size), g0, dr, tk, os⟩) O N N2 F fs gs gf fdb gdb (hb _ _) (I.kIn.keeps up) (I.nolimit.keeps up) obj (not_written I.kIn) (by show X.A.depth + 1 < recursionLimit; have := hr.dp; omega) fun h' tk' d0 M => ?_
  refine ⟨rfl, laid_end I h M fun q => ?_⟩
  exact relO_put (fs := [(f, y)]) ru (relO_put (fs := []) (mA := fun _ => none) rv (fun _ => True.intro)) q
end
end L2


namespace L2
open PySem PySem.Spec PyProof.Rows PySem.KX
/-- the class nm, at c, has an __init__ of one field f -/
structure Cl1 (K : PySem.W.Frag) (c : Addr) (f : Str) : Prop where
  ex : ∃ (fi : Addr) (base nid iid : String) (bt : List Value) (qual : Str) (fd : FuncData) (a1 a2 q1 q2 q3 q4 : Pos), Own K c fi base nid iid bt ∧
    FunD K "__init__" qual (argsOf [arg1 "self" a1, arg1 f a2]) [setS f q1 q2 q3 q4] (scOf ["self", f]) [] [] fi fd ∧
    (∀ s self v, BindsTo s fd ⟨[.ref self, v], []⟩ [("self", .ref self), (f, v)]) ∧ ∀ s self v, BindsTo s fd ⟨[.ref self], [(f, v)]⟩ [("self", .ref self), (f, v)]
  fr : Free K c f
  fs : (f == ("self" : Str)) = false
  fdb : (f == ("__debug__" : Str)) = false
  kp : PySem.W.keepIn K (.ref c) = true
/-- .. of two fields f, g; by name in the other order -/
structure Cl2 (K : PySem.W.Frag) (c : Addr) (f g : Str) : Prop where
  ex : ∃ (fi : Addr) (base nid iid : String) (bt : List Value) (qual : Str) (fd : FuncData) (a1 a2 a3 q1 q2 q3 q4 r1 r2 r3 r4 : Pos), Own K c fi base nid iid bt ∧
    FunD K "__init__" qual (argsOf [arg1 "self" a1, arg1 f a2, arg1 g a3]) [setS f q1 q2 q3 q4, setS g r1 r2 r3 r4] (scOf ["self", f, g]) [] [] fi fd ∧
    (∀ s self v u, BindsTo s fd ⟨[.ref self, v, u], []⟩ [("self", .ref self), (f, v), (g, u)]) ∧ ∀ s self v u, BindsTo s fd ⟨[.ref self], [(g, u), (f, v)]⟩ [("self", .ref self), (f, v), (g, u)]
  fr : Free K c f
  gr : Free K c g
  fs : (f == ("self" : Str)) = false
  gs : (g == ("self" : Str)) = false
  gf : (g == f) = false
  fdb : (f == ("__debug__" : Str)) = false
  gdb : (g == ("__debug__" : Str)) = false
  kp : PySem.W.keepIn K (.ref c) = true
/-- what reading an exception of the class at c wants -/
structure ClG (K : PySem.W.Frag) (c : Addr) : Prop where
  ga : PySem.W.findIn K (.ref c) "__getattribute__" = some (some (.builtin "BaseException.__getattribute__"))
  gg : PySem.W.findIn K (.ref c) "__getattr__" = some none
  exc : PySem.W.subIn K (.ref c) (.type "BaseException") = some true
  dct : PySem.W.hasDictIn K c = true
  cA : PySem.W.findIn K (.ref c) "__class__" = some (some (.builtin "object.__class__"))
  cN : PySem.W.specialIn K (.builtin "object.__class__") "__get__" = some (some (.builtin "getset_descriptor.__get__"))
  cT : PySem.W.takesIn K (.builtin "object.__class__") = some true
  cM : PySem.W.mroIn K c (.type "object") = some true
def tX1 (c : Addr) (f : Str) (ta : TA) : TE := fun σ H Q => ta σ H fun vs H1 => ∃ y, vs = [y] ∧ Laid H1 c [(f, y)] Q
def tX2 (c : Addr) (f g : Str) (ta : TA) : TE := fun σ H Q => ta σ H fun vs H1 => ∃ y z, vs = [y, z] ∧ Laid H1 c [(g, z), (f, y)] Q
def tX2k (c : Addr) (f g : Str) (ta : TA) : TE := fun σ H Q => ta σ H fun vs H1 => ∃ y z, vs = [z, y] ∧ Laid H1 c [(g, z), (f, y)] Q
/-- e.f of an exception object -/
def tXG (K : PySem.W.Frag) (f : Str) (te : TE) : TE := fun σ H Q => te σ H fun x H1 => ∃ (a c d : Addr) (fs : List (Str × V)) (v : V), x = .ref a ∧ ClG K c ∧ PySem.W.findIn K (.ref c) f = some none ∧ H1 a = some (exo a c (some d)) ∧ H1 d = some (exd d fs) ∧ fs.lookup f = some v ∧ Q v H1
def rIsX (K : PySem.W.Frag) : List V → Hp → VK → Prop := fun xs H Q => ∃ (a c d : Addr) (fs : List (Str × V)) (k : V) (u : Value) (b : Bool), xs = [.ref a, k] ∧ ClsV k u ∧ ClG K c ∧ H a = some (exo a c (some d)) ∧ H d = some (exd d fs) ∧ PySem.W.kitOne K (.ref c) u = some b ∧ Q (.bl b) H
section
variable {X : Cx} {c : Addr} {f g : Str} {x : Str} {p pos : Pos} {e : Expr} {es : List Expr} {kws : List Keyword} {ta : TA} {te : TE}
theorem one_few (v : Value) : [v].length ≤ sizeLine := by
  rw [sizeLine_eq]
  exact (by decide : 1 ≤ 16777216)
theorem two_few (v u : Value) : [v, u].length ≤ sizeLine := by
  rw [sizeLine_eq]
  exact (by decide : 2 ≤ 16777216)
theorem nil_few : ([] : List Value).length ≤ sizeLine := Nat.zero_le _
theorem pe_x1 (T : Cl1 X.K c f) (hr : Room 1 X.A) (hm : X.mg x = some (.ref c)) (hg : Gl X x) (ha : PA X [e] ta) (hdb : (x == ("__debug__" : Str)) = false := by decide)
    (he : starEach (e :: []) X.env = (false, eval e X.env) :: starEach [] X.env := by rfl) (hpl : (backTo pos (starEach [] X.env)).any (·.1) = false := by rfl) : PE X (.Call (.Name x p) [e] [] pos) (tX1 c f ta) := by
  refine ⟨fun pins s σ H Q I h => ?_⟩
  obtain ⟨fi, base, nid, iid, bt, qual, fd, a1, a2, q1, q2, q3, q4, O, F, b1, b2⟩ := T.ex
  refine wpAny_Call_Name_kw (ld_glob I hg hm ?_ hdb)
  refine PySem.W.callWith_K (h₀ := X.base) I.ok.mod.kin T.kp (thn (ha.run pos pins s σ H _ I h) fun us s1 hh => ?_) he hpl
  obtain ⟨vs, H1, I1, r1, y, rfl, q⟩ := hh
  obtain ⟨u, rfl, ru⟩ := vals1 r1
  exact ⟨I1.kIn, run_mk1 (us := [u]) (ks := []) O T.fr F T.fs T.fdb hr I1 ru (one_few u) (fun s self => b1 s self u) q⟩
theorem pe_x1k (T : Cl1 X.K c f) (hr : Room 1 X.A) (hm : X.mg x = some (.ref c)) (hg : Gl X x) (hkw : PK X kws ta) (hall : (backToKw pos (keywordEach kws X.env)).all (·.1.isSome) = true := by rfl) (hks : (backToKw pos (keywordEach kws X.env)).filterMap (·.1) = [f] := by rfl)
    (hdb : (x == ("__debug__" : Str)) = false := by decide) (hpl : ((backTo pos (starEach [] X.env)).any (·.1) || (backToKw pos (keywordEach kws X.env)).any (·.1.isNone)) = false := by rfl) : PE X (.Call (.Name x p) [] kws pos) (tX1 c f ta) := by
  refine ⟨fun pins s σ H Q I h => ?_⟩
  obtain ⟨fi, base, nid, iid, bt, qual, fd, a1, a2, q1, q2, q3, q4, O, F, b1, b2⟩ := T.ex
  refine wpAny_Call_Name_kw (ld_glob I hg hm ?_ hdb)
  refine PySem.W.callWith_KW0 (h₀ := X.base) I.ok.mod.kin T.kp hall ?_ hpl
  refine thn (hkw.run pos pins s σ H _ I h) fun ws s2 hh => ?_
  obtain ⟨zs, H2, I2, rz, y, rfl, q⟩ := hh
  obtain ⟨u, rfl, ru⟩ := vals1 rz
  refine ⟨I2.kIn, ?_⟩
  rw [hks]
  exact run_mk1 (us := []) (ks := [(f, u)]) O T.fr F T.fs T.fdb hr I2 ru nil_few (fun s self => b2 s self u) q
theorem pe_x2 (T : Cl2 X.K c f g) (hr : Room 1 X.A) (hm : X.mg x = some (.ref c)) (hg : Gl X x) (ha : PA X (e :: es) ta) (hdb : (x == ("__debug__" : Str)) = false := by decide)
    (he : starEach (e :: es) X.env = (false, eval e X.env) :: starEach es X.env := by rfl) (hpl : (backTo pos (starEach es X.env)).any (·.1) = false := by rfl) : PE X (.Call (.Name x p) (e :: es) [] pos) (tX2 c f g ta) := by
  refine ⟨fun pins s σ H Q I h => ?_⟩
  obtain ⟨fi, base, nid, iid, bt, qual, fd, a1, a2, a3, q1, q2, q3, q4, r1, r2, r3, r4, O, F, b1, b2⟩ := T.ex
  refine wpAny_Call_Name_kw (ld_glob I hg hm ?_ hdb)
  refine PySem.W.callWith_K (h₀ := X.base) I.ok.mod.kin T.kp (thn (ha.run pos pins s σ H _ I h) fun us s1 hh => ?_) he hpl
  obtain ⟨vs, H1, I1, r1, y, z, rfl, q⟩ := hh
  obtain ⟨u, u2, rfl, ru, ru2⟩ := vals2 r1
  exact ⟨I1.kIn, run_mk2 (us := [u, u2]) (ks := []) O T.fr T.gr F T.fs T.gs T.gf T.fdb T.gdb hr I1 ru ru2 (two_few u u2) (fun s self => b1 s self u u2) q⟩
theorem pe_x2k (T : Cl2 X.K c f g) (hr : Room 1 X.A) (hm : X.mg x = some (.ref c)) (hg : Gl X x) (hkw : PK X kws ta) (hall : (backToKw pos (keywordEach kws X.env)).all (·.1.isSome) = true := by rfl) (hks : (backToKw pos (keywordEach kws X.env)).filterMap (·.1) = [g, f] := by rfl)
    (hdb : (x == ("__debug__" : Str)) = false := by decide) (hpl : ((backTo pos (starEach [] X.env)).any (·.1) || (backToKw pos (keywordEach kws X.env)).any (·.1.isNone)) = false := by rfl) : PE X (.Call (.Name x p) [] kws pos) (tX2k c f g ta) := by
  refine ⟨fun pins s σ H Q I h => ?_⟩
  obtain ⟨fi, base, nid, iid, bt, qual, fd, a1, a2, a3, q1, q2, q3, q4, r1, r2, r3, r4, O, F, b1, b2⟩ := T.ex
  refine wpAny_Call_Name_kw (ld_glob I hg hm ?_ hdb)
  refine PySem.W.callWith_KW0 (h₀ := X.base) I.ok.mod.kin T.kp hall ?_ hpl
  refine thn (hkw.run pos pins s σ H _ I h) fun ws s2 hh => ?_
  obtain ⟨zs, H2, I2, rz, y, z, rfl, q⟩ := hh
  obtain ⟨u2, u, rfl, ru2, ru⟩ := vals2 rz
  refine ⟨I2.kIn, ?_⟩
  rw [hks]
  exact run_mk2 (us := []) (ks := [(g, u2), (f, u)]) O T.fr T.gr F T.fs T.gs T.gf T.fdb T.gdb hr I2 ru ru2 nil_few (fun s self => b2 s self u u2) q
theorem inst_at {pins : List (Addr × Obj)} {σ : St} {H : Hp} {s : Shared} {a d : Addr} {fs : List (Str × V)} (I : Inv X pins σ H s) (ea : H a = some (exo a c (some d))) (ed : H d = some (exd d fs)) :
    ∃ ox od, PySem.W.InstAt s.heap a ox c (some od) ∧ ∀ f v, fs.lookup f = some v → ∃ u, PySem.W.lookIn f od = some (some u) ∧ RelV v u := by
  obtain ⟨t1, ho⟩ := exo_at I.hok ea
  obtain ⟨mA, hns, rel⟩ := exd_at I.hok ed
  obtain ⟨od, hod, hl⟩ := lookIn_ns hns
  refine ⟨_, od, ⟨ho, rfl, rfl, hod⟩, fun f v l => ?_⟩
  obtain ⟨u, hu, ru⟩ := RelO.some_of (v := v) (o := mA f) (by rw [← l]; exact rel f)
  exact ⟨u, by rw [hl, hu], ru⟩
theorem pe_xg (he : PE X e te) (hb : attributeBase e f X.env (eval e X.env) = eval e X.env := by rfl) : PE X (.Attribute e f pos) (tXG X.K f te) := by
  refine ⟨fun pins s σ H Q I h => ?_⟩
  refine attr_of hb (thn (he.run pins s σ H _ I h) fun u s1 hh => ?_)
  obtain ⟨x, H1, I1, rx, a, c, d, fs, v, rfl, T, hno, ea, ed, l, q⟩ := hh
  obtain rfl : u = Value.ref a := rx
  obtain ⟨ox, od, J, look⟩ := inst_at I1 ea ed
  obtain ⟨w, lw, rw'⟩ := look f v l
  exact HandSPX.exc_get I1.kIn J T.ga T.gg T.exc (PySem.W.findObj_own T.dct hno rfl lw) (handed_of rw') ⟨v, H1, I1.tok _, rw', q⟩
theorem call_isX : CallR X (.builtin "isinstance") (rIsX X.K) := by
  intro pins s σ H xs us Q I r h
  obtain ⟨a, c, d, fs, k, u, b, rfl, ku, T, ea, ed, e, q⟩ := h
  obtain ⟨u1, u2, rfl, r1, r2⟩ := vals2 r
  have e2 := ku.eq r2
  subst e2
  obtain rfl : u1 = Value.ref a := r1
  obtain ⟨ox, od, J, look⟩ := inst_at I ea ed
  exact PySem.W.kia_one (PySem.W.kitx_exc (by obtain ⟨cd, hc, _⟩ := PySem.W.any_some T.dct; rw [hc]; rfl) T.ga T.gg T.exc T.cA T.cN T.cT T.cM) I.kIn J e (fun z => nomatch z) fun tk => ⟨.bl b, H, I.tok tk, rfl, q⟩
end
end L2


namespace L2
open PySem PySem.Spec PyProof.Rows PySem.KX
/-! repr of data: lists, tuples, dicts of flat values -/
def keyD : Key → PyData
  | .inl i => .int i
  | .inr x => .str x
def leafD : V → PyData
  | .int i => .int i
  | .str x => .str x
  | _ => .none
def leafV (v : V) : Prop := (∃ i, v = .int i) ∨ ∃ x, v = .str x
mutual
inductive Dq (H : Hp) : V → PyData → Prop
  | non : Dq H .non .none
  | bl (b : Bool) : Dq H (.bl b) (.bool b)
  | int (i : Int) : Dq H (.int i) (.int i)
  | str (x : Str) : Dq H (.str x) (.str x)
  | lst {a : Addr} {xs : List V} {ds : List PyData} : H a = some (.lst xs) → sysModules ≠ a → DqAll H xs ds → Dq H (.ref a) (.list ds)
  | tup {a : Addr} {xs : List V} {ds : List PyData} : H a = some (.tup xs) → DqAll H xs ds → Dq H (.ref a) (.tuple ds)
  | dct {a : Addr} {kvs : List (Key × V)} : H a = some (.dK kvs) → (∀ p ∈ kvs, leafV p.2) → Dq H (.ref a) (.dict (kvs.map fun p => (keyD p.1, leafD p.2)))
inductive DqAll (H : Hp) : List V → List PyData → Prop
  | nil : DqAll H [] []
  | cons {v : V} {vs : List V} {d : PyData} {ds : List PyData} : Dq H v d → DqAll H vs ds → DqAll H (v :: vs) (d :: ds)
end
mutual
theorem Dq.mono {H H' : Hp} (s : Same H H') : ∀ {v : V} {d : PyData}, Dq H v d → Dq H' v d
  | _, _, .non => .non
  | _, _, .bl b => .bl b
  | _, _, .int i => .int i
  | _, _, .str x => .str x
  | _, _, .lst h n a => .lst (s _ _ h) n (DqAll.mono s a)
  | _, _, .tup h a => .tup (s _ _ h) (DqAll.mono s a)
  | _, _, .dct h a => .dct (s _ _ h) a
theorem DqAll.mono {H H' : Hp} (s : Same H H') : ∀ {v : List V} {d : List PyData}, DqAll H v d → DqAll H' v d
  | _, _, .nil => .nil
  | _, _, .cons a b => .cons (Dq.mono s a) (DqAll.mono s b)
end
section
variable {X : Cx} {pins : List (Addr × Obj)} {σ : St} {H : Hp} {s : Shared}
theorem reads_keys (h : Heap) {P : Program} {w : World} : ∀ {es : List DictEntry} {vs : List (Key × Value)}, Pairs (mixKind P w) es vs → ReadsAll h (es.map (·.key)) (vs.map fun p => keyD p.1) [] ∧ es.map (·.val) = vs.map (·.2) := by
  intro es vs hp
  induction hp with
  | nil => exact ⟨.nil, rfl⟩
  | @cons e kv es kvs hk hv _ ih =>
    obtain ⟨i1, i2⟩ := ih
    have kd : ∀ k : Key, ∀ u : Value, keyIs k u = true → Reads h u (keyD k) [] := fun k u q => by
      rcases keyIs_shape q with ⟨i, t, rfl, rfl⟩ | ⟨x, t, rfl, rfl⟩
      · exact .int i t
      · exact .str x t
    exact ⟨ReadsAll.cons (as := []) (bs := []) (kd _ _ hk) i1, by rw [List.map_cons, List.map_cons, i2, hv]⟩
theorem reads_leaf {h : Heap} {v : V} {u : Value} (l : leafV v) (r : RelV v u) : Reads h u (leafD v) [] := by
  rcases l with ⟨i, rfl⟩ | ⟨x, rfl⟩
  · obtain ⟨t, rfl⟩ := r
    exact .int i t
  · obtain ⟨t, rfl⟩ := r
    exact .str x t
theorem reads_vals {h : Heap} : ∀ {kvs : List (Key × V)} {vs : List (Key × Value)}, KV kvs vs → (∀ p ∈ kvs, leafV p.2) → ReadsAll h (vs.map (·.2)) (kvs.map fun p => leafD p.2) [] ∧ (vs.map fun p => keyD p.1) = kvs.map fun p => keyD p.1 := by
  intro kvs vs r
  unfold KV at r
  induction r with
  | nil => intro _; exact ⟨.nil, rfl⟩
  | @cons p q ps qs hpq t ih =>
    intro l
    obtain ⟨i1, i2⟩ := ih fun z hz => l z (List.mem_cons_of_mem _ hz)
    refine ⟨ReadsAll.cons (as := []) (bs := []) (reads_leaf (l p List.mem_cons_self) hpq.2) i1, ?_⟩
    rw [List.map_cons, List.map_cons, i2, hpq.1]
mutual
theorem Dq.reads (I : Inv X pins σ H s) : ∀ {v : V} {d : PyData} {u : Value}, Dq H v d → RelV v u → ∃ as, Reads s.heap u d as ∧ sysModules ∉ as
  | _, _, _, .non, r => by cases r; exact ⟨_, .none, nofun⟩
  | _, _, _, .bl b, r => by cases r; exact ⟨_, .bool b, nofun⟩
  | _, _, _, .int i, r => by obtain ⟨t, rfl⟩ := r; exact ⟨_, .int i t, nofun⟩
  | _, _, _, .str x, r => by obtain ⟨t, rfl⟩ := r; exact ⟨_, .str x t, nofun⟩
  | _, _, _, .lst h n a, r => by
    cases r
    obtain ⟨its, rv, ⟨o, m, ho, hc, _, hd⟩, _⟩ := I.list (SqL.of h)
    obtain ⟨as, hr, hn⟩ := DqAll.reads I a rv
    exact ⟨_, Reads.list ho hc hd hr, fun z => by rcases List.mem_cons.mp z with e | e; exact n e; exact hn e⟩
  | _, _, _, .tup h a, r => by
    cases r
    obtain ⟨its, rv, ⟨o, ho, hc, m, hd⟩, _⟩ := I.tuple (SqT.of h)
    obtain ⟨as, hr, hn⟩ := DqAll.reads I a rv
    exact ⟨_, Reads.tuple ho hc hd hr, hn⟩
  | _, _, _, .dct (a := a) (kvs := kvs) h l, r => by
    cases r
    obtain ⟨_, hs, vs, rv, o, es, ep, h1, h2, h3, _, h5, _⟩ := (show ObjOk X.prog X.w H s.heap a (.dK kvs) from I.hok a _ h)
    obtain ⟨k1, k2⟩ := reads_keys s.heap h5
    obtain ⟨v1, v2⟩ := reads_vals (h := s.heap) rv l
    refine ⟨_, Reads.dict (as := []) (bs := []) h1 h2.1 h3 ?_ ?_, ?_⟩
    · rw [List.map_map]
      rw [v2] at k1
      exact k1
    · rw [k2, List.map_map]
      exact v1
    · intro z
      simp at z
      rw [← z] at hs
      simp at hs
theorem DqAll.reads (I : Inv X pins σ H s) : ∀ {v : List V} {d : List PyData} {u : List Value}, DqAll H v d → Vals v u → ∃ as, ReadsAll s.heap u d as ∧ sysModules ∉ as
  | _, _, _, .nil, r => by cases r; exact ⟨_, .nil, nofun⟩
  | _, _, _, .cons a b, r => by
    cases r with
    | cons r1 r2 =>
      obtain ⟨as, q1, n1⟩ := Dq.reads I a r1
      obtain ⟨bs, q2, n2⟩ := DqAll.reads I b r2
      exact ⟨_, .cons q1 q2, fun z => by rcases List.mem_append.mp z with e | e; exact n1 e; exact n2 e⟩
end
end
section
variable {X : Cx}
/-- a list display, new, not sys.modules -/
def tLstN (t : TA) : TE := fun σ H Q => t σ H fun xs H1 => xs.length ≤ sizeLine ∧ ∀ l, H1 l = none → sysModules ≠ l → Q (.ref l) (upd H1 l (.lst xs))
theorem pe_lstN {es : List Expr} {t : TA} {pos : Pos} (h : PA X es t) : PE X (.List es pos) (tLstN t) := by
  refine ⟨fun pins s σ H Q I hq => ?_⟩
  refine wpAny_List_spliced (thn (h.run pos pins s σ H _ I hq) fun us s1 hh => ?_)
  obtain ⟨xs, H1, I1, r, z, q⟩ := hh
  refine ⟨by rw [← r.length]; exact z, .ref s1.heap.objs.size, upd H1 s1.heap.objs.size (.lst xs), I1.laid (t' := s1.toks) (fun b u e => Heap.get?_push_of_some _ e) (Nat.le_refl _) ⟨z, us, 0, r, Heap.get?_push_size _ rfl⟩, rfl, ?_⟩
  exact q _ (I1.hok.fresh (Nat.le_refl _)) (Nat.ne_of_lt I1.big)
/-- repr(x), x a list or a tuple or a dict -/
def rShow (xs : List V) (H : Hp) (Q : VK) : Prop := ∃ (a : Addr) (d : PyData), xs = [.ref a] ∧ Dq H (.ref a) d ∧ d.showable = true ∧ d.depth ≤ 20 ∧ d.shown.length ≤ sizeLine ∧ Q (.str d.shown) H
theorem call_repD (hr : Room 1 X.A) (hg : X.A.guards = some []) : CallR X (.builtin "repr") rShow := by
  intro pins s σ H xs us Q I r h
  obtain ⟨a, d, rfl, hd, hs, hdp, hz, q⟩ := h
  obtain ⟨u, rfl, ru⟩ := vals1 r
  obtain ⟨as, hr1, hn⟩ := Dq.reads I hd ru
  cases ru
  refine repr_of_reads' hr1 hs (fun _ => hn) hg ?_ (fun _ _ e => e) (fun h' u tk k => ?_) hz
  · have := hr.un
    omega
  · exact ⟨.str d.shown, H, I.kept (t' := tk) k, ⟨_, rfl⟩, q⟩
end
end L2


namespace L2
open PySem PySem.Spec PyProof.Rows PySem.KX
/-! The law's own def, run by its caller alone (so that what runs around it is known: repr asks that). -/
/-- the body of the law, in the caller's surroundings -/
def BodyOk (P : Program) (w : World) (K : PySem.W.Frag) (mg : Str → Option Value) (base : Heap) (k : Nat) (N : List Str) (qual : Str) (sc : Scope) (body : List Stmt) (f : Addr) (sp : Sp) : Prop :=
  ∀ (cdv : Value) (s : Shared) (H : Hp) (vs : List V) (Q : VK) (E : XK), Room k (callerA.deeper (envOfC qual sc s.heap.objs.size f cdv)) → sp vs H Q E →
    ∃ t, PSs (cxOf CX0 P w K mg base N qual sc f cdv callerA [] s H E) body t ∧ t { nx := fun _ H' => Q .non H', rt := Q } (start N vs) H
section
variable {P : Program} {w : World} {K : PySem.W.Frag} {mg : Str → Option Value} {base : Heap} {k : Nat} {f : Addr} {x qual : Str} {params : Arguments} {body : List Stmt} {sc : Scope} {N ps : List Str} {sp : Sp} {fd : FuncData}
theorem body_run (F : FunD K x qual params body sc [] [] f fd) (S : FnScope N ps sc) (B : BodyOk P w K mg base k N qual sc body f sp) {s : Shared} {H : Hp} {args : Args} {us : List Value} {vs : List V} {Q : VK} {E : XK} (hr : Room (k + 1) callerA)
    (e0 : Env0 P w K mg base callerA [] s H) (hb : BindsTo s fd args (ps.zip us)) (r : Vals vs us) (hl : vs.length = ps.length) (h : sp vs H Q E) : codeAny (model P w) callerA (.call (.ref f) args) (CR CX0 [] P w H s Q E) s := by
  obtain ⟨oc, od, dV, kV, doc, pm, an, cdv, ct, osl, rfl, lk, hcd, _, _⟩ := F.ex
  have up : ∀ b o, base.get? b = some o → s.heap.get? b = some o := fun b o e => (e0.bs b o e).1
  have KX : K.In s.heap := e0.mod.kin.keeps up
  have kinds : ∀ y ∈ ps.zip us, sc.names.lookup y.1 = some .local ∨ (sc.names.lookup y.1 = some .cell ∧ ((cellsFrom (s.heap.objs.size + 1) sc.names []).lookup y.1).isSome = true) := by
    rintro ⟨n, v⟩ hy
    exact (S.par n (List.of_mem_zip hy).1).imp id fun q => ⟨q, PySem.W.cellsFrom_some _ _ _ (.inl q)⟩
  refine codeAny_call_function hr.depth (KX _ _ lk) rfl S.co S.gen rfl (PySem.W.codeRec_of KX hcd) (hb _ _ _ _ (wpAny_newFunctionEnv_cells S.kind kinds fun env he s1 x => ?_))
  subst he
  obtain ⟨t, ht, hq⟩ := B cdv s H vs Q E (hr.deeper _) h
  refine ⟨(e0.mod.nolimit.keeps up).keeps x.toInCall.keep, codeAny_func (wpAny_mono (ht.run [] s1 (start N vs) H _ (inv_start S hr.hd e0 hl r x) hq) (fun fl s' hs => ?_) fun e s' hs => hs)⟩
  cases fl with
  | ret u =>
    obtain ⟨v, σ', H', J, rv, q⟩ := hs
    exact ⟨v, H', J.os, J.bare, J.base, J.hok, rv, q⟩
  | next =>
    obtain ⟨σ', H', J, q⟩ := hs
    exact ⟨V.non, H', J.os, J.bare, J.base, J.hok, rfl, q⟩
  | brk =>
    obtain ⟨_, _, _, q⟩ := hs
    exact False.elim q
  | cont =>
    obtain ⟨_, _, _, q⟩ := hs
    exact False.elim q
end
end L2
namespace L2
open PySem PySem.Spec PyProof.Rows PySem.KX
section
variable {P : Program} {w : World} {K : PySem.W.Frag} {mg mb : Str → Option Value} {k : Nat} {a fa : Addr} {x qual nm : Str} {params : Arguments} {body : List Stmt} {sc : Scope} {N : List Str} {sp : Sp} {fd : FuncData} {s : Shared} {vs : List Value} {ns : List Int}
/-- where the abstract heap tracks the script alone (or nothing) -/
theorem ground_of {H : Hp} (KX : K.In s.heap) (g : s.heap.Ns mainGlobals mg) (b : s.heap.Ns builtinsNs mb) (bb : ∀ x : Str, x ≠ "__name__" → mb x = bootBuiltins x) (lim : s.heap.NoLimit) (gen : s.gens = #[])
    (ha : s.heap.get? a = some { cls := .type "list", data := .seq vs.toArray }) (hok : HOk P w H s.heap) (only : ∀ c, H c ≠ none → c = a) (out : H a ≠ none → K.lookup a = none) :
    ∃ base : Heap, K.In base ∧ base.Ns mainGlobals mg ∧ Env0 P w K mg base callerA [] s H := by
  have get : ∀ {c : Addr} {o : Obj}, s.heap.get? c = some o → H c = none → (hidT s.heap H).get? c = some o := fun e n => hidT_get e n
  have tab : ∀ {c : Addr} {m : Str → Option Value}, s.heap.Ns c m → (hidT s.heap H).Ns c m := by
    rintro c m ⟨o, es, ep, e, d, r⟩
    refine ⟨o, es, ep, get e (Classical.byContradiction fun q => ?_), d, r⟩
    have ca := only c q
    subst ca
    rw [ha] at e
    cases e
    cases (show Data.seq vs.toArray _ = Data.dict es ep from d)
  have kin : K.In (hidT s.heap H) := fun c o e => get (KX c o e) (Classical.byContradiction fun q => by
    have ca := only c q
    subst ca
    rw [out q] at e
    cases e)
  obtain ⟨mc, l1, l2⟩ := lim
  exact ⟨hidT s.heap H, kin, tab g, rfl, ⟨kin, tab g, ⟨mb, tab b, bb⟩, mc, tab l1, l2⟩, fun c o e => of_hidT e, Nat.le_of_eq (hidT_size _ _), trivial, (fun c hc => nomatch hc), hok, .of_eq gen⟩
theorem law_run (F : FunD K nm qual params body sc [] [] fa fd) (S : FnScope N [x] sc) (B : ∀ base : Heap, K.In base → base.Ns mainGlobals mg → BodyOk P w K mg base k N qual sc body fa sp) (hb : ∀ (s : Shared) (u : Value), BindsTo s fd ⟨[u], []⟩ [(x, u)]) (hr : Room (k + 1) callerA)
    (hsp : ∀ H : Hp, SqL K H a (ns.map V.int) → sp [.ref a] H (fun v _ => v = .bl true) fun _ _ _ => False)
    (KX : K.In s.heap) (g : s.heap.Ns mainGlobals mg) (b : s.heap.Ns builtinsNs mb) (bb : ∀ x : Str, x ≠ "__name__" → mb x = bootBuiltins x) (lim : s.heap.NoLimit) (gen : s.gens = #[])
    (ha : s.heap.get? a = some { cls := .type "list", data := .seq vs.toArray }) (hi : IntsAre vs ns) (hl : ns.length ≤ sizeLine) :
    codeAny (model P w) callerA (.call (.ref fa) ⟨[.ref a], []⟩) (fun r s' => r = .ok (.ret (.bool true)) ∧ OldK s.heap s'.heap ∧ s'.os = s.os ∧ AllBare s'.gens) s := by
  have run : ∀ H : Hp, SqL K H a (ns.map V.int) → HOk P w H s.heap → (∀ c, H c ≠ none → c = a) → (H a ≠ none → K.lookup a = none) → (∀ c u, H c = some u → ∃ o xs, u = .frz o (.lst xs)) →
      codeAny (model P w) callerA (.call (.ref fa) ⟨[.ref a], []⟩) (fun r s' => r = .ok (.ret (.bool true)) ∧ OldK s.heap s'.heap ∧ s'.os = s.os ∧ AllBare s'.gens) s := by
    intro H hS hok only out frz
    obtain ⟨base, k1, k2, e0⟩ := ground_of KX g b bb lim gen ha hok only out
    refine codeAny_mono (body_run (us := [.ref a]) (vs := [.ref a]) F S (B base k1 k2) hr e0 (hb s (.ref a)) (.cons rfl .nil) rfl (hsp H hS)) fun r s' q => ?_
    cases r with
    | error e => exact False.elim q
    | ok fl =>
      cases fl with
      | next => exact False.elim q
      | brk => exact False.elim q
      | cont => exact False.elim q
      | ret u =>
        obtain ⟨v, H', os, bare, un, hok', rv, ev⟩ := q
        have ev' : v = .bl true := ev
        subst ev'
        obtain rfl : u = Value.bool true := rv
        refine ⟨rfl, OldK.of_keep fun c o e => ?_, os, bare⟩
        cases q : H c with
        | none => exact un.keep c o e q (fun z => nomatch z) (fun z => nomatch z)
        | some u =>
          obtain ⟨ob, xs, rfl⟩ := frz c u q
          obtain ⟨e1, _⟩ := hok c _ q
          obtain ⟨e2, _⟩ := hok' c _ (un.frzs c ob _ q)
          rw [e] at e1
          cases e1
          exact e2
  have rv := vals_ints hi
  cases hk : K.lookup a with
  | some o =>
    have e := KX a o hk
    rw [ha] at e
    cases e
    exact run (fun _ => none) (.inr ⟨_, vs.toArray, _, hk, rfl, rfl, rfl, by rw [List.size_toArray, hi.length]; exact hl, by simpa using rv⟩) (fun c u z => nomatch z) (fun c z => absurd rfl z) (fun z => absurd rfl z) fun c u z => nomatch z
  | none =>
    refine run (fun c => if c = a then some (.frz { cls := .type "list", data := .seq vs.toArray } (.lst (ns.map V.int))) else none) (.inl (.inr ⟨{ cls := .type "list", data := .seq vs.toArray }, if_pos rfl⟩)) (fun c u z => ?_)
      (fun c z => Classical.byContradiction fun q => z (if_neg q)) (fun _ => hk) fun c u z => ?_
    · by_cases hc : c = a
      · have z' := (if_pos hc).symm.trans z
        cases z'
        subst hc
        exact ⟨ha, by rw [List.length_map]; exact hl, vs, _, rv, ha⟩
      · cases (if_neg hc).symm.trans z
    · by_cases hc : c = a
      · cases (if_pos hc).symm.trans z
        exact ⟨_, _, rfl⟩
      · cases (if_neg hc).symm.trans z
end
/-- the end -/
theorem walkG {l : PySem.W.OpenLaw} {n k : Nat} {q : Program} {loose : List Str} {XP : (Str → Option Value) → Heap → Prop} {YP : World → Heap → Prop} {d : DefRec} {x : Str} (hn : l.most = some n) (hn2 : n ≤ sizeLine) (hdf : d.params.defaults = []) (hr : Room (k + 1) callerA)
    (F : ∀ (w : World) (mg : Str → Option Value) (fa : Addr) (h : Heap), YP w h → h.Ns mainGlobals mg → mg d.name = some (.ref fa) →
      ∃ (K : PySem.W.Frag) (fd : FuncData) (nm qual : Str) (params : Arguments) (body : List Stmt) (sc : Scope) (N : List Str) (sp : Sp), K.In h ∧ FunD K nm qual params body sc [] [] fa fd ∧ FnScope N [x] sc ∧ (∀ (s : Shared) (u : Value), BindsTo s fd ⟨[u], []⟩ [(x, u)]) ∧
        (∀ (H : Hp) (a : Addr) (ns : List Int), ns.length ≤ n → SqL K H a (ns.map V.int) → sp [.ref a] H (fun v _ => v = .bl true) fun _ _ _ => False) ∧
        ∀ base : Heap, K.In base → base.Ns mainGlobals mg → BodyOk l.prog w K mg base k N qual sc body fa sp) :
    PySem.W.WalkO q loose XP YP l.row.toRowW d [] (fun f vs => PySem.call f vs) := by
  refine Att.attach_call hn hdf fun w s₀ s₁ mg mb fa o pm cd doc a vs ns G Y ho hd hcd hmg hobj hints hlen hg => ?_
  obtain ⟨K, fd, nm, qual, params, body, sc, N, sp, KX, FD, S, hb, hsp, B⟩ := F w mg fa _ Y G.T.g hmg
  exact law_run FD S B hb hr (fun H hS => hsp H a ns hlen hS) KX G.T.g G.T.b G.T.builtins G.T.nolimit hg hobj hints (Nat.le_trans hlen hn2)
end L2


namespace Toy
open PySem L2
/-! displays of data: the expression e makes the datum dt, of new objects alone, none of them at z -/
def Makes (z : Addr) (te : TE) (dt : PyData) : Prop := ∀ (σ : St) (H : Hp) (Q : VK), (∃ o, H z = some o) → (∀ v H', Same H H' → Dq (delH H' z) v dt → Q v H') → te σ H Q
def MakesA (z : Addr) (ta : TA) (ds : List PyData) : Prop := ∀ (σ : St) (H : Hp) (Q : List V → Hp → Prop), (∃ o, H z = some o) → (∀ vs H', Same H H' → DqAll (delH H' z) vs ds → Q vs H') → ta σ H Q
def MkE (X : Cx) (z : Addr) (e : Expr) (dt : PyData) : Prop := ∃ te, PE X e te ∧ Makes z te dt
def MkA (X : Cx) (z : Addr) (es : List Expr) (ds : List PyData) : Prop := ∃ ta, PA X es ta ∧ MakesA z ta ds
theorem Same.delH {H H' : Hp} (s : Same H H') (z : Addr) : Same (L2.delH H z) (L2.delH H' z) := fun b o e => by
  by_cases h : b = z
  · rw [h, delH_same] at e
    cases e
  · rw [delH_ne h] at e ⊢
    exact s b o e
theorem Same.off {H : Hp} (z : Addr) : Same (L2.delH H z) H := fun b o e => by
  by_cases h : b = z
  · rw [h, delH_same] at e
    cases e
  · rw [delH_ne h] at e
    exact e
theorem But.off {H H' : Hp} {z : Addr} (s : But z H H') : Same (L2.delH H z) (L2.delH H' z) := fun b o e => by
  by_cases h : b = z
  · rw [h, delH_same] at e
    cases e
  · rw [delH_ne h] at e ⊢
    exact s b o h e
theorem Same.but {H H' : Hp} (s : Same H H') (z : Addr) : But z H H' := fun b o _ e => s b o e
theorem dq_len {H : Hp} : ∀ {vs : List V} {ds : List PyData}, DqAll H vs ds → vs.length = ds.length
  | _, _, .nil => rfl
  | _, _, .cons _ r => congrArg Nat.succ (dq_len r)
theorem dq_mem {H : Hp} : ∀ {vs : List V} {ds : List PyData}, DqAll H vs ds → ∀ v ∈ vs, ∃ d ∈ ds, Dq H v d
  | _, _, .nil, _, h => nomatch h
  | _, _, .cons a r, v, h => by
    rcases List.mem_cons.mp h with e | e
    · exact ⟨_, List.mem_cons_self, e ▸ a⟩
    · obtain ⟨d, m, q⟩ := dq_mem r v e
      exact ⟨d, List.mem_cons_of_mem _ m, q⟩
theorem dq_app {H : Hp} : ∀ {vs us : List V} {ds es : List PyData}, DqAll H vs ds → DqAll H us es → DqAll H (vs ++ us) (ds ++ es)
  | _, _, _, _, .nil, b => b
  | _, _, _, _, .cons a r, b => .cons a (dq_app r b)
section
variable {X : Cx} {z : Addr} {e : Expr} {es : List Expr} {dt : PyData} {ds : List PyData} {pos : Pos} {k : Nat}
theorem mk_val {v : V} (h : PE X e (tC v)) (hd : ∀ H, Dq H v dt) : MkE X z e dt := ⟨_, h, fun _ H _ _ q => q v H (fun _ _ z => z) (hd _)⟩
theorem mk_int {i : Int} {k : Nat} : MkE X z (.Constant (.int i) k pos) (.int i) := mk_val pe_int fun _ => .int i
theorem mk_str {x : Str} {k : Nat} : MkE X z (.Constant (.str x) k pos) (.str x) := mk_val pe_str fun _ => .str x
theorem mk_bl {b : Bool} {k : Nat} : MkE X z (.Constant (.bool b) k pos) (.bool b) := mk_val pe_bl fun _ => .bl b
theorem mk_non {k : Nat} : MkE X z (.Constant .none k pos) .none := mk_val pe_non fun _ => .non
theorem mk_neg {i : Int} {k : Nat} {p : Pos} : MkE X z (.UnaryOp .USub (.Constant (.int i) k p) pos) (.int (-i)) := ⟨_, pe_un un_neg pe_int, fun _ H _ _ q => ⟨i, rfl, q _ H (fun _ _ z => z) (.int _)⟩⟩
theorem mk_pow {i j : Int} {k k' : Nat} {p p' : Pos} (h : 0 ≤ j ∧ j ≤ 1000000 ∧ i.natAbs < 2 ^ 64) : MkE X z (.BinOp (.Constant (.int i) k p) .Pow (.Constant (.int j) k' p') pos) (.int (i ^ j.toNat)) :=
  ⟨_, pe_op op_pow pe_int pe_int, fun _ H _ _ q => ⟨i, j, rfl, rfl, h, q _ H (fun _ _ z => z) (.int _)⟩⟩
theorem mk_nil : MkA X z [] [] := ⟨_, pa_nil, fun _ H _ _ q => q [] H (fun _ _ z => z) .nil⟩
theorem mk_cons (a : MkE X z e dt) (r : MkA X z es ds) (he : starEach (e :: es) X.env = (false, eval e X.env) :: starEach es X.env := by rfl) : MkA X z (e :: es) (dt :: ds) := by
  obtain ⟨te, p1, m1⟩ := a
  obtain ⟨ta, p2, m2⟩ := r
  refine ⟨_, pa_cons p1 p2 he, fun σ H Q hz q => ?_⟩
  refine m1 σ H _ hz fun v H1 s1 d1 => ?_
  obtain ⟨o, ho⟩ := hz
  exact m2 σ H1 _ ⟨o, s1 _ _ ho⟩ fun vs H2 s2 d2 => q (v :: vs) H2 (s1.trans s2) (.cons (d1.mono (Same.delH s2 z)) d2)
theorem del_new {H : Hp} {p z : Addr} {u : HO} (h : p ≠ z) : delH (upd H p u) z p = some u := by
  rw [delH_ne h, upd_same]
theorem mk_tup {x1 : Nat} (a : MkA X z es ds) (h : ds.length ≤ 1000) : MkE X z (.Tuple es x1 pos) (.tuple ds) := by
  obtain ⟨ta, p1, m1⟩ := a
  refine ⟨_, pe_tup p1, fun σ H Q hz q => m1 σ H _ hz fun vs H1 s1 d1 => ⟨?_, fun p np => ?_⟩⟩
  · rw [dq_len d1]
    exact Nat.le_of_lt (small1000 h)
  · obtain ⟨o, ho⟩ := hz
    have npz : p ≠ z := (ne_of_none (s1 _ _ ho) np).symm
    exact q _ _ (same_new s1 np) (.tup (del_new npz) (d1.mono (Same.delH (same_new (fun _ _ z => z) np) z)))
theorem mk_lst (a : MkA X z es ds) (h : ds.length ≤ 1000) : MkE X z (.List es pos) (.list ds) := by
  obtain ⟨ta, p1, m1⟩ := a
  refine ⟨_, pe_lstN p1, fun σ H Q hz q => m1 σ H _ hz fun vs H1 s1 d1 => ⟨?_, fun p np ns => ?_⟩⟩
  · rw [dq_len d1]
    exact Nat.le_of_lt (small1000 h)
  · obtain ⟨o, ho⟩ := hz
    have npz : p ≠ z := (ne_of_none (s1 _ _ ho) np).symm
    exact q _ _ (same_new s1 np) (.lst (del_new npz) ns (d1.mono (Same.delH (same_new (fun _ _ z => z) np) z)))
theorem mk_d0 : MkE X z (.Dict [] [] pos) (.dict []) := by
  refine ⟨_, pe_dnewK, fun σ H Q hz q p np => ?_⟩
  obtain ⟨o, ho⟩ := hz
  exact q _ _ (same_new (fun _ _ z => z) np) (.dct (kvs := []) (del_new (ne_of_none ho np).symm) (fun _ h => nomatch h))
theorem mk_d1 {e1 e2 : Expr} {x y : V} {ky : Key} (h1 : PE X e1 (tC x)) (h2 : PE X e2 (tC y)) (hk : x = kV ky) (hy : leafV y) : MkE X z (.Dict [some e1] [e2] pos) (.dict [(keyD ky, leafD y)]) := by
  refine ⟨_, pe_disp (pps_cons h1 h2 pps_nil) (by rfl) (by rfl) (fun z => by cases z) (by show 1 ≤ 15; decide), fun σ H Q hz q p np => ?_⟩
  obtain ⟨o, ho⟩ := hz
  refine ⟨upd_same, [(ky, y)], by rw [hk]; rfl, (by show 1 ≤ 15; decide), ?_⟩
  have e : mergeK [] [(ky, y)] = [(ky, y)] := rfl
  have e2 : upd (upd H p (.dK [])) p (.dK (mergeK [] [(ky, y)])) = upd H p (.dK [(ky, y)]) := by
    funext b
    by_cases hb : b = p
    · rw [hb, upd_same, upd_same, e]
    · rw [upd_ne hb, upd_ne hb, upd_ne hb]
  rw [e2]
  exact q _ _ (same_new (fun _ _ z => z) np) (.dct (kvs := [(ky, y)]) (del_new (ne_of_none ho np).symm) (fun p h => by
    rw [List.mem_singleton.mp h]
    exact hy))
end
/-! ### the menu -/
abbrev sOdd : Stmt := top 34
def sS (x : Str) : PyData := .str x
def m1 : List PyData := [.none, .bool true, .bool false, .int 0, .int 1, .int (-1), .int 7, .int (10 ^ (60 : Int).toNat), sS "", sS "a", sS "same", sS "A", sS "a b", .tuple [], .list [], .dict [], .tuple [sS "a"], .list [sS "a"], .tuple [.int 0]]
def m2 : List PyData := [.tuple [sS "same"], .list [sS "same"], .tuple [sS "field", sS "a"], .tuple [sS "item", .int 0], .tuple [sS "item", .bool true], .tuple [sS "leaf", .int 1], .dict [(keyD (.inr "a"), leafD (.int 1))], .dict [(keyD (.inl 1), leafD (.str "a"))]]
def m3 : List PyData := [.tuple [sS "name", sS "x"], .tuple [sS "is", sS "list"], .tuple [sS "every", .tuple []], .tuple [sS "fail", .int 1], .tuple [.tuple []], .list [.tuple []], .list [.list []], .tuple [.none], .tuple [sS "pipe"]]
def m4 : List PyData := [.int 3, .int (-3), .int 99, .int 100, sS "abcdefghi", sS "null", .tuple [sS "equal", .none], .tuple [.bool true], .tuple [.int 0, .int 0], .tuple [sS "a", .int 0]]
def menu : List PyData := (m1 ++ m2) ++ m3 ++ m4
def Small (d : PyData) : Prop := d.showable = true ∧ d.depth ≤ 5 ∧ d.shown.length ≤ 100
theorem menu_small : ∀ d ∈ menu, Small d := by
  have z : menu.all (fun d => d.showable && decide (d.depth ≤ 5) && decide (d.shown.length ≤ 100)) = true := by decide +kernel
  intro d hd
  have q := List.all_eq_true.mp z d hd
  simp only [Bool.and_eq_true, decide_eq_true_eq] at q
  exact ⟨q.1.1, q.1.2, q.2⟩
def spOdd : Sp := fun vs H Q _ => ∃ (d : Addr) (n : Nat), vs = [.ref d] ∧ Tape H d n ∧ n ≤ 1000000 ∧ ∀ H' v dt, But d H H' → Tape H' d (n + 1) → dt ∈ menu → Dq (delH H' d) v dt → Q v H'
theorem Tape.same {H H' : Hp} {d : Addr} {n : Nat} (t : Tape H d n) (s : Same H H') : Tape H' d n := by
  obtain ⟨l, ns, a, f, h1, h2, h3⟩ := t
  exact ⟨l, ns, a, f, s _ _ h1, s _ _ h2, h3⟩
section
variable {P : Program} {w : World} {K : PySem.W.Frag} {mg : Str → Option Value} {base : Heap}
theorem scO : FnScope ["_law_tape", "_law_some"] ["_law_tape"] (defScope sOdd) := ⟨rfl, rfl, rfl, by decide +kernel, rfl, by decide +kernel, by decide +kernel⟩
abbrev partOf (st : Stmt) (i : Nat) : Stmt := (defBody st).getD i (.Pass ⟨0, 0, 0, 0⟩)
/-- the items of the list that a statement sets, adds, or hands on as the last thing -/
def elts : Stmt → List Expr
  | .Assign _ (.List es _) _ => es
  | .Assign _ (.BinOp _ _ (.List es _) _) _ => es
  | .Return (some (.Call _ [_, .BinOp _ _ (.List es _) _] _ _)) _ => es
  | _ => []
section
variable {X : Cx} {z : Addr}
theorem a1 : MkA X z (elts (partOf sOdd 0)) m1 :=
  mk_cons mk_non (mk_cons mk_bl (mk_cons mk_bl (mk_cons mk_int (mk_cons mk_int (mk_cons mk_neg (mk_cons mk_int (mk_cons (mk_pow ⟨by decide, by decide, by decide⟩)
    (mk_cons mk_str (mk_cons mk_str (mk_cons mk_str (mk_cons mk_str (mk_cons mk_str (mk_cons (mk_tup mk_nil (by decide)) (mk_cons (mk_lst mk_nil (by decide)) (mk_cons mk_d0
    (mk_cons (mk_tup (mk_cons mk_str mk_nil) (by decide)) (mk_cons (mk_lst (mk_cons mk_str mk_nil) (by decide)) (mk_cons (mk_tup (mk_cons mk_int mk_nil) (by decide)) mk_nil))))))))))))))))))
theorem a2 : MkA X z (elts (partOf sOdd 1)) m2 :=
  mk_cons (mk_tup (mk_cons mk_str mk_nil) (by decide)) (mk_cons (mk_lst (mk_cons mk_str mk_nil) (by decide)) (mk_cons (mk_tup (mk_cons mk_str (mk_cons mk_str mk_nil)) (by decide))
    (mk_cons (mk_tup (mk_cons mk_str (mk_cons mk_int mk_nil)) (by decide)) (mk_cons (mk_tup (mk_cons mk_str (mk_cons mk_bl mk_nil)) (by decide)) (mk_cons (mk_tup (mk_cons mk_str (mk_cons mk_int mk_nil)) (by decide))
    (mk_cons (mk_d1 pe_str pe_int rfl (.inl ⟨_, rfl⟩)) (mk_cons (mk_d1 (ky := .inl 1) pe_int pe_str rfl (.inr ⟨_, rfl⟩)) mk_nil)))))))
theorem a3 : MkA X z (elts (partOf sOdd 2)) m3 :=
  mk_cons (mk_tup (mk_cons mk_str (mk_cons mk_str mk_nil)) (by decide)) (mk_cons (mk_tup (mk_cons mk_str (mk_cons mk_str mk_nil)) (by decide)) (mk_cons (mk_tup (mk_cons mk_str (mk_cons (mk_tup mk_nil (by decide)) mk_nil)) (by decide))
    (mk_cons (mk_tup (mk_cons mk_str (mk_cons mk_int mk_nil)) (by decide)) (mk_cons (mk_tup (mk_cons (mk_tup mk_nil (by decide)) mk_nil) (by decide)) (mk_cons (mk_lst (mk_cons (mk_tup mk_nil (by decide)) mk_nil) (by decide))
    (mk_cons (mk_lst (mk_cons (mk_lst mk_nil (by decide)) mk_nil) (by decide)) (mk_cons (mk_tup (mk_cons mk_non mk_nil) (by decide)) (mk_cons (mk_tup (mk_cons mk_str mk_nil) (by decide)) mk_nil))))))))
theorem a4 : MkA X z (elts (partOf sOdd 3)) m4 :=
  mk_cons mk_int (mk_cons mk_neg (mk_cons mk_int (mk_cons mk_int (mk_cons mk_str (mk_cons mk_str (mk_cons (mk_tup (mk_cons mk_str (mk_cons mk_non mk_nil)) (by decide)) (mk_cons (mk_tup (mk_cons mk_bl mk_nil) (by decide))
    (mk_cons (mk_tup (mk_cons mk_int (mk_cons mk_int mk_nil)) (by decide)) (mk_cons (mk_tup (mk_cons mk_str (mk_cons mk_int mk_nil)) (by decide)) mk_nil)))))))))
end
theorem few {n : Nat} (h : n ≤ 1000) : n ≤ sizeLine := Nat.le_of_lt (small1000 h)
theorem grow {z l : Addr} {σ : St} {H : Hp} {Q : VK} {ta : TA} {m ds : List PyData} {xs : List V} (k : MakesA z ta m) (hm : ds.length + m.length ≤ 1000) (hσ : σ[1]? = some (some (.ref l))) (hz : ∃ o, H z = some o) (hl : H l = some (.lst xs)) (hd : DqAll (delH H z) xs ds)
    (q : ∀ p x2 H', Same H H' → H' p = some (.lst (xs ++ x2)) → DqAll (delH H' z) (xs ++ x2) (ds ++ m) → Q (.ref p) H') : tOp rCat (tVar 1) (tLst ta) σ H Q := by
  obtain ⟨o, ho⟩ := hz
  refine ⟨_, hσ, k _ _ _ ⟨o, ho⟩ fun x2 H1 s1 d1 => ⟨few (by rw [dq_len d1]; omega), fun l2 n2 => ?_⟩⟩
  have s2 := same_new (u := .lst x2) s1 n2
  refine ⟨l, l2, xs, x2, rfl, rfl, s2 _ _ hl, upd_same, few (by rw [dq_len d1, dq_len hd]; omega), fun p np => ?_⟩
  have s3 := same_new (u := .lst (xs ++ x2)) s2 np
  refine q p x2 _ s3 upd_same (dq_app (hd.mono (Same.delH s3 z)) ?_)
  exact d1.mono (Same.delH (same_new (same_new (fun _ _ z => z) n2) np) z)
theorem ok_odd {f fP : Addr} {fd fdP : FuncData} (F : Fun K "_law_odd" "_law_odd" sOdd f fd) (GP : FnOk P w K mg base CX0 2 fP fdP ["_law_tape", "_law_items"] spPick) (mP : mg "_law_pick" = some (.ref fP)) (kP : PySem.W.keepIn K (.ref fP) = true) (bP : Binds K fdP ["_law_tape", "_law_items"] []) : FnOk P w K mg base CX0 3 f fd ["_law_tape"] spOdd := by
  refine F.ok scO (fun vs H Q E h => ?_) (fun cdv A outer s H vs Q E hr h => ?_)
  · obtain ⟨d, n, rfl, _⟩ := h
    rfl
  · obtain ⟨d, n, rfl, hT, hn, q⟩ := h
    obtain ⟨t1, p1, k1⟩ := a1 (X := (cxOf CX0 P w K mg base ["_law_tape", "_law_some"] "_law_odd" (defScope sOdd) f cdv A outer s H E).nox) (z := d)
    obtain ⟨t2, p2, k2⟩ := a2 (X := (cxOf CX0 P w K mg base ["_law_tape", "_law_some"] "_law_odd" (defScope sOdd) f cdv A outer s H E).nox) (z := d)
    obtain ⟨t3, p3, k3⟩ := a3 (X := (cxOf CX0 P w K mg base ["_law_tape", "_law_some"] "_law_odd" (defScope sOdd) f cdv A outer s H E).nox) (z := d)
    obtain ⟨t4, p4, k4⟩ := a4 (X := (cxOf CX0 P w K mg base ["_law_tape", "_law_some"] "_law_odd" (defScope sOdd) f cdv A outer s H E).nox) (z := d)
    refine ⟨_, pss_cons (ps_set (i := 1) scO.nd rfl (Or.inl rfl) (pe_lst p1)) (pss_cons (ps_set (i := 1) scO.nd rfl (Or.inl rfl) (pe_op op_cat (pv 1) (pe_lst p2))) (pss_cons (ps_set (i := 1) scO.nd rfl (Or.inl rfl) (pe_op op_cat (pv 1) (pe_lst p3)))
      (pss_one (ps_ret (pe_call GP hr rfl mP kP bP .nil pass0 (pa_cons (pv 0) (pa_cons (pe_op op_cat (pv 1) (pe_lst p4)) pa_nil))))))), ?_⟩
    have hz : ∃ o, H d = some o := by
      obtain ⟨l, ns, a, f, h1, _⟩ := hT
      exact ⟨_, h1⟩
    obtain ⟨o, ho⟩ := hz
    refine k1 _ _ _ ⟨o, ho⟩ fun x1 H1 s1 d1 => ⟨few (by rw [dq_len d1]; decide), fun l1 n1 => ?_⟩
    have s2 := same_new (u := .lst x1) s1 n1
    refine grow (z := d) (l := l1) (xs := x1) (ds := m1) k2 (by decide) rfl ⟨o, s2 _ _ ho⟩ upd_same (d1.mono (Same.delH (same_new (fun _ _ z => z) n1) d)) fun l2 x2 H2 s3 h3 d3 => ?_
    have s4 := s2.trans s3
    refine grow (z := d) (l := l2) (xs := x1 ++ x2) (ds := m1 ++ m2) k3 (by decide) rfl ⟨o, s4 _ _ ho⟩ h3 d3 fun l3 x3 H3 s5 h5 d5 => ?_
    have s6 := s4.trans s5
    refine ⟨_, rfl, grow (z := d) (l := l3) (xs := x1 ++ x2 ++ x3) (ds := m1 ++ m2 ++ m3) k4 (by decide) rfl ⟨o, s6 _ _ ho⟩ h5 d5 fun l4 x4 H4 s7 h7 d7 => ?_⟩
    have s8 := s6.trans s7
    have e4 : (x1 ++ x2 ++ x3 ++ x4).length = menu.length := dq_len d7
    refine ⟨d, l4, n, _, rfl, hT.same s8, hn, h7, ?_, ?_, fun H5 v hb hT5 hv => ?_⟩
    · intro e
      rw [e] at e4
      exact absurd e4 (by decide)
    · rw [e4]
      decide
    · obtain ⟨dt, hm, hq⟩ := dq_mem d7 v hv
      exact q H5 v dt ((Same.but s8 d).trans hb) hT5 hm (hq.mono (But.off hb))
end
end Toy


namespace Toy
open PySem L2 PySem.KX
/-! ### the rows of errors -/
/-- a row: the exception, what it tells, what is due, its sort -/
def RowOk (H : Hp) (c : Addr) (srt : Str) (us : List V) (row : V) : Prop := ∃ (t e d p q : Addr) (fs : List (Str × V)), row = .ref t ∧ H t = some (.tup [.ref e, .ref p, .ref q, .str srt]) ∧
  H e = some (exo e c (some d)) ∧ H d = some (exd d fs) ∧ H p = some (.lst us) ∧ H q = some (.lst us) ∧ sysModules ≠ p ∧ sysModules ≠ q
theorem RowOk.mono {H H' : Hp} {c : Addr} {srt : Str} {us : List V} {row : V} (s : Same H H') (r : RowOk H c srt us row) : RowOk H' c srt us row := by
  obtain ⟨t, e, d, p, q, fs, h1, h2, h3, h4, h5, h6, h7⟩ := r
  exact ⟨t, e, d, p, q, fs, h1, s _ _ h2, s _ _ h3, s _ _ h4, s _ _ h5, s _ _ h6, h7⟩
inductive RowsOk (H : Hp) : List (Addr × Str × List V) → List V → Prop
  | nil : RowsOk H [] []
  | cons {c : Addr} {srt : Str} {us : List V} {row : V} {sp : List (Addr × Str × List V)} {rs : List V} : RowOk H c srt us row → RowsOk H sp rs → RowsOk H ((c, srt, us) :: sp) (row :: rs)
theorem RowsOk.mono {H H' : Hp} (s : Same H H') : ∀ {sp rs}, RowsOk H sp rs → RowsOk H' sp rs
  | _, _, .nil => .nil
  | _, _, .cons a b => .cons (a.mono s) (b.mono s)
theorem RowsOk.app {H : Hp} : ∀ {sp rs sp' rs'}, RowsOk H sp rs → RowsOk H sp' rs' → RowsOk H (sp ++ sp') (rs ++ rs')
  | _, _, _, _, .nil, b => b
  | _, _, _, _, .cons a r, b => .cons a (RowsOk.app r b)
theorem RowsOk.len {H : Hp} : ∀ {sp rs}, RowsOk H sp rs → rs.length = sp.length
  | _, _, .nil => rfl
  | _, _, .cons _ r => congrArg Nat.succ (RowsOk.len r)
theorem RowsOk.at {H : Hp} : ∀ {sp rs} {i : Nat} {row : V}, RowsOk H sp rs → rs[i]? = some row → ∃ c srt us, sp[i]? = some (c, srt, us) ∧ RowOk H c srt us row
  | _, _, i, row, .nil, h => by simp at h
  | _, _, 0, row, .cons a r, h => by
    cases Option.some.inj h
    exact ⟨_, _, _, rfl, a⟩
  | _, _, i + 1, row, .cons a r, h => by
    obtain ⟨c, srt, us, h1, h2⟩ := RowsOk.at r h
    exact ⟨c, srt, us, h1, h2⟩
theorem laid_same {H : Hp} {e d : Addr} {u w : HO} (he : H e = none) (hd : H d = none) (n : d ≠ e) : Same H (upd (upd H d u) e w) := same_new (same_new (fun _ _ z => z) hd) (by rw [upd_ne n.symm]; exact he)
section
variable {K : PySem.W.Frag} {c R : Addr} {f g srt : Str} {x y : V} {rs : List V} {D : Ends} {H : Hp} {rest : TS} {e0 f0 : Option V}
/-- the end of a row: the two lists and the tuple are made, the row is hung on -/
theorem row_end {H3 : Hp} {e d : Addr} {fs : List (Str × V)} {us : List V} {sp : List (Addr × Str × List V)} {p q t : Addr} (hR : H R = some (.lst rs)) (ok : RowsOk (delH H R) sp rs) (s3 : Same H H3) (ne : H e = none) (nd : H d = none) (he : H3 e = some (exo e c (some d))) (hd : H3 d = some (exd d fs))
    (np : H3 p = none) (sp1 : sysModules ≠ p) (nq : (upd H3 p (.lst us)) q = none) (sq : sysModules ≠ q) (nt : (upd (upd H3 p (.lst us)) q (.lst us)) t = none) :
    let H4 := upd (upd (upd H3 p (.lst us)) q (.lst us)) t (.tup [.ref e, .ref p, .ref q, .str srt])
    H4 R = some (.lst rs) ∧ But R H (upd H4 R (.lst (rs ++ [.ref t]))) ∧ (upd H4 R (.lst (rs ++ [.ref t]))) R = some (.lst (rs ++ [.ref t])) ∧ RowsOk (delH (upd H4 R (.lst (rs ++ [.ref t]))) R) (sp ++ [(c, srt, us)]) (rs ++ [.ref t]) := by
  intro H4
  have s4 : Same H3 (upd H3 p (.lst us)) := same_new (fun _ _ z => z) np
  have s5 : Same (upd H3 p (.lst us)) (upd (upd H3 p (.lst us)) q (.lst us)) := same_new (fun _ _ z => z) nq
  have s6 : Same (upd (upd H3 p (.lst us)) q (.lst us)) H4 := same_new (fun _ _ z => z) nt
  have s46 : Same H3 H4 := s4.trans (s5.trans s6)
  have r4 : H4 R = some (.lst rs) := (s3.trans s46) _ _ hR
  have neR : ∀ {b : Addr}, H b = none → b ≠ R := fun {b} h z => by rw [z, hR] at h; cases h
  have ne3 : ∀ {b : Addr}, H3 b = none → b ≠ R := fun {b} h z => by rw [z, s3 _ _ hR] at h; cases h
  have npR := ne3 np
  have nqR : q ≠ R := fun z => by rw [z, s4 _ _ (s3 _ _ hR)] at nq; cases nq
  have ntR : t ≠ R := fun z => by rw [z, s5 _ _ (s4 _ _ (s3 _ _ hR))] at nt; cases nt
  have up : ∀ {b : Addr} {o : HO}, b ≠ R → H4 b = some o → delH (upd H4 R (.lst (rs ++ [.ref t]))) R b = some o := fun {b o} n h => by rw [delH_ne n, upd_ne n]; exact h
  refine ⟨r4, fun b o n h => by rw [upd_ne n]; exact (s3.trans s46) _ _ h, upd_same, .app (ok.mono fun b o h => ?_) (.cons ⟨t, e, d, p, q, fs, rfl, up ntR upd_same, up (neR ne) (s46 _ _ he), up (neR nd) (s46 _ _ hd), up npR (s6 _ _ (s5 _ _ upd_same)), up nqR (s6 _ _ upd_same), sp1, sq⟩ .nil)⟩
  by_cases hb : b = R
  · rw [hb, delH_same] at h
    cases h
  · rw [delH_ne hb] at h
    exact up hb ((s3.trans s46) _ _ h)
theorem row1 {sp : List (Addr × Str × List V)} (G : ClG K c) (nf : PySem.W.findIn K (.ref c) f = some none) (hR : H R = some (.lst rs)) (hl : rs.length ≤ 100) (ok : RowsOk (delH H R) sp rs)
    (q : ∀ H' row e' f', But R H H' → H' R = some (.lst (rs ++ [row])) → RowsOk (delH H' R) (sp ++ [(c, srt, [x, x])]) (rs ++ [row]) → rest D [some x, some y, some (.ref R), some e', some f'] H') :
    tSeq (tPar 3 4 (tCons (tX1 c f (tCons (tVar 0) tNil)) (tCons (tX1 c f (tCons (tVar 0) tNil)) tNil))) (tSeq (tDrop (tBM K "list" rAppend (tVar 2) (tCons (tTup (tCons (tVar 3) (tCons (tLstN (tCons (tXG K f (tVar 3)) (tCons (tXG K f (tVar 4)) tNil)))
      (tCons (tLstN (tCons (tVar 0) (tCons (tVar 0) tNil))) (tCons (tC (.str srt)) tNil))))) tNil))) rest) D [some x, some y, some (.ref R), e0, f0] H := by
  refine ⟨x, rfl, x, rfl, fun e d ne nd nde => ⟨x, rfl, x, rfl, fun e2 d2 ne2 nd2 nde2 => ⟨_, _, rfl, ?_⟩⟩⟩
  have s1 : Same H (upd (upd H d (exd d [(f, x)])) e (exo e c (some d))) := laid_same ne nd nde
  have s2 := laid_same (u := exd d2 [(f, x)]) (w := exo e2 c (some d2)) ne2 nd2 nde2
  have lk : List.lookup f [(f, x)] = some x := by simp [List.lookup]
  have he := s2 _ _ (upd_same (H := upd H d (exd d [(f, x)])) (a := e) (o := exo e c (some d)))
  have hd := s2 _ _ ((upd_ne (H := upd H d (exd d [(f, x)])) (o := exo e c (some d)) nde).trans upd_same)
  have hR3 := s2 _ _ (s1 _ _ hR)
  refine ⟨_, rfl, .inl ⟨rfl, _, SqL.of hR3⟩, _, rfl, _, rfl, e, c, d, _, x, rfl, G, nf, he, hd, lk, _, rfl, e2, c, d2, _, x, rfl, G, nf, upd_same, (upd_ne nde2).trans upd_same, lk, few (by show 2 ≤ 1000; decide), fun p np sp1 => ?_⟩
  refine ⟨_, rfl, _, rfl, few (by show 2 ≤ 1000; decide), fun q1 nq sq => ⟨few (by show 4 ≤ 1000; decide), fun t nt => ?_⟩⟩
  obtain ⟨z1, z2, z3, z4⟩ := row_end (srt := srt) hR ok (s1.trans s2) ne nd he hd np sp1 nq sq nt
  exact ⟨R, _, _, rfl, rfl, z1, Nat.lt_of_le_of_lt hl (by decide), q _ _ _ _ z2 z3 z4⟩
theorem row2 {sp : List (Addr × Str × List V)} (G : ClG K c) (nf : PySem.W.findIn K (.ref c) f = some none) (ng : PySem.W.findIn K (.ref c) g = some none) (fg : (f == g) = false) (hR : H R = some (.lst rs)) (hl : rs.length ≤ 100) (ok : RowsOk (delH H R) sp rs)
    (q : ∀ H' row e' f', But R H H' → H' R = some (.lst (rs ++ [row])) → RowsOk (delH H' R) (sp ++ [(c, srt, [x, y, x, y])]) (rs ++ [row]) → rest D [some x, some y, some (.ref R), some e', some f'] H') :
    tSeq (tPar 3 4 (tCons (tX2 c f g (tCons (tVar 0) (tCons (tVar 1) tNil))) (tCons (tX2k c f g (tCons (tVar 1) (tCons (tVar 0) tNil))) tNil))) (tSeq (tDrop (tBM K "list" rAppend (tVar 2) (tCons (tTup (tCons (tVar 3) (tCons (tLstN (tCons (tXG K f (tVar 3)) (tCons (tXG K g (tVar 3))
      (tCons (tXG K f (tVar 4)) (tCons (tXG K g (tVar 4)) tNil))))) (tCons (tLstN (tCons (tVar 0) (tCons (tVar 1) (tCons (tVar 0) (tCons (tVar 1) tNil))))) (tCons (tC (.str srt)) tNil))))) tNil))) rest) D [some x, some y, some (.ref R), e0, f0] H := by
  refine ⟨x, rfl, y, rfl, x, y, rfl, fun e d ne nd nde => ⟨y, rfl, x, rfl, x, y, rfl, fun e2 d2 ne2 nd2 nde2 => ⟨_, _, rfl, ?_⟩⟩⟩
  have s1 : Same H (upd (upd H d (exd d [(g, y), (f, x)])) e (exo e c (some d))) := laid_same ne nd nde
  have s2 := laid_same (u := exd d2 [(g, y), (f, x)]) (w := exo e2 c (some d2)) ne2 nd2 nde2
  have lg : List.lookup g [(g, y), (f, x)] = some y := by simp [List.lookup]
  have lf : List.lookup f [(g, y), (f, x)] = some x := by simp [List.lookup, fg]
  have he := s2 _ _ (upd_same (H := upd H d (exd d [(g, y), (f, x)])) (a := e) (o := exo e c (some d)))
  have hd := s2 _ _ ((upd_ne (H := upd H d (exd d [(g, y), (f, x)])) (o := exo e c (some d)) nde).trans upd_same)
  have hR3 := s2 _ _ (s1 _ _ hR)
  have h2 : (upd (upd (upd (upd H d (exd d [(g, y), (f, x)])) e (exo e c (some d))) d2 (exd d2 [(g, y), (f, x)])) e2 (exo e2 c (some d2))) d2 = some (exd d2 [(g, y), (f, x)]) := (upd_ne nde2).trans upd_same
  refine ⟨_, rfl, .inl ⟨rfl, _, SqL.of hR3⟩, _, rfl, _, rfl, e, c, d, _, x, rfl, G, nf, he, hd, lf, _, rfl, e, c, d, _, y, rfl, G, ng, he, hd, lg, _, rfl, e2, c, d2, _, x, rfl, G, nf, upd_same, h2, lf, _, rfl, e2, c, d2, _, y, rfl, G, ng, upd_same, h2, lg, few (by show 4 ≤ 1000; decide), fun p np sp1 => ?_⟩
  refine ⟨_, rfl, _, rfl, _, rfl, _, rfl, few (by show 4 ≤ 1000; decide), fun q1 nq sq => ⟨few (by show 4 ≤ 1000; decide), fun t nt => ?_⟩⟩
  obtain ⟨z1, z2, z3, z4⟩ := row_end (srt := srt) hR ok (s1.trans s2) ne nd he hd np sp1 nq sq nt
  exact ⟨R, _, _, rfl, rfl, z1, Nat.lt_of_le_of_lt hl (by decide), q _ _ _ _ z2 z3 z4⟩
end
end Toy


namespace Toy
open PySem L2 PySem.KX
/-! ### the classes, by their places in the text -/
def names : List Str := ["InvalidDatum", "InvalidFilter", "InvalidLimit", "InvalidCount", "InvalidCode", "InvalidText", "InvalidName", "InvalidEntry", "InvalidDeed", "InvalidGuard", "NotChooser", "NotFitting", "Endless", "TooGreat", "Standing", "NoQuestion", "NoPart", "NoSpot", "NoWay", "NotThere", "NoName", "OutOfRange", "Unknown", "UnknownShape", "Fails", "Failed", "NoOutcome", "TooLong", "Broken"]
def sorts : List Str := ["value", "value", "value", "value", "value", "value", "value", "value", "value", "value", "value", "value", "value", "value", "value", "value", "lookup", "lookup", "lookup", "lookup", "lookup", "lookup", "lookup", "lookup", "runtime", "runtime", "runtime", "runtime", "runtime"]
def ones : List (Nat × Str) := [(0, "value"), (1, "value"), (2, "value"), (3, "value"), (4, "index"), (5, "index"), (6, "value"), (7, "name"), (8, "index"), (9, "index"), (10, "spot"), (11, "value"), (12, "name"), (13, "name"), (14, "name"), (15, "question"), (16, "place"), (17, "spot"), (18, "index"), (19, "index"), (20, "value"), (21, "value"), (23, "name"), (24, "reason"), (26, "index"), (27, "index"), (28, "index")]
/-- what the top has written of the classes: the i-th one stands at C i -/
structure Txt (K : PySem.W.Frag) (mg : Str → Option Value) (C : Nat → Addr) : Prop where
  one : ∀ i f, ones.lookup i = some f → Cl1 K (C i) f
  un : Cl2 K (C 22) "name" "word"
  fa : Cl2 K (C 25) "index" "reason"
  g : ∀ i, i < 29 → ClG K (C i)
  at_ : ∀ i nm, names[i]? = some nm → mg nm = some (.ref (C i))
  kit : ∀ i j, i < 29 → j < 29 → PySem.W.kitOne K (.ref (C i)) (.ref (C j)) = some (decide (j = i))
  kV : ∀ i, i < 29 → PySem.W.kitOne K (.ref (C i)) (.type "ValueError") = some (decide (i < 16))
  kL : ∀ i, i < 29 → PySem.W.kitOne K (.ref (C i)) (.type "LookupError") = some (decide (16 ≤ i ∧ i < 24))
  kR : ∀ i, i < 29 → PySem.W.kitOne K (.ref (C i)) (.type "RuntimeError") = some (decide (24 ≤ i))
def specA (C : Nat → Addr) (x y : V) : List (Addr × Str × List V) := [(C 0, "value", [x, x]), (C 1, "value", [x, x]), (C 2, "value", [x, x]), (C 3, "value", [x, x]), (C 4, "value", [x, x]), (C 5, "value", [x, x]), (C 6, "value", [x, x]), (C 7, "value", [x, x]), (C 8, "value", [x, x]), (C 9, "value", [x, x]), (C 10, "value", [x, x]), (C 11, "value", [x, x]), (C 12, "value", [x, x]), (C 13, "value", [x, x]), (C 14, "value", [x, x])]
def specB (C : Nat → Addr) (x y : V) : List (Addr × Str × List V) := [(C 15, "value", [x, x]), (C 16, "lookup", [x, x]), (C 17, "lookup", [x, x]), (C 18, "lookup", [x, x]), (C 19, "lookup", [x, x]), (C 20, "lookup", [x, x]), (C 21, "lookup", [x, x]), (C 22, "lookup", [x, y, x, y]), (C 23, "lookup", [x, x]), (C 24, "runtime", [x, x]), (C 25, "runtime", [x, y, x, y]), (C 26, "runtime", [x, x]), (C 27, "runtime", [x, x]), (C 28, "runtime", [x, x])]
abbrev sErrA : Stmt := top 35
abbrev sErrB : Stmt := top 36
def spErr (spec : V → V → List (Addr × Str × List V)) : Sp := fun vs H Q _ => ∃ x y : V, vs = [x, y] ∧ ∀ H' R rs, Same H H' → H R = none → H' R = some (.lst rs) → RowsOk H' (spec x y) rs → Q (.ref R) H'
section
variable {P : Program} {w : World} {K : PySem.W.Frag} {mg : Str → Option Value} {base : Heap} {C : Nat → Addr}
theorem scEA : FnScope ["_law_x", "_law_y", "_law_rows", "_law_e", "_law_f"] ["_law_x", "_law_y"] (defScope sErrA) := ⟨rfl, rfl, rfl, by decide +kernel, rfl, by decide +kernel, by decide +kernel⟩
theorem ok_errA {f : Addr} {fd : FuncData} (F : Fun K "_law_errors_a" "_law_errors_a" sErrA f fd) (T : Txt K mg C) : FnOk P w K mg base CX0 3 f fd ["_law_x", "_law_y"] (spErr (specA C)) := by
  refine F.ok scEA (fun vs H Q E h => ?_) (fun cdv A outer s H vs Q E hr h => ?_)
  · obtain ⟨x, y, rfl, _⟩ := h
    rfl
  · obtain ⟨x, y, rfl, q⟩ := h
    have hr1 : Room 1 _ := hr.mono (by decide)
    refine ⟨_, pss_cons (ps_set (i := 2) scEA.nd rfl (Or.inl rfl) (pe_lst pa_nil))
      (pss_cons (ps_par (i := 3) (j := 4) rfl scEA.nd rfl rfl (by decide) rfl rfl (pa_cons (pe_x1 (T.one 0 "value" rfl) hr1 (T.at_ 0 "InvalidDatum" rfl) (by rfl) (pa_cons (pv 0) pa_nil)) (pa_cons (pe_x1k (T.one 0 "value" rfl) hr1 (T.at_ 0 "InvalidDatum" rfl) (by rfl) (pk_cons (pv 0) pk_nil)) pa_nil)) (by rfl))
      (pss_cons (ps_expr (pe_bm PySem.F.plainAttrs_list PySem.F.slot_list_append PySem.F.type_list_append mt_append (pv 2) (pa_cons (pe_tup (pa_cons (pv 3) (pa_cons (pe_lstN (pa_cons (pe_xg (pv 3)) (pa_cons (pe_xg (pv 4)) pa_nil))) (pa_cons (pe_lstN (pa_cons (pv 0) (pa_cons (pv 0) pa_nil))) (pa_cons pe_str pa_nil))))) pa_nil)))
      (pss_cons (ps_par (i := 3) (j := 4) rfl scEA.nd rfl rfl (by decide) rfl rfl (pa_cons (pe_x1 (T.one 1 "value" rfl) hr1 (T.at_ 1 "InvalidFilter" rfl) (by rfl) (pa_cons (pv 0) pa_nil)) (pa_cons (pe_x1k (T.one 1 "value" rfl) hr1 (T.at_ 1 "InvalidFilter" rfl) (by rfl) (pk_cons (pv 0) pk_nil)) pa_nil)) (by rfl))
      (pss_cons (ps_expr (pe_bm PySem.F.plainAttrs_list PySem.F.slot_list_append PySem.F.type_list_append mt_append (pv 2) (pa_cons (pe_tup (pa_cons (pv 3) (pa_cons (pe_lstN (pa_cons (pe_xg (pv 3)) (pa_cons (pe_xg (pv 4)) pa_nil))) (pa_cons (pe_lstN (pa_cons (pv 0) (pa_cons (pv 0) pa_nil))) (pa_cons pe_str pa_nil))))) pa_nil)))
      (pss_cons (ps_par (i := 3) (j := 4) rfl scEA.nd rfl rfl (by decide) rfl rfl (pa_cons (pe_x1 (T.one 2 "value" rfl) hr1 (T.at_ 2 "InvalidLimit" rfl) (by rfl) (pa_cons (pv 0) pa_nil)) (pa_cons (pe_x1k (T.one 2 "value" rfl) hr1 (T.at_ 2 "InvalidLimit" rfl) (by rfl) (pk_cons (pv 0) pk_nil)) pa_nil)) (by rfl))
      (pss_cons (ps_expr (pe_bm PySem.F.plainAttrs_list PySem.F.slot_list_append PySem.F.type_list_append mt_append (pv 2) (pa_cons (pe_tup (pa_cons (pv 3) (pa_cons (pe_lstN (pa_cons (pe_xg (pv 3)) (pa_cons (pe_xg (pv 4)) pa_nil))) (pa_cons (pe_lstN (pa_cons (pv 0) (pa_cons (pv 0) pa_nil))) (pa_cons pe_str pa_nil))))) pa_nil)))
      (pss_cons (ps_par (i := 3) (j := 4) rfl scEA.nd rfl rfl (by decide) rfl rfl (pa_cons (pe_x1 (T.one 3 "value" rfl) hr1 (T.at_ 3 "InvalidCount" rfl) (by rfl) (pa_cons (pv 0) pa_nil)) (pa_cons (pe_x1k (T.one 3 "value" rfl) hr1 (T.at_ 3 "InvalidCount" rfl) (by rfl) (pk_cons (pv 0) pk_nil)) pa_nil)) (by rfl))
      (pss_cons (ps_expr (pe_bm PySem.F.plainAttrs_list PySem.F.slot_list_append PySem.F.type_list_append mt_append (pv 2) (pa_cons (pe_tup (pa_cons (pv 3) (pa_cons (pe_lstN (pa_cons (pe_xg (pv 3)) (pa_cons (pe_xg (pv 4)) pa_nil))) (pa_cons (pe_lstN (pa_cons (pv 0) (pa_cons (pv 0) pa_nil))) (pa_cons pe_str pa_nil))))) pa_nil)))
      (pss_cons (ps_par (i := 3) (j := 4) rfl scEA.nd rfl rfl (by decide) rfl rfl (pa_cons (pe_x1 (T.one 4 "index" rfl) hr1 (T.at_ 4 "InvalidCode" rfl) (by rfl) (pa_cons (pv 0) pa_nil)) (pa_cons (pe_x1k (T.one 4 "index" rfl) hr1 (T.at_ 4 "InvalidCode" rfl) (by rfl) (pk_cons (pv 0) pk_nil)) pa_nil)) (by rfl))
      (pss_cons (ps_expr (pe_bm PySem.F.plainAttrs_list PySem.F.slot_list_append PySem.F.type_list_append mt_append (pv 2) (pa_cons (pe_tup (pa_cons (pv 3) (pa_cons (pe_lstN (pa_cons (pe_xg (pv 3)) (pa_cons (pe_xg (pv 4)) pa_nil))) (pa_cons (pe_lstN (pa_cons (pv 0) (pa_cons (pv 0) pa_nil))) (pa_cons pe_str pa_nil))))) pa_nil)))
      (pss_cons (ps_par (i := 3) (j := 4) rfl scEA.nd rfl rfl (by decide) rfl rfl (pa_cons (pe_x1 (T.one 5 "index" rfl) hr1 (T.at_ 5 "InvalidText" rfl) (by rfl) (pa_cons (pv 0) pa_nil)) (pa_cons (pe_x1k (T.one 5 "index" rfl) hr1 (T.at_ 5 "InvalidText" rfl) (by rfl) (pk_cons (pv 0) pk_nil)) pa_nil)) (by rfl))
      (pss_cons (ps_expr (pe_bm PySem.F.plainAttrs_list PySem.F.slot_list_append PySem.F.type_list_append mt_append (pv 2) (pa_cons (pe_tup (pa_cons (pv 3) (pa_cons (pe_lstN (pa_cons (pe_xg (pv 3)) (pa_cons (pe_xg (pv 4)) pa_nil))) (pa_cons (pe_lstN (pa_cons (pv 0) (pa_cons (pv 0) pa_nil))) (pa_cons pe_str pa_nil))))) pa_nil)))
      (pss_cons (ps_par (i := 3) (j := 4) rfl scEA.nd rfl rfl (by decide) rfl rfl (pa_cons (pe_x1 (T.one 6 "value" rfl) hr1 (T.at_ 6 "InvalidName" rfl) (by rfl) (pa_cons (pv 0) pa_nil)) (pa_cons (pe_x1k (T.one 6 "value" rfl) hr1 (T.at_ 6 "InvalidName" rfl) (by rfl) (pk_cons (pv 0) pk_nil)) pa_nil)) (by rfl))
      (pss_cons (ps_expr (pe_bm PySem.F.plainAttrs_list PySem.F.slot_list_append PySem.F.type_list_append mt_append (pv 2) (pa_cons (pe_tup (pa_cons (pv 3) (pa_cons (pe_lstN (pa_cons (pe_xg (pv 3)) (pa_cons (pe_xg (pv 4)) pa_nil))) (pa_cons (pe_lstN (pa_cons (pv 0) (pa_cons (pv 0) pa_nil))) (pa_cons pe_str pa_nil))))) pa_nil)))
      (pss_cons (ps_par (i := 3) (j := 4) rfl scEA.nd rfl rfl (by decide) rfl rfl (pa_cons (pe_x1 (T.one 7 "name" rfl) hr1 (T.at_ 7 "InvalidEntry" rfl) (by rfl) (pa_cons (pv 0) pa_nil)) (pa_cons (pe_x1k (T.one 7 "name" rfl) hr1 (T.at_ 7 "InvalidEntry" rfl) (by rfl) (pk_cons (pv 0) pk_nil)) pa_nil)) (by rfl))
      (pss_cons (ps_expr (pe_bm PySem.F.plainAttrs_list PySem.F.slot_list_append PySem.F.type_list_append mt_append (pv 2) (pa_cons (pe_tup (pa_cons (pv 3) (pa_cons (pe_lstN (pa_cons (pe_xg (pv 3)) (pa_cons (pe_xg (pv 4)) pa_nil))) (pa_cons (pe_lstN (pa_cons (pv 0) (pa_cons (pv 0) pa_nil))) (pa_cons pe_str pa_nil))))) pa_nil)))
      (pss_cons (ps_par (i := 3) (j := 4) rfl scEA.nd rfl rfl (by decide) rfl rfl (pa_cons (pe_x1 (T.one 8 "index" rfl) hr1 (T.at_ 8 "InvalidDeed" rfl) (by rfl) (pa_cons (pv 0) pa_nil)) (pa_cons (pe_x1k (T.one 8 "index" rfl) hr1 (T.at_ 8 "InvalidDeed" rfl) (by rfl) (pk_cons (pv 0) pk_nil)) pa_nil)) (by rfl))
      (pss_cons (ps_expr (pe_bm PySem.F.plainAttrs_list PySem.F.slot_list_append PySem.F.type_list_append mt_append (pv 2) (pa_cons (pe_tup (pa_cons (pv 3) (pa_cons (pe_lstN (pa_cons (pe_xg (pv 3)) (pa_cons (pe_xg (pv 4)) pa_nil))) (pa_cons (pe_lstN (pa_cons (pv 0) (pa_cons (pv 0) pa_nil))) (pa_cons pe_str pa_nil))))) pa_nil)))
      (pss_cons (ps_par (i := 3) (j := 4) rfl scEA.nd rfl rfl (by decide) rfl rfl (pa_cons (pe_x1 (T.one 9 "index" rfl) hr1 (T.at_ 9 "InvalidGuard" rfl) (by rfl) (pa_cons (pv 0) pa_nil)) (pa_cons (pe_x1k (T.one 9 "index" rfl) hr1 (T.at_ 9 "InvalidGuard" rfl) (by rfl) (pk_cons (pv 0) pk_nil)) pa_nil)) (by rfl))
      (pss_cons (ps_expr (pe_bm PySem.F.plainAttrs_list PySem.F.slot_list_append PySem.F.type_list_append mt_append (pv 2) (pa_cons (pe_tup (pa_cons (pv 3) (pa_cons (pe_lstN (pa_cons (pe_xg (pv 3)) (pa_cons (pe_xg (pv 4)) pa_nil))) (pa_cons (pe_lstN (pa_cons (pv 0) (pa_cons (pv 0) pa_nil))) (pa_cons pe_str pa_nil))))) pa_nil)))
      (pss_cons (ps_par (i := 3) (j := 4) rfl scEA.nd rfl rfl (by decide) rfl rfl (pa_cons (pe_x1 (T.one 10 "spot" rfl) hr1 (T.at_ 10 "NotChooser" rfl) (by rfl) (pa_cons (pv 0) pa_nil)) (pa_cons (pe_x1k (T.one 10 "spot" rfl) hr1 (T.at_ 10 "NotChooser" rfl) (by rfl) (pk_cons (pv 0) pk_nil)) pa_nil)) (by rfl))
      (pss_cons (ps_expr (pe_bm PySem.F.plainAttrs_list PySem.F.slot_list_append PySem.F.type_list_append mt_append (pv 2) (pa_cons (pe_tup (pa_cons (pv 3) (pa_cons (pe_lstN (pa_cons (pe_xg (pv 3)) (pa_cons (pe_xg (pv 4)) pa_nil))) (pa_cons (pe_lstN (pa_cons (pv 0) (pa_cons (pv 0) pa_nil))) (pa_cons pe_str pa_nil))))) pa_nil)))
      (pss_cons (ps_par (i := 3) (j := 4) rfl scEA.nd rfl rfl (by decide) rfl rfl (pa_cons (pe_x1 (T.one 11 "value" rfl) hr1 (T.at_ 11 "NotFitting" rfl) (by rfl) (pa_cons (pv 0) pa_nil)) (pa_cons (pe_x1k (T.one 11 "value" rfl) hr1 (T.at_ 11 "NotFitting" rfl) (by rfl) (pk_cons (pv 0) pk_nil)) pa_nil)) (by rfl))
      (pss_cons (ps_expr (pe_bm PySem.F.plainAttrs_list PySem.F.slot_list_append PySem.F.type_list_append mt_append (pv 2) (pa_cons (pe_tup (pa_cons (pv 3) (pa_cons (pe_lstN (pa_cons (pe_xg (pv 3)) (pa_cons (pe_xg (pv 4)) pa_nil))) (pa_cons (pe_lstN (pa_cons (pv 0) (pa_cons (pv 0) pa_nil))) (pa_cons pe_str pa_nil))))) pa_nil)))
      (pss_cons (ps_par (i := 3) (j := 4) rfl scEA.nd rfl rfl (by decide) rfl rfl (pa_cons (pe_x1 (T.one 12 "name" rfl) hr1 (T.at_ 12 "Endless" rfl) (by rfl) (pa_cons (pv 0) pa_nil)) (pa_cons (pe_x1k (T.one 12 "name" rfl) hr1 (T.at_ 12 "Endless" rfl) (by rfl) (pk_cons (pv 0) pk_nil)) pa_nil)) (by rfl))
      (pss_cons (ps_expr (pe_bm PySem.F.plainAttrs_list PySem.F.slot_list_append PySem.F.type_list_append mt_append (pv 2) (pa_cons (pe_tup (pa_cons (pv 3) (pa_cons (pe_lstN (pa_cons (pe_xg (pv 3)) (pa_cons (pe_xg (pv 4)) pa_nil))) (pa_cons (pe_lstN (pa_cons (pv 0) (pa_cons (pv 0) pa_nil))) (pa_cons pe_str pa_nil))))) pa_nil)))
      (pss_cons (ps_par (i := 3) (j := 4) rfl scEA.nd rfl rfl (by decide) rfl rfl (pa_cons (pe_x1 (T.one 13 "name" rfl) hr1 (T.at_ 13 "TooGreat" rfl) (by rfl) (pa_cons (pv 0) pa_nil)) (pa_cons (pe_x1k (T.one 13 "name" rfl) hr1 (T.at_ 13 "TooGreat" rfl) (by rfl) (pk_cons (pv 0) pk_nil)) pa_nil)) (by rfl))
      (pss_cons (ps_expr (pe_bm PySem.F.plainAttrs_list PySem.F.slot_list_append PySem.F.type_list_append mt_append (pv 2) (pa_cons (pe_tup (pa_cons (pv 3) (pa_cons (pe_lstN (pa_cons (pe_xg (pv 3)) (pa_cons (pe_xg (pv 4)) pa_nil))) (pa_cons (pe_lstN (pa_cons (pv 0) (pa_cons (pv 0) pa_nil))) (pa_cons pe_str pa_nil))))) pa_nil)))
      (pss_cons (ps_par (i := 3) (j := 4) rfl scEA.nd rfl rfl (by decide) rfl rfl (pa_cons (pe_x1 (T.one 14 "name" rfl) hr1 (T.at_ 14 "Standing" rfl) (by rfl) (pa_cons (pv 0) pa_nil)) (pa_cons (pe_x1k (T.one 14 "name" rfl) hr1 (T.at_ 14 "Standing" rfl) (by rfl) (pk_cons (pv 0) pk_nil)) pa_nil)) (by rfl))
      (pss_cons (ps_expr (pe_bm PySem.F.plainAttrs_list PySem.F.slot_list_append PySem.F.type_list_append mt_append (pv 2) (pa_cons (pe_tup (pa_cons (pv 3) (pa_cons (pe_lstN (pa_cons (pe_xg (pv 3)) (pa_cons (pe_xg (pv 4)) pa_nil))) (pa_cons (pe_lstN (pa_cons (pv 0) (pa_cons (pv 0) pa_nil))) (pa_cons pe_str pa_nil))))) pa_nil)))
      (pss_one (ps_ret (pv 2))))))))))))))))))))))))))))))))), ?_⟩
    refine ⟨Nat.zero_le _, fun R nR => ?_⟩
    have b0 : But R (upd H R (.lst [])) (upd H R (.lst [])) := But.refl
    have k0 : RowsOk (delH (upd H R (.lst [])) R) [] [] := .nil
    have l0 : (upd H R (.lst [])) R = some (.lst []) := upd_same
    refine row1 (T.g 0 (by decide)) (T.one 0 "value" rfl).fr.n l0 (by simp) k0 fun H1 r0 e0 f0 c1 l1 k1 => ?_
    have b1 := b0.trans c1
    refine row1 (T.g 1 (by decide)) (T.one 1 "value" rfl).fr.n l1 (by simp) k1 fun H2 r1 e1 f1 c2 l2 k2 => ?_
    have b2 := b1.trans c2
    refine row1 (T.g 2 (by decide)) (T.one 2 "value" rfl).fr.n l2 (by simp) k2 fun H3 r2 e2 f2 c3 l3 k3 => ?_
    have b3 := b2.trans c3
    refine row1 (T.g 3 (by decide)) (T.one 3 "value" rfl).fr.n l3 (by simp) k3 fun H4 r3 e3 f3 c4 l4 k4 => ?_
    have b4 := b3.trans c4
    refine row1 (T.g 4 (by decide)) (T.one 4 "index" rfl).fr.n l4 (by simp) k4 fun H5 r4 e4 f4 c5 l5 k5 => ?_
    have b5 := b4.trans c5
    refine row1 (T.g 5 (by decide)) (T.one 5 "index" rfl).fr.n l5 (by simp) k5 fun H6 r5 e5 f5 c6 l6 k6 => ?_
    have b6 := b5.trans c6
    refine row1 (T.g 6 (by decide)) (T.one 6 "value" rfl).fr.n l6 (by simp) k6 fun H7 r6 e6 f6 c7 l7 k7 => ?_
    have b7 := b6.trans c7
    refine row1 (T.g 7 (by decide)) (T.one 7 "name" rfl).fr.n l7 (by simp) k7 fun H8 r7 e7 f7 c8 l8 k8 => ?_
    have b8 := b7.trans c8
    refine row1 (T.g 8 (by decide)) (T.one 8 "index" rfl).fr.n l8 (by simp) k8 fun H9 r8 e8 f8 c9 l9 k9 => ?_
    have b9 := b8.trans c9
    refine row1 (T.g 9 (by decide)) (T.one 9 "index" rfl).fr.n l9 (by simp) k9 fun H10 r9 e9 f9 c10 l10 k10 => ?_
    have b10 := b9.trans c10
    refine row1 (T.g 10 (by decide)) (T.one 10 "spot" rfl).fr.n l10 (by simp) k10 fun H11 r10 e10 f10 c11 l11 k11 => ?_
    have b11 := b10.trans c11
    refine row1 (T.g 11 (by decide)) (T.one 11 "value" rfl).fr.n l11 (by simp) k11 fun H12 r11 e11 f11 c12 l12 k12 => ?_
    have b12 := b11.trans c12
    refine row1 (T.g 12 (by decide)) (T.one 12 "name" rfl).fr.n l12 (by simp) k12 fun H13 r12 e12 f12 c13 l13 k13 => ?_
    have b13 := b12.trans c13
    refine row1 (T.g 13 (by decide)) (T.one 13 "name" rfl).fr.n l13 (by simp) k13 fun H14 r13 e13 f13 c14 l14 k14 => ?_
    have b14 := b13.trans c14
    refine row1 (T.g 14 (by decide)) (T.one 14 "name" rfl).fr.n l14 (by simp) k14 fun H15 r14 e14 f14 c15 l15 k15 => ?_
    have b15 := b14.trans c15
    refine ⟨_, rfl, q _ R _ (fun b o h => b15 b o (ne_of_none h nR) ((upd_ne (ne_of_none h nR)).trans h)) nR l15 (RowsOk.mono (Same.off R) k15)⟩
theorem scEB : FnScope ["_law_x", "_law_y", "_law_rows", "_law_e", "_law_f"] ["_law_x", "_law_y"] (defScope sErrB) := ⟨rfl, rfl, rfl, by decide +kernel, rfl, by decide +kernel, by decide +kernel⟩
theorem ok_errB {f : Addr} {fd : FuncData} (F : Fun K "_law_errors_b" "_law_errors_b" sErrB f fd) (T : Txt K mg C) : FnOk P w K mg base CX0 3 f fd ["_law_x", "_law_y"] (spErr (specB C)) := by
  refine F.ok scEB (fun vs H Q E h => ?_) (fun cdv A outer s H vs Q E hr h => ?_)
  · obtain ⟨x, y, rfl, _⟩ := h
    rfl
  · obtain ⟨x, y, rfl, q⟩ := h
    have hr1 : Room 1 _ := hr.mono (by decide)
    refine ⟨_, pss_cons (ps_set (i := 2) scEB.nd rfl (Or.inl rfl) (pe_lst pa_nil))
      (pss_cons (ps_par (i := 3) (j := 4) rfl scEB.nd rfl rfl (by decide) rfl rfl (pa_cons (pe_x1 (T.one 15 "question" rfl) hr1 (T.at_ 15 "NoQuestion" rfl) (by rfl) (pa_cons (pv 0) pa_nil)) (pa_cons (pe_x1k (T.one 15 "question" rfl) hr1 (T.at_ 15 "NoQuestion" rfl) (by rfl) (pk_cons (pv 0) pk_nil)) pa_nil)) (by rfl))
      (pss_cons (ps_expr (pe_bm PySem.F.plainAttrs_list PySem.F.slot_list_append PySem.F.type_list_append mt_append (pv 2) (pa_cons (pe_tup (pa_cons (pv 3) (pa_cons (pe_lstN (pa_cons (pe_xg (pv 3)) (pa_cons (pe_xg (pv 4)) pa_nil))) (pa_cons (pe_lstN (pa_cons (pv 0) (pa_cons (pv 0) pa_nil))) (pa_cons pe_str pa_nil))))) pa_nil)))
      (pss_cons (ps_par (i := 3) (j := 4) rfl scEB.nd rfl rfl (by decide) rfl rfl (pa_cons (pe_x1 (T.one 16 "place" rfl) hr1 (T.at_ 16 "NoPart" rfl) (by rfl) (pa_cons (pv 0) pa_nil)) (pa_cons (pe_x1k (T.one 16 "place" rfl) hr1 (T.at_ 16 "NoPart" rfl) (by rfl) (pk_cons (pv 0) pk_nil)) pa_nil)) (by rfl))
      (pss_cons (ps_expr (pe_bm PySem.F.plainAttrs_list PySem.F.slot_list_append PySem.F.type_list_append mt_append (pv 2) (pa_cons (pe_tup (pa_cons (pv 3) (pa_cons (pe_lstN (pa_cons (pe_xg (pv 3)) (pa_cons (pe_xg (pv 4)) pa_nil))) (pa_cons (pe_lstN (pa_cons (pv 0) (pa_cons (pv 0) pa_nil))) (pa_cons pe_str pa_nil))))) pa_nil)))
      (pss_cons (ps_par (i := 3) (j := 4) rfl scEB.nd rfl rfl (by decide) rfl rfl (pa_cons (pe_x1 (T.one 17 "spot" rfl) hr1 (T.at_ 17 "NoSpot" rfl) (by rfl) (pa_cons (pv 0) pa_nil)) (pa_cons (pe_x1k (T.one 17 "spot" rfl) hr1 (T.at_ 17 "NoSpot" rfl) (by rfl) (pk_cons (pv 0) pk_nil)) pa_nil)) (by rfl))
      (pss_cons (ps_expr (pe_bm PySem.F.plainAttrs_list PySem.F.slot_list_append PySem.F.type_list_append mt_append (pv 2) (pa_cons (pe_tup (pa_cons (pv 3) (pa_cons (pe_lstN (pa_cons (pe_xg (pv 3)) (pa_cons (pe_xg (pv 4)) pa_nil))) (pa_cons (pe_lstN (pa_cons (pv 0) (pa_cons (pv 0) pa_nil))) (pa_cons pe_str pa_nil))))) pa_nil)))
      (pss_cons (ps_par (i := 3) (j := 4) rfl scEB.nd rfl rfl (by decide) rfl rfl (pa_cons (pe_x1 (T.one 18 "index" rfl) hr1 (T.at_ 18 "NoWay" rfl) (by rfl) (pa_cons (pv 0) pa_nil)) (pa_cons (pe_x1k (T.one 18 "index" rfl) hr1 (T.at_ 18 "NoWay" rfl) (by rfl) (pk_cons (pv 0) pk_nil)) pa_nil)) (by rfl))
      (pss_cons (ps_expr (pe_bm PySem.F.plainAttrs_list PySem.F.slot_list_append PySem.F.type_list_append mt_append (pv 2) (pa_cons (pe_tup (pa_cons (pv 3) (pa_cons (pe_lstN (pa_cons (pe_xg (pv 3)) (pa_cons (pe_xg (pv 4)) pa_nil))) (pa_cons (pe_lstN (pa_cons (pv 0) (pa_cons (pv 0) pa_nil))) (pa_cons pe_str pa_nil))))) pa_nil)))
      (pss_cons (ps_par (i := 3) (j := 4) rfl scEB.nd rfl rfl (by decide) rfl rfl (pa_cons (pe_x1 (T.one 19 "index" rfl) hr1 (T.at_ 19 "NotThere" rfl) (by rfl) (pa_cons (pv 0) pa_nil)) (pa_cons (pe_x1k (T.one 19 "index" rfl) hr1 (T.at_ 19 "NotThere" rfl) (by rfl) (pk_cons (pv 0) pk_nil)) pa_nil)) (by rfl))
      (pss_cons (ps_expr (pe_bm PySem.F.plainAttrs_list PySem.F.slot_list_append PySem.F.type_list_append mt_append (pv 2) (pa_cons (pe_tup (pa_cons (pv 3) (pa_cons (pe_lstN (pa_cons (pe_xg (pv 3)) (pa_cons (pe_xg (pv 4)) pa_nil))) (pa_cons (pe_lstN (pa_cons (pv 0) (pa_cons (pv 0) pa_nil))) (pa_cons pe_str pa_nil))))) pa_nil)))
      (pss_cons (ps_par (i := 3) (j := 4) rfl scEB.nd rfl rfl (by decide) rfl rfl (pa_cons (pe_x1 (T.one 20 "value" rfl) hr1 (T.at_ 20 "NoName" rfl) (by rfl) (pa_cons (pv 0) pa_nil)) (pa_cons (pe_x1k (T.one 20 "value" rfl) hr1 (T.at_ 20 "NoName" rfl) (by rfl) (pk_cons (pv 0) pk_nil)) pa_nil)) (by rfl))
      (pss_cons (ps_expr (pe_bm PySem.F.plainAttrs_list PySem.F.slot_list_append PySem.F.type_list_append mt_append (pv 2) (pa_cons (pe_tup (pa_cons (pv 3) (pa_cons (pe_lstN (pa_cons (pe_xg (pv 3)) (pa_cons (pe_xg (pv 4)) pa_nil))) (pa_cons (pe_lstN (pa_cons (pv 0) (pa_cons (pv 0) pa_nil))) (pa_cons pe_str pa_nil))))) pa_nil)))
      (pss_cons (ps_par (i := 3) (j := 4) rfl scEB.nd rfl rfl (by decide) rfl rfl (pa_cons (pe_x1 (T.one 21 "value" rfl) hr1 (T.at_ 21 "OutOfRange" rfl) (by rfl) (pa_cons (pv 0) pa_nil)) (pa_cons (pe_x1k (T.one 21 "value" rfl) hr1 (T.at_ 21 "OutOfRange" rfl) (by rfl) (pk_cons (pv 0) pk_nil)) pa_nil)) (by rfl))
      (pss_cons (ps_expr (pe_bm PySem.F.plainAttrs_list PySem.F.slot_list_append PySem.F.type_list_append mt_append (pv 2) (pa_cons (pe_tup (pa_cons (pv 3) (pa_cons (pe_lstN (pa_cons (pe_xg (pv 3)) (pa_cons (pe_xg (pv 4)) pa_nil))) (pa_cons (pe_lstN (pa_cons (pv 0) (pa_cons (pv 0) pa_nil))) (pa_cons pe_str pa_nil))))) pa_nil)))
      (pss_cons (ps_par (i := 3) (j := 4) rfl scEB.nd rfl rfl (by decide) rfl rfl (pa_cons (pe_x2 T.un hr1 (T.at_ 22 "Unknown" rfl) (by rfl) (pa_cons (pv 0) (pa_cons (pv 1) pa_nil))) (pa_cons (pe_x2k T.un hr1 (T.at_ 22 "Unknown" rfl) (by rfl) (pk_cons (pv 1) (pk_cons (pv 0) pk_nil))) pa_nil)) (by rfl))
      (pss_cons (ps_expr (pe_bm PySem.F.plainAttrs_list PySem.F.slot_list_append PySem.F.type_list_append mt_append (pv 2) (pa_cons (pe_tup (pa_cons (pv 3) (pa_cons (pe_lstN (pa_cons (pe_xg (pv 3)) (pa_cons (pe_xg (pv 3)) (pa_cons (pe_xg (pv 4)) (pa_cons (pe_xg (pv 4)) pa_nil))))) (pa_cons (pe_lstN (pa_cons (pv 0) (pa_cons (pv 1) (pa_cons (pv 0) (pa_cons (pv 1) pa_nil))))) (pa_cons pe_str pa_nil))))) pa_nil)))
      (pss_cons (ps_par (i := 3) (j := 4) rfl scEB.nd rfl rfl (by decide) rfl rfl (pa_cons (pe_x1 (T.one 23 "name" rfl) hr1 (T.at_ 23 "UnknownShape" rfl) (by rfl) (pa_cons (pv 0) pa_nil)) (pa_cons (pe_x1k (T.one 23 "name" rfl) hr1 (T.at_ 23 "UnknownShape" rfl) (by rfl) (pk_cons (pv 0) pk_nil)) pa_nil)) (by rfl))
      (pss_cons (ps_expr (pe_bm PySem.F.plainAttrs_list PySem.F.slot_list_append PySem.F.type_list_append mt_append (pv 2) (pa_cons (pe_tup (pa_cons (pv 3) (pa_cons (pe_lstN (pa_cons (pe_xg (pv 3)) (pa_cons (pe_xg (pv 4)) pa_nil))) (pa_cons (pe_lstN (pa_cons (pv 0) (pa_cons (pv 0) pa_nil))) (pa_cons pe_str pa_nil))))) pa_nil)))
      (pss_cons (ps_par (i := 3) (j := 4) rfl scEB.nd rfl rfl (by decide) rfl rfl (pa_cons (pe_x1 (T.one 24 "reason" rfl) hr1 (T.at_ 24 "Fails" rfl) (by rfl) (pa_cons (pv 0) pa_nil)) (pa_cons (pe_x1k (T.one 24 "reason" rfl) hr1 (T.at_ 24 "Fails" rfl) (by rfl) (pk_cons (pv 0) pk_nil)) pa_nil)) (by rfl))
      (pss_cons (ps_expr (pe_bm PySem.F.plainAttrs_list PySem.F.slot_list_append PySem.F.type_list_append mt_append (pv 2) (pa_cons (pe_tup (pa_cons (pv 3) (pa_cons (pe_lstN (pa_cons (pe_xg (pv 3)) (pa_cons (pe_xg (pv 4)) pa_nil))) (pa_cons (pe_lstN (pa_cons (pv 0) (pa_cons (pv 0) pa_nil))) (pa_cons pe_str pa_nil))))) pa_nil)))
      (pss_cons (ps_par (i := 3) (j := 4) rfl scEB.nd rfl rfl (by decide) rfl rfl (pa_cons (pe_x2 T.fa hr1 (T.at_ 25 "Failed" rfl) (by rfl) (pa_cons (pv 0) (pa_cons (pv 1) pa_nil))) (pa_cons (pe_x2k T.fa hr1 (T.at_ 25 "Failed" rfl) (by rfl) (pk_cons (pv 1) (pk_cons (pv 0) pk_nil))) pa_nil)) (by rfl))
      (pss_cons (ps_expr (pe_bm PySem.F.plainAttrs_list PySem.F.slot_list_append PySem.F.type_list_append mt_append (pv 2) (pa_cons (pe_tup (pa_cons (pv 3) (pa_cons (pe_lstN (pa_cons (pe_xg (pv 3)) (pa_cons (pe_xg (pv 3)) (pa_cons (pe_xg (pv 4)) (pa_cons (pe_xg (pv 4)) pa_nil))))) (pa_cons (pe_lstN (pa_cons (pv 0) (pa_cons (pv 1) (pa_cons (pv 0) (pa_cons (pv 1) pa_nil))))) (pa_cons pe_str pa_nil))))) pa_nil)))
      (pss_cons (ps_par (i := 3) (j := 4) rfl scEB.nd rfl rfl (by decide) rfl rfl (pa_cons (pe_x1 (T.one 26 "index" rfl) hr1 (T.at_ 26 "NoOutcome" rfl) (by rfl) (pa_cons (pv 0) pa_nil)) (pa_cons (pe_x1k (T.one 26 "index" rfl) hr1 (T.at_ 26 "NoOutcome" rfl) (by rfl) (pk_cons (pv 0) pk_nil)) pa_nil)) (by rfl))
      (pss_cons (ps_expr (pe_bm PySem.F.plainAttrs_list PySem.F.slot_list_append PySem.F.type_list_append mt_append (pv 2) (pa_cons (pe_tup (pa_cons (pv 3) (pa_cons (pe_lstN (pa_cons (pe_xg (pv 3)) (pa_cons (pe_xg (pv 4)) pa_nil))) (pa_cons (pe_lstN (pa_cons (pv 0) (pa_cons (pv 0) pa_nil))) (pa_cons pe_str pa_nil))))) pa_nil)))
      (pss_cons (ps_par (i := 3) (j := 4) rfl scEB.nd rfl rfl (by decide) rfl rfl (pa_cons (pe_x1 (T.one 27 "index" rfl) hr1 (T.at_ 27 "TooLong" rfl) (by rfl) (pa_cons (pv 0) pa_nil)) (pa_cons (pe_x1k (T.one 27 "index" rfl) hr1 (T.at_ 27 "TooLong" rfl) (by rfl) (pk_cons (pv 0) pk_nil)) pa_nil)) (by rfl))
      (pss_cons (ps_expr (pe_bm PySem.F.plainAttrs_list PySem.F.slot_list_append PySem.F.type_list_append mt_append (pv 2) (pa_cons (pe_tup (pa_cons (pv 3) (pa_cons (pe_lstN (pa_cons (pe_xg (pv 3)) (pa_cons (pe_xg (pv 4)) pa_nil))) (pa_cons (pe_lstN (pa_cons (pv 0) (pa_cons (pv 0) pa_nil))) (pa_cons pe_str pa_nil))))) pa_nil)))
      (pss_cons (ps_par (i := 3) (j := 4) rfl scEB.nd rfl rfl (by decide) rfl rfl (pa_cons (pe_x1 (T.one 28 "index" rfl) hr1 (T.at_ 28 "Broken" rfl) (by rfl) (pa_cons (pv 0) pa_nil)) (pa_cons (pe_x1k (T.one 28 "index" rfl) hr1 (T.at_ 28 "Broken" rfl) (by rfl) (pk_cons (pv 0) pk_nil)) pa_nil)) (by rfl))
      (pss_cons (ps_expr (pe_bm PySem.F.plainAttrs_list PySem.F.slot_list_append PySem.F.type_list_append mt_append (pv 2) (pa_cons (pe_tup (pa_cons (pv 3) (pa_cons (pe_lstN (pa_cons (pe_xg (pv 3)) (pa_cons (pe_xg (pv 4)) pa_nil))) (pa_cons (pe_lstN (pa_cons (pv 0) (pa_cons (pv 0) pa_nil))) (pa_cons pe_str pa_nil))))) pa_nil)))
      (pss_one (ps_ret (pv 2))))))))))))))))))))))))))))))), ?_⟩
    refine ⟨Nat.zero_le _, fun R nR => ?_⟩
    have b0 : But R (upd H R (.lst [])) (upd H R (.lst [])) := But.refl
    have k0 : RowsOk (delH (upd H R (.lst [])) R) [] [] := .nil
    have l0 : (upd H R (.lst [])) R = some (.lst []) := upd_same
    refine row1 (T.g 15 (by decide)) (T.one 15 "question" rfl).fr.n l0 (by simp) k0 fun H1 r0 e0 f0 c1 l1 k1 => ?_
    have b1 := b0.trans c1
    refine row1 (T.g 16 (by decide)) (T.one 16 "place" rfl).fr.n l1 (by simp) k1 fun H2 r1 e1 f1 c2 l2 k2 => ?_
    have b2 := b1.trans c2
    refine row1 (T.g 17 (by decide)) (T.one 17 "spot" rfl).fr.n l2 (by simp) k2 fun H3 r2 e2 f2 c3 l3 k3 => ?_
    have b3 := b2.trans c3
    refine row1 (T.g 18 (by decide)) (T.one 18 "index" rfl).fr.n l3 (by simp) k3 fun H4 r3 e3 f3 c4 l4 k4 => ?_
    have b4 := b3.trans c4
    refine row1 (T.g 19 (by decide)) (T.one 19 "index" rfl).fr.n l4 (by simp) k4 fun H5 r4 e4 f4 c5 l5 k5 => ?_
    have b5 := b4.trans c5
    refine row1 (T.g 20 (by decide)) (T.one 20 "value" rfl).fr.n l5 (by simp) k5 fun H6 r5 e5 f5 c6 l6 k6 => ?_
    have b6 := b5.trans c6
    refine row1 (T.g 21 (by decide)) (T.one 21 "value" rfl).fr.n l6 (by simp) k6 fun H7 r6 e6 f6 c7 l7 k7 => ?_
    have b7 := b6.trans c7
    refine row2 (T.g 22 (by decide)) T.un.fr.n T.un.gr.n (by decide) l7 (by simp) k7 fun H8 r7 e7 f7 c8 l8 k8 => ?_
    have b8 := b7.trans c8
    refine row1 (T.g 23 (by decide)) (T.one 23 "name" rfl).fr.n l8 (by simp) k8 fun H9 r8 e8 f8 c9 l9 k9 => ?_
    have b9 := b8.trans c9
    refine row1 (T.g 24 (by decide)) (T.one 24 "reason" rfl).fr.n l9 (by simp) k9 fun H10 r9 e9 f9 c10 l10 k10 => ?_
    have b10 := b9.trans c10
    refine row2 (T.g 25 (by decide)) T.fa.fr.n T.fa.gr.n (by decide) l10 (by simp) k10 fun H11 r10 e10 f10 c11 l11 k11 => ?_
    have b11 := b10.trans c11
    refine row1 (T.g 26 (by decide)) (T.one 26 "index" rfl).fr.n l11 (by simp) k11 fun H12 r11 e11 f11 c12 l12 k12 => ?_
    have b12 := b11.trans c12
    refine row1 (T.g 27 (by decide)) (T.one 27 "index" rfl).fr.n l12 (by simp) k12 fun H13 r12 e12 f12 c13 l13 k13 => ?_
    have b13 := b12.trans c13
    refine row1 (T.g 28 (by decide)) (T.one 28 "index" rfl).fr.n l13 (by simp) k13 fun H14 r13 e13 f13 c14 l14 k14 => ?_
    have b14 := b13.trans c14
    refine ⟨_, rfl, q _ R _ (fun b o h => b14 b o (ne_of_none h nR) ((upd_ne (ne_of_none h nR)).trans h)) nR l14 (RowsOk.mono (Same.off R) k14)⟩
end
end Toy


namespace Toy
open PySem L2 PySem.KX
abbrev sFlags : Stmt := top 37
abbrev sSorts : Stmt := top 38
def flagV (i : Nat) : List V := (List.range 29).map fun j => V.bl (decide (j = i))
/-- vs = [an exception of the i-th class] -/
def ExAt (C : Nat → Addr) (H : Hp) (e : Addr) (i : Nat) : Prop := i < 29 ∧ ∃ (d : Addr) (fs : List (Str × V)), H e = some (exo e (C i) (some d)) ∧ H d = some (exd d fs)
theorem ExAt.mono {C : Nat → Addr} {H H' : Hp} {e : Addr} {i : Nat} (s : Same H H') (x : ExAt C H e i) : ExAt C H' e i := by
  obtain ⟨h, d, fs, h1, h2⟩ := x
  exact ⟨h, d, fs, s _ _ h1, s _ _ h2⟩
def spFlags (C : Nat → Addr) : Sp := fun vs H Q _ => ∃ (e : Addr) (i : Nat), vs = [.ref e] ∧ ExAt C H e i ∧ ∀ H' R, Same H H' → H R = none → H' R = some (.lst (flagV i)) → Q (.ref R) H'
def sortV (i : Nat) : Str := if i < 16 then "value" else if i < 24 then "lookup" else "runtime"
def spSorts (C : Nat → Addr) : Sp := fun vs H Q _ => ∃ (e : Addr) (i : Nat), vs = [.ref e] ∧ ExAt C H e i ∧ ∀ H' R, Same H H' → H R = none → H' R = some (.lst [.str (sortV i)]) → Q (.ref R) H'
section
variable {P : Program} {w : World} {K : PySem.W.Frag} {mg : Str → Option Value} {base : Heap} {C : Nat → Addr}
theorem ext2 {D : Ends} {H H0 : Hp} {rest : TS} {σ : St} {e R : Addr} {i : Nat} {bs : List V} {j1 j2 : Nat} (T : Txt K mg C) (x : ExAt C H0 e i) (b0 : But R H0 H) (n0 : H0 R = none) (hR : H R = some (.lst bs)) (hl : bs.length ≤ 100) (l1 : j1 < 29) (l2 : j2 < 29) (h0 : σ[0]? = some (some (.ref e))) (h1 : σ[1]? = some (some (.ref R)))
    (q : ∀ H', But R H0 H' → H' R = some (.lst (bs ++ [.bl (decide (j1 = i)), .bl (decide (j2 = i))])) → rest D σ H') :
    tSeq (tDrop (tBM K "list" rExtend (tVar 1) (tCons (tLst (tCons (tCB (rIsX K) (tCons (tVar 0) (tCons (tC (.ref (C j1))) tNil))) (tCons (tCB (rIsX K) (tCons (tVar 0) (tCons (tC (.ref (C j2))) tNil))) tNil))) tNil))) rest D σ H := by
  obtain ⟨li, d, fs, he, hd⟩ := x
  have g : ∀ {b : Addr} {o : HO}, H0 b = some o → H b = some o := fun {b o} h => b0 b o (ne_of_none h n0) h
  refine ⟨_, h1, .inl ⟨rfl, _, SqL.of hR⟩, _, h0, e, C i, d, fs, _, _, _, rfl, .own _, T.g i li, g he, g hd, T.kit i j1 li l1, _, h0, e, C i, d, fs, _, _, _, rfl, .own _, T.g i li, g he, g hd, T.kit i j2 li l2, few (by show 2 ≤ 1000; decide), fun l nl => ?_⟩
  have nRl : R ≠ l := ne_of_none hR nl
  refine ⟨R, l, bs, _, rfl, rfl, by rw [upd_ne nRl]; exact hR, upd_same, few (by show bs.length + 2 ≤ 1000; omega), q _ (fun b o n h => ?_) upd_same⟩
  rw [upd_ne n, upd_ne (ne_of_none (b0 b o n h) nl)]
  exact b0 b o n h
theorem ext1 {D : Ends} {H H0 : Hp} {rest : TS} {σ : St} {e R : Addr} {i : Nat} {bs : List V} {j1 : Nat} (T : Txt K mg C) (x : ExAt C H0 e i) (b0 : But R H0 H) (n0 : H0 R = none) (hR : H R = some (.lst bs)) (hl : bs.length ≤ 100) (l1 : j1 < 29) (h0 : σ[0]? = some (some (.ref e))) (h1 : σ[1]? = some (some (.ref R)))
    (q : ∀ H', But R H0 H' → H' R = some (.lst (bs ++ [.bl (decide (j1 = i))])) → rest D σ H') :
    tSeq (tDrop (tBM K "list" rExtend (tVar 1) (tCons (tLst (tCons (tCB (rIsX K) (tCons (tVar 0) (tCons (tC (.ref (C j1))) tNil))) tNil)) tNil))) rest D σ H := by
  obtain ⟨li, d, fs, he, hd⟩ := x
  have g : ∀ {b : Addr} {o : HO}, H0 b = some o → H b = some o := fun {b o} h => b0 b o (ne_of_none h n0) h
  refine ⟨_, h1, .inl ⟨rfl, _, SqL.of hR⟩, _, h0, e, C i, d, fs, _, _, _, rfl, .own _, T.g i li, g he, g hd, T.kit i j1 li l1, few (by show 1 ≤ 1000; decide), fun l nl => ?_⟩
  have nRl : R ≠ l := ne_of_none hR nl
  refine ⟨R, l, bs, _, rfl, rfl, by rw [upd_ne nRl]; exact hR, upd_same, few (by show bs.length + 1 ≤ 1000; omega), q _ (fun b o n h => ?_) upd_same⟩
  rw [upd_ne n, upd_ne (ne_of_none (b0 b o n h) nl)]
  exact b0 b o n h
theorem scF : FnScope ["_law_e", "_law_rows"] ["_law_e"] (defScope sFlags) := ⟨rfl, rfl, rfl, by decide +kernel, rfl, by decide +kernel, by decide +kernel⟩
theorem ok_flags {f : Addr} {fd : FuncData} (F : Fun K "_law_flags" "_law_flags" sFlags f fd) (T : Txt K mg C) (mI : mg "isinstance" = none) : FnOk P w K mg base CX0 1 f fd ["_law_e"] (spFlags C) := by
  refine F.ok scF (fun vs H Q E h => ?_) (fun cdv A outer s H vs Q E hr h => ?_)
  · obtain ⟨e, i, rfl, _⟩ := h
    rfl
  · obtain ⟨e, i, rfl, hx, q⟩ := h
    refine ⟨_, pss_cons (ps_set (i := 1) scF.nd rfl (Or.inl rfl) (pe_lst pa_nil))
      (pss_cons (ps_expr (pe_bm PySem.F.plainAttrs_list PySem.F.slot_list_extend PySem.F.type_list_extend mt_extend (pv 1) (pa_cons (pe_lst (pa_cons (pe_callB call_isX (by rfl) mI PyProof.Rows.boot_isinstance (pa_cons (pv 0) (pa_cons (pe_glob (v := .ref (C 0)) (by rfl) (T.at_ 0 "InvalidDatum" rfl) rfl) pa_nil))) (pa_cons (pe_callB call_isX (by rfl) mI PyProof.Rows.boot_isinstance (pa_cons (pv 0) (pa_cons (pe_glob (v := .ref (C 1)) (by rfl) (T.at_ 1 "InvalidFilter" rfl) rfl) pa_nil))) pa_nil))) pa_nil)))
      (pss_cons (ps_expr (pe_bm PySem.F.plainAttrs_list PySem.F.slot_list_extend PySem.F.type_list_extend mt_extend (pv 1) (pa_cons (pe_lst (pa_cons (pe_callB call_isX (by rfl) mI PyProof.Rows.boot_isinstance (pa_cons (pv 0) (pa_cons (pe_glob (v := .ref (C 2)) (by rfl) (T.at_ 2 "InvalidLimit" rfl) rfl) pa_nil))) (pa_cons (pe_callB call_isX (by rfl) mI PyProof.Rows.boot_isinstance (pa_cons (pv 0) (pa_cons (pe_glob (v := .ref (C 3)) (by rfl) (T.at_ 3 "InvalidCount" rfl) rfl) pa_nil))) pa_nil))) pa_nil)))
      (pss_cons (ps_expr (pe_bm PySem.F.plainAttrs_list PySem.F.slot_list_extend PySem.F.type_list_extend mt_extend (pv 1) (pa_cons (pe_lst (pa_cons (pe_callB call_isX (by rfl) mI PyProof.Rows.boot_isinstance (pa_cons (pv 0) (pa_cons (pe_glob (v := .ref (C 4)) (by rfl) (T.at_ 4 "InvalidCode" rfl) rfl) pa_nil))) (pa_cons (pe_callB call_isX (by rfl) mI PyProof.Rows.boot_isinstance (pa_cons (pv 0) (pa_cons (pe_glob (v := .ref (C 5)) (by rfl) (T.at_ 5 "InvalidText" rfl) rfl) pa_nil))) pa_nil))) pa_nil)))
      (pss_cons (ps_expr (pe_bm PySem.F.plainAttrs_list PySem.F.slot_list_extend PySem.F.type_list_extend mt_extend (pv 1) (pa_cons (pe_lst (pa_cons (pe_callB call_isX (by rfl) mI PyProof.Rows.boot_isinstance (pa_cons (pv 0) (pa_cons (pe_glob (v := .ref (C 6)) (by rfl) (T.at_ 6 "InvalidName" rfl) rfl) pa_nil))) (pa_cons (pe_callB call_isX (by rfl) mI PyProof.Rows.boot_isinstance (pa_cons (pv 0) (pa_cons (pe_glob (v := .ref (C 7)) (by rfl) (T.at_ 7 "InvalidEntry" rfl) rfl) pa_nil))) pa_nil))) pa_nil)))
      (pss_cons (ps_expr (pe_bm PySem.F.plainAttrs_list PySem.F.slot_list_extend PySem.F.type_list_extend mt_extend (pv 1) (pa_cons (pe_lst (pa_cons (pe_callB call_isX (by rfl) mI PyProof.Rows.boot_isinstance (pa_cons (pv 0) (pa_cons (pe_glob (v := .ref (C 8)) (by rfl) (T.at_ 8 "InvalidDeed" rfl) rfl) pa_nil))) (pa_cons (pe_callB call_isX (by rfl) mI PyProof.Rows.boot_isinstance (pa_cons (pv 0) (pa_cons (pe_glob (v := .ref (C 9)) (by rfl) (T.at_ 9 "InvalidGuard" rfl) rfl) pa_nil))) pa_nil))) pa_nil)))
      (pss_cons (ps_expr (pe_bm PySem.F.plainAttrs_list PySem.F.slot_list_extend PySem.F.type_list_extend mt_extend (pv 1) (pa_cons (pe_lst (pa_cons (pe_callB call_isX (by rfl) mI PyProof.Rows.boot_isinstance (pa_cons (pv 0) (pa_cons (pe_glob (v := .ref (C 10)) (by rfl) (T.at_ 10 "NotChooser" rfl) rfl) pa_nil))) (pa_cons (pe_callB call_isX (by rfl) mI PyProof.Rows.boot_isinstance (pa_cons (pv 0) (pa_cons (pe_glob (v := .ref (C 11)) (by rfl) (T.at_ 11 "NotFitting" rfl) rfl) pa_nil))) pa_nil))) pa_nil)))
      (pss_cons (ps_expr (pe_bm PySem.F.plainAttrs_list PySem.F.slot_list_extend PySem.F.type_list_extend mt_extend (pv 1) (pa_cons (pe_lst (pa_cons (pe_callB call_isX (by rfl) mI PyProof.Rows.boot_isinstance (pa_cons (pv 0) (pa_cons (pe_glob (v := .ref (C 12)) (by rfl) (T.at_ 12 "Endless" rfl) rfl) pa_nil))) (pa_cons (pe_callB call_isX (by rfl) mI PyProof.Rows.boot_isinstance (pa_cons (pv 0) (pa_cons (pe_glob (v := .ref (C 13)) (by rfl) (T.at_ 13 "TooGreat" rfl) rfl) pa_nil))) pa_nil))) pa_nil)))
      (pss_cons (ps_expr (pe_bm PySem.F.plainAttrs_list PySem.F.slot_list_extend PySem.F.type_list_extend mt_extend (pv 1) (pa_cons (pe_lst (pa_cons (pe_callB call_isX (by rfl) mI PyProof.Rows.boot_isinstance (pa_cons (pv 0) (pa_cons (pe_glob (v := .ref (C 14)) (by rfl) (T.at_ 14 "Standing" rfl) rfl) pa_nil))) (pa_cons (pe_callB call_isX (by rfl) mI PyProof.Rows.boot_isinstance (pa_cons (pv 0) (pa_cons (pe_glob (v := .ref (C 15)) (by rfl) (T.at_ 15 "NoQuestion" rfl) rfl) pa_nil))) pa_nil))) pa_nil)))
      (pss_cons (ps_expr (pe_bm PySem.F.plainAttrs_list PySem.F.slot_list_extend PySem.F.type_list_extend mt_extend (pv 1) (pa_cons (pe_lst (pa_cons (pe_callB call_isX (by rfl) mI PyProof.Rows.boot_isinstance (pa_cons (pv 0) (pa_cons (pe_glob (v := .ref (C 16)) (by rfl) (T.at_ 16 "NoPart" rfl) rfl) pa_nil))) (pa_cons (pe_callB call_isX (by rfl) mI PyProof.Rows.boot_isinstance (pa_cons (pv 0) (pa_cons (pe_glob (v := .ref (C 17)) (by rfl) (T.at_ 17 "NoSpot" rfl) rfl) pa_nil))) pa_nil))) pa_nil)))
      (pss_cons (ps_expr (pe_bm PySem.F.plainAttrs_list PySem.F.slot_list_extend PySem.F.type_list_extend mt_extend (pv 1) (pa_cons (pe_lst (pa_cons (pe_callB call_isX (by rfl) mI PyProof.Rows.boot_isinstance (pa_cons (pv 0) (pa_cons (pe_glob (v := .ref (C 18)) (by rfl) (T.at_ 18 "NoWay" rfl) rfl) pa_nil))) (pa_cons (pe_callB call_isX (by rfl) mI PyProof.Rows.boot_isinstance (pa_cons (pv 0) (pa_cons (pe_glob (v := .ref (C 19)) (by rfl) (T.at_ 19 "NotThere" rfl) rfl) pa_nil))) pa_nil))) pa_nil)))
      (pss_cons (ps_expr (pe_bm PySem.F.plainAttrs_list PySem.F.slot_list_extend PySem.F.type_list_extend mt_extend (pv 1) (pa_cons (pe_lst (pa_cons (pe_callB call_isX (by rfl) mI PyProof.Rows.boot_isinstance (pa_cons (pv 0) (pa_cons (pe_glob (v := .ref (C 20)) (by rfl) (T.at_ 20 "NoName" rfl) rfl) pa_nil))) (pa_cons (pe_callB call_isX (by rfl) mI PyProof.Rows.boot_isinstance (pa_cons (pv 0) (pa_cons (pe_glob (v := .ref (C 21)) (by rfl) (T.at_ 21 "OutOfRange" rfl) rfl) pa_nil))) pa_nil))) pa_nil)))
      (pss_cons (ps_expr (pe_bm PySem.F.plainAttrs_list PySem.F.slot_list_extend PySem.F.type_list_extend mt_extend (pv 1) (pa_cons (pe_lst (pa_cons (pe_callB call_isX (by rfl) mI PyProof.Rows.boot_isinstance (pa_cons (pv 0) (pa_cons (pe_glob (v := .ref (C 22)) (by rfl) (T.at_ 22 "Unknown" rfl) rfl) pa_nil))) (pa_cons (pe_callB call_isX (by rfl) mI PyProof.Rows.boot_isinstance (pa_cons (pv 0) (pa_cons (pe_glob (v := .ref (C 23)) (by rfl) (T.at_ 23 "UnknownShape" rfl) rfl) pa_nil))) pa_nil))) pa_nil)))
      (pss_cons (ps_expr (pe_bm PySem.F.plainAttrs_list PySem.F.slot_list_extend PySem.F.type_list_extend mt_extend (pv 1) (pa_cons (pe_lst (pa_cons (pe_callB call_isX (by rfl) mI PyProof.Rows.boot_isinstance (pa_cons (pv 0) (pa_cons (pe_glob (v := .ref (C 24)) (by rfl) (T.at_ 24 "Fails" rfl) rfl) pa_nil))) (pa_cons (pe_callB call_isX (by rfl) mI PyProof.Rows.boot_isinstance (pa_cons (pv 0) (pa_cons (pe_glob (v := .ref (C 25)) (by rfl) (T.at_ 25 "Failed" rfl) rfl) pa_nil))) pa_nil))) pa_nil)))
      (pss_cons (ps_expr (pe_bm PySem.F.plainAttrs_list PySem.F.slot_list_extend PySem.F.type_list_extend mt_extend (pv 1) (pa_cons (pe_lst (pa_cons (pe_callB call_isX (by rfl) mI PyProof.Rows.boot_isinstance (pa_cons (pv 0) (pa_cons (pe_glob (v := .ref (C 26)) (by rfl) (T.at_ 26 "NoOutcome" rfl) rfl) pa_nil))) (pa_cons (pe_callB call_isX (by rfl) mI PyProof.Rows.boot_isinstance (pa_cons (pv 0) (pa_cons (pe_glob (v := .ref (C 27)) (by rfl) (T.at_ 27 "TooLong" rfl) rfl) pa_nil))) pa_nil))) pa_nil)))
      (pss_cons (ps_expr (pe_bm PySem.F.plainAttrs_list PySem.F.slot_list_extend PySem.F.type_list_extend mt_extend (pv 1) (pa_cons (pe_lst (pa_cons (pe_callB call_isX (by rfl) mI PyProof.Rows.boot_isinstance (pa_cons (pv 0) (pa_cons (pe_glob (v := .ref (C 28)) (by rfl) (T.at_ 28 "Broken" rfl) rfl) pa_nil))) pa_nil)) pa_nil)))
      (pss_one (ps_ret (pv 1)))))))))))))))))), ?_⟩
    refine ⟨Nat.zero_le _, fun R nR => ?_⟩
    have c0 : But R H (upd H R (.lst [])) := But.refl.upd
    have l0 : (upd H R (.lst [])) R = some (.lst []) := upd_same
    refine ext2 (j1 := 0) (j2 := 1) T hx c0 nR l0 (by simp) (by decide) (by decide) rfl rfl fun H1 c1 l1 => ?_
    refine ext2 (j1 := 2) (j2 := 3) T hx c1 nR l1 (by simp) (by decide) (by decide) rfl rfl fun H2 c2 l2 => ?_
    refine ext2 (j1 := 4) (j2 := 5) T hx c2 nR l2 (by simp) (by decide) (by decide) rfl rfl fun H3 c3 l3 => ?_
    refine ext2 (j1 := 6) (j2 := 7) T hx c3 nR l3 (by simp) (by decide) (by decide) rfl rfl fun H4 c4 l4 => ?_
    refine ext2 (j1 := 8) (j2 := 9) T hx c4 nR l4 (by simp) (by decide) (by decide) rfl rfl fun H5 c5 l5 => ?_
    refine ext2 (j1 := 10) (j2 := 11) T hx c5 nR l5 (by simp) (by decide) (by decide) rfl rfl fun H6 c6 l6 => ?_
    refine ext2 (j1 := 12) (j2 := 13) T hx c6 nR l6 (by simp) (by decide) (by decide) rfl rfl fun H7 c7 l7 => ?_
    refine ext2 (j1 := 14) (j2 := 15) T hx c7 nR l7 (by simp) (by decide) (by decide) rfl rfl fun H8 c8 l8 => ?_
    refine ext2 (j1 := 16) (j2 := 17) T hx c8 nR l8 (by simp) (by decide) (by decide) rfl rfl fun H9 c9 l9 => ?_
    refine ext2 (j1 := 18) (j2 := 19) T hx c9 nR l9 (by simp) (by decide) (by decide) rfl rfl fun H10 c10 l10 => ?_
    refine ext2 (j1 := 20) (j2 := 21) T hx c10 nR l10 (by simp) (by decide) (by decide) rfl rfl fun H11 c11 l11 => ?_
    refine ext2 (j1 := 22) (j2 := 23) T hx c11 nR l11 (by simp) (by decide) (by decide) rfl rfl fun H12 c12 l12 => ?_
    refine ext2 (j1 := 24) (j2 := 25) T hx c12 nR l12 (by simp) (by decide) (by decide) rfl rfl fun H13 c13 l13 => ?_
    refine ext2 (j1 := 26) (j2 := 27) T hx c13 nR l13 (by simp) (by decide) (by decide) rfl rfl fun H14 c14 l14 => ?_
    refine ext1 (j1 := 28) T hx c14 nR l14 (by simp) (by decide) rfl rfl fun H15 c15 l15 => ?_
    exact ⟨_, rfl, q _ R (fun b o h => c15 b o (ne_of_none h nR) h) nR l15⟩
/-! ### sorts -/
def three : List Str := ["value", "lookup", "runtime"]
def told (fl : List Bool) : List V := ((three.zip fl).filter (·.2)).map fun p => V.str p.1
def toldN (fl : List Bool) (k : Nat) : List V := (((three.zip fl).take k).filter (·.2)).map fun p => V.str p.1
theorem toldN_succ {fl : List Bool} {k : Nat} {x : Str} {b : Bool} (h1 : three[k]? = some x) (h2 : fl[k]? = some b) : toldN fl (k + 1) = toldN fl k ++ (if b = true then [V.str x] else []) := by
  have z : (three.zip fl)[k]? = some (x, b) := by
    rw [List.getElem?_zip_eq_some]
    exact ⟨h1, h2⟩
  unfold toldN
  rw [List.take_add_one, z, List.filter_append, List.map_append]
  cases b <;> rfl
theorem scS : FnScope ["_law_e", "_law_flags_here", "_law_sort", "_law_flag"] ["_law_e"] (defScope sSorts) := ⟨rfl, rfl, rfl, by decide +kernel, rfl, by decide +kernel, by decide +kernel⟩
theorem ok_sorts {f : Addr} {fd : FuncData} (F : Fun K "_law_sorts" "_law_sorts" sSorts f fd) (T : Txt K mg C) (mI : mg "isinstance" = none) (mV : mg "ValueError" = none) (mL : mg "LookupError" = none) (mR : mg "RuntimeError" = none) (mZ : mg "zip" = none) : FnOk P w K mg base CX0 1 f fd ["_law_e"] (spSorts C) := by
  refine F.ok scS (fun vs H Q E h => ?_) (fun cdv A outer s H vs Q E hr h => ?_)
  · obtain ⟨e, i, rfl, _⟩ := h
    rfl
  · obtain ⟨e, i, rfl, hx, q⟩ := h
    refine ⟨_, pss_cons (ps_set (i := 1) scS.nd rfl (Or.inl rfl) (pe_lst (pa_cons (pe_callB call_isX (by rfl) mI PyProof.Rows.boot_isinstance (pa_cons (pv 0) (pa_cons (pe_bltn (v := .ty "ValueError") (by rfl) mV (by decide +kernel) rfl) pa_nil)))
        (pa_cons (pe_callB call_isX (by rfl) mI PyProof.Rows.boot_isinstance (pa_cons (pv 0) (pa_cons (pe_bltn (v := .ty "LookupError") (by rfl) mL (by decide +kernel) rfl) pa_nil)))
        (pa_cons (pe_callB call_isX (by rfl) mI PyProof.Rows.boot_isinstance (pa_cons (pv 0) (pa_cons (pe_bltn (v := .ty "RuntimeError") (by rfl) mR (by decide +kernel) rfl) pa_nil))) pa_nil)))))
      (pss_one (ps_ret (pe_lc (own := [("_law_sort", 2), ("_law_flag", 3)]) (g := gTup K 2 (gCons (gName 2) (gCons (gName 3) gNil))) (by rfl) scS.nd (pi_zip (by rfl) mZ (pa_cons (pe_lst (pa_cons pe_str (pa_cons pe_str (pa_cons pe_str pa_nil)))) (pa_cons (pv 1) pa_nil)))
        (blkOk_by (own := [("_law_sort", 2), ("_law_flag", 3)]) (N := ["_law_e", "_law_flags_here", "_law_sort", "_law_flag"]) (sc := defScope sSorts) (by decide +kernel))
        (fun _ _ _ _ _ => by exact (pg_tup rfl (pgs_cons (by exact (pg_name (i := 2) scS.nd rfl (Or.inl rfl))) (pgs_cons (by exact (pg_name (i := 3) scS.nd rfl (Or.inl rfl))) pgs_nil))))
        (fun _ _ _ _ _ => pts_one (pt_val (pv 3))) (fun _ _ _ _ _ => pv 2)))), ?_⟩
    obtain ⟨li, d, fs, he, hd⟩ := hx
    refine ⟨_, rfl, e, C i, d, fs, _, _, _, rfl, .ty _, T.g i li, he, hd, T.kV i li, _, rfl, e, C i, d, fs, _, _, _, rfl, .ty _, T.g i li, he, hd, T.kL i li, _, rfl, e, C i, d, fs, _, _, _, rfl, .ty _, T.g i li, he, hd, T.kR i li, few (by show 3 ≤ 1000; decide), fun l nl => ?_⟩
    refine ⟨few (by show 3 ≤ 1000; decide), fun a na => ⟨_, rfl, a, l, three.map V.str, ([decide (i < 16), decide (16 ≤ i ∧ i < 24), decide (24 ≤ i)] : List Bool).map V.bl, rfl, SqL.of upd_same, SqL.of ((upd_ne (ne_of_none upd_same na)).trans upd_same), fun D nD => ?_⟩⟩
    generalize hfl : ([decide (i < 16), decide (16 ≤ i ∧ i < 24), decide (24 ≤ i)] : List Bool) = fl
    have lfl : fl.length = 3 := by rw [← hfl]; rfl
    have last : toldN fl 3 = [.str (sortV i)] := by
      rw [← hfl]
      unfold sortV
      by_cases h1 : i < 16
      · have h2 : ¬ (16 ≤ i ∧ i < 24) := by omega
        have h3 : ¬ (24 ≤ i) := by omega
        rw [decide_eq_true h1, decide_eq_false h2, decide_eq_false h3, if_pos h1]
        rfl
      · by_cases h2 : i < 24
        · have h3 : ¬ (24 ≤ i) := by omega
          rw [decide_eq_false h1, decide_eq_true (show 16 ≤ i ∧ i < 24 by omega), decide_eq_false h3, if_neg h1, if_pos h2]
          rfl
        · rw [decide_eq_false h1, decide_eq_false (show ¬ (16 ≤ i ∧ i < 24) by omega), decide_eq_true (show 24 ≤ i by omega), if_neg h1, if_neg h2]
          rfl
    have s1 : Same H (upd (upd H l (.lst (fl.map V.bl))) a (.lst (three.map V.str))) := by
      refine same_new (same_new (fun _ _ z => z) nl) ?_
      rw [← hfl]
      exact na
    have nD' : (upd (upd H l (.lst (fl.map V.bl))) a (.lst (three.map V.str))) D = none := by
      rw [← hfl]
      exact nD
    have sl : (upd (upd H l (.lst (fl.map V.bl))) a (.lst (three.map V.str))) l = some (.lst (fl.map V.bl)) := by
      refine (upd_ne ?_).trans upd_same
      have z : (upd H l (.lst (fl.map V.bl))) a = none := by
        rw [← hfl]
        exact na
      exact ne_of_none upd_same z
    refine ⟨fun k m H' => m + k = 3 ∧ Same (upd (upd H l (.lst (fl.map V.bl))) a (.lst (three.map V.str))) H' ∧ H' D = some (.lst (toldN fl k)), ⟨3, rfl, ?_, ?_⟩, fun k m H' hW => ?_⟩
    · subst hfl
      exact same_new (fun _ _ z => z) nD
    · exact upd_same
    · obtain ⟨em, sm, hD⟩ := hW
      have hA : SqL K H' a (three.map V.str) := SqL.of (sm _ _ upd_same)
      have hB : SqL K H' l (fl.map V.bl) := SqL.of (sm _ _ sl)
      by_cases hk : k < 3
      · have g1 : three[k]? = some three[k] := List.getElem?_eq_getElem hk
        have g2 : fl[k]? = some fl[k] := List.getElem?_eq_getElem (by omega)
        have m1 : (three.map V.str)[k]? = some (.str three[k]) := by rw [List.getElem?_map, g1]; rfl
        have m2 : (fl.map V.bl)[k]? = some (.bl fl[k]) := by rw [List.getElem?_map, g2]; rfl
        have st := toldN_succ g1 g2
        refine .inr ⟨⟨_, _, _, _, hA, hB, m1, m2⟩, fun H2 => Same (upd (upd H l (.lst (fl.map V.bl))) a (.lst (three.map V.str))) H2 ∧ H2 D = some (.lst (toldN fl (k + 1))), fun H2 hN => ⟨m - 1, by omega, by omega, hN.1, hN.2⟩, fun v H2 hy => ?_⟩
        obtain ⟨T1, x1, x2, rfl, nT, rfl, f1, f2⟩ := hy
        obtain rfl : x1 = .str three[k] := Option.some.inj ((f1 _ hA).symm.trans m1)
        obtain rfl : x2 = .bl fl[k] := Option.some.inj ((f2 _ hB).symm.trans m2)
        have nDT : D ≠ T1 := ne_of_none hD nT
        refine ⟨T1, _, rfl, SqT.of upd_same, rfl, _, _, rfl, _, _, rfl, rfl, rfl, _, rfl, _, rfl, ?_⟩
        refine ite2 (fun c => ?_) (fun c => ?_)
        · refine ⟨_, rfl, _, (upd_ne nDT).trans hD, small1000 ?_, fun b o h => ?_, ?_⟩
          · unfold toldN
            rw [List.length_map]
            refine Nat.le_trans (List.length_filter_le _ _) ?_
            rw [List.length_take]
            omega
          · rw [upd_ne (fun z => by rw [z, nD'] at h; cases h)]
            exact same_new (u := .tup [.str three[k], .bl fl[k]]) sm nT _ _ h
          · rw [upd_same, st, if_pos c]
        · refine ⟨same_new sm nT, ?_⟩
          rw [upd_ne nDT, hD, st, if_neg c, List.append_nil]
      · have hk3 : k = 3 := by omega
        subst hk3
        refine .inl ⟨⟨_, _, hA, hB, .inl (by show 3 ≤ 3; decide)⟩, q _ D (s1.trans sm) ?_ (by rw [hD, last])⟩
        cases e1 : H D with
        | none => rfl
        | some o => rw [s1 _ _ e1] at nD'; cases nD'
end
end Toy


namespace Toy
open PySem L2 PySem.KX
abbrev sLaw : Stmt := top 39
abbrev NL : List Str := ["_law_script", "_law_tape", "_law_turn", "_law_x", "_law_y", "_law_kept", "_law_flags_here", "_law_e", "_law_told", "_law_due", "_law_sort", "_law_alone", "_law_k", "_law_j"]
theorem scL : FnScope NL ["_law_script"] (defScope sLaw) := ⟨rfl, rfl, rfl, by decide +kernel, rfl, by decide +kernel, by decide +kernel⟩
def spLaw (K : PySem.W.Frag) : Sp := fun vs H Q _ => ∃ (a : Addr) (ns : List Int), vs = [.ref a] ∧ SqL K H a (ns.map V.int) ∧ ns.length ≤ 63 ∧ ∀ H', Q (.bl true) H'
/-! ### what the readings of the law want -/
theorem repr_ok {ds : List PyData} (h : ∀ d ∈ ds, Small d) (hl : ds.length ≤ 4) : (PyData.list ds).showable = true ∧ (PyData.list ds).depth ≤ 20 ∧ (PyData.list ds).shown.length ≤ sizeLine := by
  have a1 : ∀ l : List PyData, (∀ d ∈ l, Small d) → PyData.showableAll l = true := by
    intro l
    induction l with
    | nil => intro _; rfl
    | cons x l ih =>
      intro q
      show (x.showable && PyData.showableAll l) = true
      rw [(q x List.mem_cons_self).1, ih fun d hd => q d (List.mem_cons_of_mem _ hd)]
      rfl
  have a2 : ∀ l : List PyData, (∀ d ∈ l, Small d) → PyData.depthAll l ≤ 5 := by
    intro l
    induction l with
    | nil => intro _; exact Nat.zero_le _
    | cons x l ih =>
      intro q
      have h1 := (q x List.mem_cons_self).2.1
      have h2 := ih fun d hd => q d (List.mem_cons_of_mem _ hd)
      simp only [PyData.depthAll]
      omega
  have a3 : ∀ l : List PyData, (∀ d ∈ l, Small d) → ((PyData.shownAll l).map (·.length)).sum ≤ 100 * l.length ∧ (PyData.shownAll l).length = l.length := by
    intro l
    induction l with
    | nil => intro _; exact ⟨Nat.le_refl _, rfl⟩
    | cons x l ih =>
      intro q
      have h1 := (q x List.mem_cons_self).2.2
      obtain ⟨h2, h3⟩ := ih fun d hd => q d (List.mem_cons_of_mem _ hd)
      simp only [PyData.shownAll, List.map_cons, List.sum_cons, List.length_cons]
      omega
  refine ⟨?_, ?_, ?_⟩
  · simp only [PyData.showable]
    exact a1 ds h
  · have := a2 ds h
    simp only [PyData.depth]
    omega
  · simp only [PyData.shown]
    have h1 := listText_len_le (PyData.shownAll ds)
    obtain ⟨h2, h3⟩ := a3 ds h
    rw [sizeLine_eq]
    omega
theorem exo_lst {e c : Addr} {d : Option Addr} {xs : List V} : exo e c d ≠ .lst xs := fun z => by
  have z' : HO.ext _ = HO.lst xs := z
  cases z'
theorem exd_lst {e : Addr} {fs : List (Str × V)} {xs : List V} : exd e fs ≠ .lst xs := fun z => by
  have z' : HO.ext _ = HO.lst xs := z
  cases z'
/-- the i-th row's due -/
def dueV (x y : V) (i : Nat) : List V := if i = 22 ∨ i = 25 then [x, y, x, y] else [x, x]
theorem spec_all (C : Nat → Addr) (x y : V) : specA C x y ++ specB C x y = (List.range 29).map fun i => (C i, sortV i, dueV x y i) := rfl
theorem spec_at {C : Nat → Addr} {x y : V} {i : Nat} {c : Addr} {srt : Str} {us : List V} (h : (specA C x y ++ specB C x y)[i]? = some (c, srt, us)) : i < 29 ∧ c = C i ∧ srt = sortV i ∧ us = dueV x y i := by
  rw [spec_all, List.getElem?_map] at h
  by_cases hi : i < 29
  · rw [List.getElem?_range hi] at h
    have z := Option.some.inj h
    exact ⟨hi, (congrArg (·.1) z).symm, (congrArg (·.2.1) z).symm, (congrArg (·.2.2) z).symm⟩
  · rw [List.getElem?_eq_none (by rw [List.length_range]; omega)] at h
    cases h
theorem due_mem {x y : V} {i : Nat} : dueV x y i ≠ [] ∧ (dueV x y i = [x, x] ∨ dueV x y i = [x, y, x, y]) := by
  unfold dueV
  split
  · exact ⟨(by intro z; cases z), .inr rfl⟩
  · exact ⟨(by intro z; cases z), .inl rfl⟩
/-- the lists of flags, k of them, none of them F -/
def Flags (H : Hp) (F : Addr) (us : List V) (k : Nat) : Prop := us.length = k ∧ ∀ (j : Nat) (u : V), us[j]? = some u → ∃ p, u = .ref p ∧ p ≠ F ∧ H p = some (.lst (flagV j))
theorem Flags.but {H H' : Hp} {F : Addr} {us : List V} {k : Nat} (f : Flags H F us k) (b : But F H H') : Flags H' F us k := ⟨f.1, fun j u h => by
  obtain ⟨p, h1, h2, h3⟩ := f.2 j u h
  exact ⟨p, h1, h2, b p _ h2 h3⟩⟩
theorem Flags.snoc {H : Hp} {F : Addr} {us : List V} {k : Nat} {p : Addr} (f : Flags H F us k) (n : p ≠ F) (h : H p = some (.lst (flagV k))) : Flags H F (us ++ [.ref p]) (k + 1) := by
  refine ⟨by rw [List.length_append, f.1]; rfl, fun j u hu => ?_⟩
  rw [List.getElem?_append] at hu
  by_cases hj : j < us.length
  · rw [if_pos hj] at hu
    exact f.2 j u hu
  · rw [if_neg hj] at hu
    have e : j - us.length = 0 := by
      cases q : j - us.length with
      | zero => rfl
      | succ m => rw [q] at hu; cases hu
    rw [e] at hu
    have ej : j = k := by have := f.1; omega
    rw [ej]
    exact ⟨p, (Option.some.inj hu).symm, n, h⟩
theorem Flags.snoc' {H H' : Hp} {F : Addr} {us : List V} {k : Nat} {p : Addr} (f : Flags H F us k) (b : But F H H') (n : p ≠ F) (h : H' p = some (.lst (flagV k))) : Flags H' F (us ++ [.ref p]) (k + 1) := (f.but b).snoc n h
def dRow (k : Nat) : PyData := .list ((List.range 29).map fun j => .bool (decide (j = k)))
def dAll : PyData := .list ((List.range 29).map dRow)
theorem dpAll_bl {K : PySem.W.Frag} {H : Hp} (g : Nat → Bool) : ∀ l : List Nat, DpAll K H (l.map fun j => V.bl (g j)) (l.map fun j => PyData.bool (g j))
  | [] => .nil
  | j :: l => .cons (.bl _) (dpAll_bl g l)
theorem dpAll_get {K : PySem.W.Frag} {H : Hp} : ∀ {us : List V} {ds : List PyData}, us.length = ds.length → (∀ (j : Nat) (u : V) (d : PyData), us[j]? = some u → ds[j]? = some d → Dp K H u d) → DpAll K H us ds
  | [], [], _, _ => .nil
  | [], _ :: _, h, _ => nomatch h
  | _ :: _, [], h, _ => nomatch h
  | u :: us, d :: ds, h, q => .cons (q 0 u d rfl rfl) (dpAll_get (Nat.succ.inj h) fun j u' d' h1 h2 => q (j + 1) u' d' h1 h2)
theorem dp_flags {K : PySem.W.Frag} {H : Hp} {F : Addr} {us : List V} (f : Flags H F us 29) (h : H F = some (.lst us)) : Dp K H (.ref F) dAll := by
  refine .lst (SqL.of h) (dpAll_get (by rw [f.1, List.length_map, List.length_range]) fun j u d h1 h2 => ?_)
  obtain ⟨p, rfl, _, hp⟩ := f.2 j u h1
  have hj : j < 29 := by
    have := (List.getElem?_eq_some_iff.mp h1).1
    have := f.1
    omega
  rw [List.getElem?_map, List.getElem?_range hj] at h2
  cases Option.some.inj h2
  exact .lst (SqL.of hp) (dpAll_bl (fun i => decide (i = j)) (List.range 29))
theorem all_same : PyData.eqv dAll dAll = true := SeqAt.eqv_refl _ (by decide +kernel)
theorem all_shaped : SeqAt.shaped dAll = true := by decide +kernel
theorem sort_ok (i : Nat) : PyData.strOk (sortV i) = true := by
  unfold sortV
  by_cases h : i < 16
  · rw [if_pos h]; decide +kernel
  · rw [if_neg h]
    by_cases h2 : i < 24
    · rw [if_pos h2]; decide +kernel
    · rw [if_neg h2]; decide +kernel
theorem one_lay (i : Nat) : (PyData.list [.str (sortV i)]).canLay0 = true := by simp [PyData.canLay0, PyData.canLayAll0, sort_ok]
theorem one_same (i : Nat) : PyData.eqv (.list [.str (sortV i)]) (.list [.str (sortV i)]) = true := SeqAt.eqv_refl _ (one_lay i)
theorem one_shaped (i : Nat) : SeqAt.shaped (.list [.str (sortV i)]) = true := by
  unfold SeqAt.shaped
  rw [one_lay, Bool.true_and]
  exact decide_eq_true (by simp [PyData.depth, PyData.depthAll])
theorem small_ds {dx dy : PyData} {l : List PyData} (h1 : Small dx) (h2 : Small dy) (h : ∀ d ∈ l, d = dx ∨ d = dy) : ∀ d ∈ l, Small d := fun d hd => by
  rcases h d hd with e | e
  · rw [e]; exact h1
  · rw [e]; exact h2
theorem flagV_take {k n : Nat} : ((List.range n).map fun j => V.bl (decide (j = k))) ++ [V.bl (decide (V.int (0 + (n : Int)) = V.int (0 + (k : Int))))] = (List.range (n + 1)).map fun j => V.bl (decide (j = k)) := by
  rw [List.range_succ, List.map_append]
  congr 1
  have e : (V.int (0 + (n : Int)) = V.int (0 + (k : Int))) ↔ n = k := by
    constructor
    · intro z
      have z' : (0 + (n : Int)) = 0 + (k : Int) := by injection z
      omega
    · intro z
      rw [z]
  show [V.bl _] = [V.bl _]
  rw [decide_eq_decide.mpr e]
/-- what the law's body asks of the module's names -/
def lcScope : Stmt → Scope
  | .Assign _ (.ListComp _ _ sc _) _ => sc
  | st => defScope st
def forPart (st : Stmt) (i : Nat) : Stmt := match st with
  | .For _ _ body _ _ => body.getD i (.Pass ⟨0, 0, 0, 0⟩)
  | s => s
def rLn (K : PySem.W.Frag) : List V → Hp → VK → Prop := fun xs H Q => ∃ p ys, xs = [.ref p] ∧ (SqL K H p ys ∨ SqT K H p ys) ∧ Q (.int (ys.length : Nat)) H
theorem call_ln {X : Cx} : CallR X (.builtin "len") (rLn X.K) := call_len_seq
def tInner (K : PySem.W.Frag) : TE := tLc (iRng1 (tCons (tCB (rLn K) (tCons (tVar 6) tNil)) tNil)) (gName 13) tYes (tOp rEq (tVar 13) (tVar 12)) [13]
structure LawT (K : PySem.W.Frag) (mg : Str → Option Value) where
  len : mg "len" = none
  range : mg "range" = none
  min : mg "min" = none
  repr : mg "repr" = none
section
variable {P : Program} {w : World} {K : PySem.W.Frag} {mg : Str → Option Value} {base : Heap} {C : Nat → Addr}
theorem body_law {f fB fO fA fE fS fF : Addr} {dB dO dA dE dS dF : FuncData} (L : LawT K mg)
    (GB : FnOk P w K mg base CX0 1 fB dB ["_law_script"] (spBegin K)) (mB : mg "_law_begin" = some (.ref fB)) (kB : PySem.W.keepIn K (.ref fB) = true) (bB : Binds K dB ["_law_script"] [])
    (GO : FnOk P w K mg base CX0 3 fO dO ["_law_tape"] spOdd) (mO : mg "_law_odd" = some (.ref fO)) (kO : PySem.W.keepIn K (.ref fO) = true) (bO : Binds K dO ["_law_tape"] [])
    (GA : FnOk P w K mg base CX0 3 fA dA ["_law_x", "_law_y"] (spErr (specA C))) (mA : mg "_law_errors_a" = some (.ref fA)) (kA : PySem.W.keepIn K (.ref fA) = true) (bA : Binds K dA ["_law_x", "_law_y"] [])
    (GE : FnOk P w K mg base CX0 3 fE dE ["_law_x", "_law_y"] (spErr (specB C))) (mE : mg "_law_errors_b" = some (.ref fE)) (kE : PySem.W.keepIn K (.ref fE) = true) (bE : Binds K dE ["_law_x", "_law_y"] [])
    (GS : FnOk P w K mg base CX0 1 fS dS ["_law_e"] (spSorts C)) (mS : mg "_law_sorts" = some (.ref fS)) (kS : PySem.W.keepIn K (.ref fS) = true) (bS : Binds K dS ["_law_e"] [])
    (GF : FnOk P w K mg base CX0 1 fF dF ["_law_e"] (spFlags C)) (mF : mg "_law_flags" = some (.ref fF)) (kF : PySem.W.keepIn K (.ref fF) = true) (bF : Binds K dF ["_law_e"] []) :
    BodyOk P w K mg base 3 NL "law" (defScope sLaw) (defBody sLaw) f (spLaw K) := by
  intro cdv s H vs Q E hr h
  obtain ⟨a, ns, rfl, hS, hlen, q⟩ := h
  have hr1 : Room 1 (callerA.deeper (PyProof.Rows.envOfC "law" (defScope sLaw) s.heap.objs.size f cdv)) := hr.mono (by decide)
  refine ⟨_, PSs.nox (pss_cons (ps_set (i := 1) scL.nd rfl (Or.inl rfl) (pe_call GB hr1 (by rfl) mB kB bB .nil pass0 (pa_cons (pv 0) pa_nil)))
    (pss_cons (ps_for PassesOwn.never rfl (pi_range1 (by rfl) L.range (pa_cons (pe_op op_add pe_int (pe_callB (call_min2 rfl) (by rfl) L.min (by decide +kernel) (pa_cons pe_int (pa_cons (pe_callB call_len_seq (by rfl) L.len PySem.boot_len (pa_cons (pv 0) pa_nil)) pa_nil)))) pa_nil)) (pg_name (i := 2) scL.nd rfl (Or.inl rfl))
      (pss_cons (ps_par (i := 3) (j := 4) rfl scL.nd rfl rfl (by decide) rfl rfl (pa_cons (pe_call GO hr (by rfl) mO kO bO .nil pass0 (pa_cons (pv 1) pa_nil)) (pa_cons (pe_call GO hr (by rfl) mO kO bO .nil pass0 (pa_cons (pv 1) pa_nil)) pa_nil)) (by rfl))
      (pss_cons (ps_asg (pe_tup (pa_cons (pe_callB (call_repD hr1 rfl) (by rfl) L.repr PyProof.Rows.boot_repr (pa_cons (pe_lstN (pa_cons (pv 3) (pa_cons (pv 4) pa_nil))) pa_nil)) (pa_cons (pe_lst pa_nil) pa_nil))) (pg_tup rfl (pgs_cons (pg_name (i := 5) scL.nd rfl (Or.inl rfl)) (pgs_cons (pg_name (i := 6) scL.nd rfl (Or.inr rfl)) pgs_nil))))
      (pss_cons (ps_for PassesOwn.never rfl (pi_list (pe_op op_cat (pe_call GA hr (by rfl) mA kA bA .nil pass0 (pa_cons (pv 3) (pa_cons (pv 4) pa_nil))) (pe_call GE hr (by rfl) mE kE bE .nil pass0 (pa_cons (pv 3) (pa_cons (pv 4) pa_nil)))))
          (pg_tup rfl (pgs_cons (pg_name (i := 7) scL.nd rfl (Or.inl rfl)) (pgs_cons (pg_name (i := 8) scL.nd rfl (Or.inl rfl)) (pgs_cons (pg_name (i := 9) scL.nd rfl (Or.inl rfl)) (pgs_cons (pg_name (i := 10) scL.nd rfl (Or.inl rfl)) pgs_nil)))))
        (pss_cons (ps_if (PW.pt (pw_or (pt_cmpR op_ne (pe_callB (call_repD hr1 rfl) (by rfl) L.repr PyProof.Rows.boot_repr (pa_cons (pv 8) pa_nil)) (pe_callB (call_repD hr1 rfl) (by rfl) L.repr PyProof.Rows.boot_repr (pa_cons (pv 9) pa_nil)) (nomark _))
            (pw_or1 (pt_cmpR (op_neD hr1.units) (pe_call GS hr1 (by rfl) mS kS bS .nil pass0 (pa_cons (pv 7) pa_nil)) (pe_lst (pa_cons (pv 10) pa_nil)) (nomark _))))) (pss_one (ps_ret pe_bl)) pss_nil)
        (pss_one (ps_expr (pe_bm PySem.F.plainAttrs_list PySem.F.slot_list_append PySem.F.type_list_append mt_append (pv 6) (pa_cons (pe_call GF hr1 (by rfl) mF kF bF .nil pass0 (pa_cons (pv 7) pa_nil)) pa_nil))))))
      (pss_cons (ps_setLc (i := 11) (own := [("_law_k", 12)]) (g := gName 12) (te := tInner K) (by rfl) scL.nd rfl rfl (sw_true rfl rfl rfl (by decide +kernel)) (pi_range1 (by rfl) L.range (pa_cons (pe_callB call_len_seq (by rfl) L.len PySem.boot_len (pa_cons (pv 6) pa_nil)) pa_nil))
          (blkOk_by (own := [("_law_k", 12)]) (N := NL) (sc := defScope sLaw) (by decide +kernel)) (fun _ _ _ _ _ => pg_name (i := 12) scL.nd rfl (Or.inr rfl)) (fun _ _ _ _ _ => pts_nil)
          (fun _ _ _ _ _ => by
            show PE _ _ (tLc (iRng1 (tCons (tCB (rLn K) (tCons (tVar 6) tNil)) tNil)) (gName 13) tYes (tOp rEq (tVar 13) (tVar 12)) (List.map (fun x => x.2) [(("_law_j" : Str), 13)]))
            refine pe_lc (own := [("_law_j", 13)]) rfl scL.nd ?_ ?_ (fun _ _ _ _ _ => ?_) (fun _ _ _ _ _ => pts_nil) (fun _ _ _ _ _ => ?_)
            · exact pi_range1 (by rfl) L.range (pa_cons (pe_callB call_ln (by rfl) L.len PySem.boot_len (pa_cons (pv 6) pa_nil)) pa_nil)
            · exact blkOk_by (own := [("_law_j", 13)]) (N := NL) (sc := { kind := .function, names := [(".0", .local), ("_law_k", .cell), ("range", .globalImplicit), ("len", .globalImplicit), ("_law_flags_here", .cell)], isGenerator := false, isCoroutine := false, more := [] }) (scope := { kind := .function, names := [(".0", .local), ("_law_j", .local), ("_law_k", .free)], isGenerator := false, isCoroutine := false, more := [] }) (by decide +kernel)
            · exact pg_name (i := 13) scL.nd rfl (Or.inl rfl)
            · exact pe_cmpR op_eq (pv 13) (pv 12) (nomark _)))
      (pss_one (ps_if (PW.pt (pw_or (pt_cmpR (op_neD hr1.units) (pv 6) (pv 11) (nomark _)) (pw_or1 (pt_cmpR op_ne (pe_callB (call_repD hr1 rfl) (by rfl) L.repr PyProof.Rows.boot_repr (pa_cons (pe_lstN (pa_cons (pv 3) (pa_cons (pv 4) pa_nil))) pa_nil)) (pv 5) (nomark _))))) (pss_one (ps_ret pe_bl)) pss_nil)))))))
    (pss_one (ps_ret pe_bl)))), ?_⟩
  refine ⟨_, rfl, a, ns, rfl, hS, hlen, fun H1 d s1 nd hT => ?_⟩
  have hS1 := s1.seq hS
  refine ⟨_, rfl, _, _, rfl, .inl hS1, _, _, rfl, _, _, rfl, rfl, _, rfl, ?_, ?_, ?_⟩
  · have e : (List.map V.int ns).length = ns.length := List.length_map _
    split <;> omega
  · have e : (List.map V.int ns).length = ns.length := List.length_map _
    split <;> omega
  generalize hn : (3 + (if (((List.map V.int ns).length : Nat) : Int) < 4 then (((List.map V.int ns).length : Nat) : Int) else 4) : Int).toNat = n
  have hn7 : n ≤ 7 := by
    rw [← hn]
    split <;> omega
  refine for_range (lo := 0) (n := n) (fun i σ H' => ∃ v2 v3 v4 v5 v6 v7 v8 v9 v10 v11 : Option V, σ = [some (.ref a), some (.ref d), v2, v3, v4, v5, v6, v7, v8, v9, v10, v11, none, none] ∧ Tape H' d (2 * i)) ⟨_, _, _, _, _, _, _, _, _, _, rfl, hT⟩ ?_ ?_
  · rintro i σ H2 hi ⟨v2, v3, v4, v5, v6, v7, v8, v9, v10, v11, rfl, hT2⟩
    refine ⟨_, rfl, d, 2 * i, rfl, hT2, by omega, fun H3 x dx b3 t3 mx qx => ⟨_, rfl, d, 2 * i + 1, rfl, t3, by omega, fun H4 y dy b4 t4 my qy => ⟨x, y, rfl, ?_⟩⟩⟩
    have qx4 : Dq (delH H4 d) x dx := qx.mono (But.off b4)
    have sx := menu_small dx mx
    have sy := menu_small dy my
    have okxy : ∀ l : List PyData, (∀ e ∈ l, e = dx ∨ e = dy) → l.length ≤ 4 → (PyData.list l).showable = true ∧ (PyData.list l).depth ≤ 20 ∧ (PyData.list l).shown.length ≤ sizeLine := fun l h1 h2 => repr_ok (small_ds sx sy h1) h2
    obtain ⟨w1, w2, w3⟩ := okxy [dx, dy] (by simp) (by show 2 ≤ 4; decide)
    refine ⟨_, rfl, _, rfl, few (by show 2 ≤ 1000; decide), fun p np sp => ⟨p, .list [dx, dy], rfl, .lst upd_same sp (.cons (qx4.mono ((Same.off d).trans (same_new (fun _ _ z => z) np))) (.cons (qy.mono ((Same.off d).trans (same_new (fun _ _ z => z) np))) .nil)), w1, w2, w3, ?_⟩⟩
    refine ⟨Nat.zero_le _, fun F nF => ⟨few (by show 2 ≤ 1000; decide), fun t nt => ⟨t, _, rfl, SqT.of upd_same, rfl, _, _, rfl, _, _, rfl, rfl, ?_⟩⟩⟩
    have nF4 : H4 F = none := by
      by_cases z : F = p
      · rw [z, upd_same] at nF
        cases nF
      · rw [upd_ne z] at nF
        exact nF
    have s5 : Same H4 (upd (upd (upd H4 p (.lst [x, y])) F (.lst [])) t (.tup [.str (PyData.list [dx, dy]).shown, .ref F])) := same_new (same_new (same_new (fun _ _ z => z) np) nF) nt
    have nFt : F ≠ t := ne_of_none upd_same nt
    have hF5 : (upd (upd (upd H4 p (.lst [x, y])) F (.lst [])) t (.tup [.str (PyData.list [dx, dy]).shown, .ref F])) F = some (.lst []) := (upd_ne nFt).trans upd_same
    generalize hH5 : (upd (upd (upd H4 p (.lst [x, y])) F (.lst [])) t (.tup [.str (PyData.list [dx, dy]).shown, .ref F])) = H5 at s5 hF5 ⊢
    generalize hkept : (PyData.list [dx, dy]).shown = kept
    have tape4 : Tape H4 d (2 * (i + 1)) := t4
    refine ⟨_, rfl, _, rfl, x, y, rfl, fun H6 RA rsA s6 nRA hRA okA => ⟨_, rfl, _, rfl, x, y, rfl, fun H7 RB rsB s7 nRB hRB okB => ⟨RA, RB, rsA, rsB, rfl, rfl, s7 _ _ hRA, hRB, ?_, fun L nL => ?_⟩⟩⟩
    · have e1 := RowsOk.len okA
      have e2 := RowsOk.len okB
      refine few ?_
      rw [e1, e2]
      show 15 + 14 ≤ 1000
      decide
    have okAB : RowsOk (upd H7 L (.lst (rsA ++ rsB))) (specA C x y ++ specB C x y) (rsA ++ rsB) := .app (okA.mono (s7.trans (same_new (fun _ _ z => z) nL))) (okB.mono (same_new (fun _ _ z => z) nL))
    have s57 : Same H5 (upd H7 L (.lst (rsA ++ rsB))) := s6.trans (s7.trans (same_new (fun _ _ z => z) nL))
    have hL : (upd H7 L (.lst (rsA ++ rsB))) L = some (.lst (rsA ++ rsB)) := upd_same
    generalize hHb : upd H7 L (.lst (rsA ++ rsB)) = Hb at okAB s57 hL ⊢
    have len29 : (rsA ++ rsB).length = 29 := by rw [RowsOk.len okAB, spec_all, List.length_map, List.length_range]
    have hFb := s57 _ _ hF5
    have nLF : L ≠ F := fun z => by
      rw [z, hFb] at hL
      have z2 : rsA ++ rsB = [] := by injection (Option.some.inj hL).symm
      rw [z2] at len29
      cases len29
    have xb : Dq Hb x dx := qx4.mono ((Same.off d).trans (s5.trans s57))
    have yb : Dq Hb y dy := qy.mono ((Same.off d).trans (s5.trans s57))
    refine ⟨L, rfl, ⟨_, SqL.of hL⟩, for_list (K := K) (a := L) (xs := rsA ++ rsB) (fun k σ H' => ∃ (v7 v8 v9 v10 : Option V) (us : List V), σ = [some (.ref a), some (.ref d), some (.int (0 + (i : Int))), some x, some y, some (.str kept), some (.ref F), v7, v8, v9, v10, v11, none, none] ∧ But F Hb H' ∧ H' F = some (.lst us) ∧ Flags H' F us k)
      ⟨_, _, _, _, [], rfl, But.refl, hFb, rfl, fun j u h => by simp at h⟩ (fun k σ H' _ ⟨_, _, _, _, _, _, b, _⟩ => SqL.of (b _ _ nLF hL)) ?_ ?_⟩
    · rintro k row σ H8 hk ⟨v7, v8, v9, v10, us, rfl, b8, hF8, fl8⟩
      obtain ⟨c, srt, due, hspec, hrow⟩ := RowsOk.at okAB hk
      obtain ⟨k29, rfl, rfl, rfl⟩ := spec_at hspec
      obtain ⟨t1, e, d1, p1, q1, fs, rfl, ht, he, hd1, hp1, hq1, np1, nq1⟩ := hrow
      have nF : ∀ {b : Addr} {o : HO}, Hb b = some o → o ≠ .lst [] → b ≠ F := fun {b o} h n z => by
        rw [z, hFb] at h
        exact n (Option.some.inj h).symm
      have ne_due : HO.lst (dueV x y k) ≠ .lst [] := fun z => due_mem.1 (by injection z)
      have ht8 := b8 _ _ (nF ht (by intro z; cases z)) ht
      have he8 := b8 _ _ (nF he exo_lst) he
      have hd8 := b8 _ _ (nF hd1 exd_lst) hd1
      have hp8 := b8 _ _ (nF hp1 ne_due) hp1
      have hq8 := b8 _ _ (nF hq1 ne_due) hq1
      have s48 : Same H4 H8 := fun b o h => b8 b o (fun z => by rw [z, nF4] at h; cases h) ((s5.trans s57) b o h)
      have x8 : Dq H8 x dx := (qx4.mono (Same.off d)).mono s48
      have y8 : Dq H8 y dy := (qy.mono (Same.off d)).mono s48
      obtain ⟨ds, m1, m2, m3⟩ : ∃ ds : List PyData, (∀ e ∈ ds, e = dx ∨ e = dy) ∧ ds.length ≤ 4 ∧ DqAll H8 (dueV x y k) ds := by
        rcases (due_mem (x := x) (y := y) (i := k)).2 with z | z
        · rw [z]
          exact ⟨[dx, dx], by simp, (by show 2 ≤ 4; decide), .cons x8 (.cons x8 .nil)⟩
        · rw [z]
          exact ⟨[dx, dy, dx, dy], by simp, (by show 4 ≤ 4; decide), .cons x8 (.cons y8 (.cons x8 (.cons y8 .nil)))⟩
      obtain ⟨u1, u2, u3⟩ := okxy ds m1 m2
      refine ⟨t1, _, rfl, SqT.of ht8, rfl, _, _, rfl, _, _, rfl, _, _, rfl, _, _, rfl, rfl, ?_⟩
      refine ⟨_, rfl, p1, .list ds, rfl, .lst hp8 np1 m3, u1, u2, u3, _, rfl, q1, .list ds, rfl, .lst hq8 nq1 m3, u1, u2, u3, rfl, _, rfl, ?_⟩
      refine iteNS rfl ?_
      refine ⟨_, rfl, e, k, rfl, ⟨k29, d1, fs, he8, hd8⟩, fun H9 R9 s9 nR9 hR9 => ⟨_, rfl, few (by show 1 ≤ 1000; decide), fun l9 nl9 => ⟨.list [.str (sortV k)], .list [.str (sortV k)], .lst (SqL.of ((upd_ne (ne_of_none hR9 nl9)).trans hR9)) (.cons (.str _) .nil), .lst (SqL.of upd_same) (.cons (.str _) .nil), one_shaped k, one_shaped k, _, rfl, ?_⟩⟩⟩
      rw [one_same k]
      have s10 : Same H8 (upd H9 l9 (.lst [.str (sortV k)])) := s9.trans (same_new (fun _ _ z => z) nl9)
      generalize hH10 : upd H9 l9 (.lst [.str (sortV k)]) = H10 at s10 ⊢
      refine iteF ?_
      refine ⟨_, rfl, .inl ⟨rfl, _, SqL.of (s10 _ _ hF8)⟩, _, rfl, e, k, rfl, ⟨k29, d1, fs, s10 _ _ he8, s10 _ _ hd8⟩, fun H11 R11 s11 nR11 hR11 => ⟨F, us, _, rfl, rfl, s11 _ _ (s10 _ _ hF8), small1000 (by have := fl8.1; omega), ?_⟩⟩
      have nRF : R11 ≠ F := fun z => by rw [z, s10 _ _ hF8] at nR11; cases nR11
      have b11 : But F Hb H11 := b8.trans (Same.but (s10.trans s11) F)
      refine ⟨_, _, _, _, us ++ [.ref R11], rfl, b11.upd, upd_same, Flags.but (fl8.snoc' (Same.but (s10.trans s11) F) nRF hR11) (fun b o n h => by rw [upd_ne n]; exact h)⟩
    · rintro σ H8 ⟨v7, v8, v9, v10, us, rfl, b8, hF8, fl8⟩
      rw [len29] at fl8
      have n29 : ((us.length : Nat) : Int).toNat = 29 := by have := fl8.1; omega
      have s48 : Same H4 H8 := fun b o h => b8 b o (fun z => by rw [z, nF4] at h; cases h) ((s5.trans s57) b o h)
      have lo : -(2 ^ 62) ≤ ((us.length : Nat) : Int) := by have := fl8.1; omega
      have hi2 : ((us.length : Nat) : Int) < 2 ^ 62 := by have := fl8.1; omega
      refine ⟨_, rfl, F, us, rfl, .inl (SqL.of hF8), _, rfl, lo, hi2, fun D nD => ?_⟩
      refine lc_range (lo := 0) (n := ((us.length : Nat) : Int).toNat) (fun k H' => Same H8 H' ∧ ∃ acc, H' D = some (.lst acc) ∧ Flags H' D acc k) ⟨same_new (fun _ _ z => z) nD, [], upd_same, rfl, fun j u h => by simp at h⟩ ?_ ?_
      · rintro k H9 hk ⟨s9, acc, hD9, fl9⟩
        refine ⟨rfl, _, rfl, F, us, rfl, .inl (SqL.of (s9 _ _ hF8)), _, rfl, lo, hi2, fun D2 nD2 => ?_⟩
        refine lc_range (lo := 0) (n := ((us.length : Nat) : Int).toNat) (fun j H' => Same H9 H' ∧ H' D2 = some (.lst ((List.range j).map fun i => V.bl (decide (i = k))))) ⟨same_new (fun _ _ z => z) nD2, upd_same⟩ ?_ ?_
        · rintro j H10 hj ⟨s10, h10⟩
          refine ⟨rfl, _, rfl, _, rfl, rfl, _, h10, small1000 (by rw [List.length_map, List.length_range]; omega), fun b o h => ?_, ?_⟩
          · rw [upd_ne (ne_of_none h nD2)]
            exact s10 _ _ h
          · rw [upd_same, flagV_take]
        · rintro H10 ⟨s10, h10⟩
          have n2 : D2 ≠ D := fun z => by rw [z, hD9] at nD2; cases nD2
          refine ⟨acc, s10 _ _ hD9, small1000 (by have := fl9.1; omega), fun b o h => ?_, acc ++ [.ref D2], upd_same, Flags.but (fl9.snoc' (Same.but s10 D) n2 ?_) (fun b o n h => by rw [upd_ne n]; exact h)⟩
          · rw [upd_ne (ne_of_none h nD)]
            exact s10 _ _ (s9 _ _ h)
          · rw [h10, n29]
            rfl
      · rintro H9 ⟨s9, acc, hD9, fl9⟩
        rw [n29] at fl9
        have s49 : Same H4 H9 := s48.trans s9
        have fl89 : Flags H9 F us 29 := fl8.but (Same.but s9 F)
        refine ⟨_, rfl, _, rfl, dAll, dAll, dp_flags fl89 (s9 _ _ hF8), dp_flags fl9 hD9, all_shaped, all_shaped, _, rfl, ?_⟩
        rw [all_same]
        refine iteF ?_
        have x9 : Dq H9 x dx := (qx4.mono (Same.off d)).mono s49
        have y9 : Dq H9 y dy := (qy.mono (Same.off d)).mono s49
        refine ⟨_, rfl, _, rfl, few (by show 2 ≤ 1000; decide), fun p2 np2 sp2 => ⟨p2, .list [dx, dy], rfl, .lst upd_same sp2 (.cons (x9.mono (same_new (fun _ _ z => z) np2)) (.cons (y9.mono (same_new (fun _ _ z => z) np2)) .nil)), w1, w2, w3, _, rfl, rfl, _, rfl, ?_⟩⟩
        refine iteNS (by rw [hkept]) ?_
        exact ⟨_, _, _, _, _, _, _, _, _, _, rfl, tape4.same (s49.trans (same_new (fun _ _ z => z) np2))⟩
  · rintro σ H2 ⟨v2, v3, v4, v5, v6, v7, v8, v9, v10, v11, rfl, hT2⟩
    exact q _
end
end Toy


namespace Toy
open PySem PySem.Spec PyProof.Rows L2 PySem.KX
/-! ### the head: what the top has written, as one answer -/
abbrev FnP (K : PySem.W.Frag) (x : Str) (st : Stmt) (f : Addr) (fd : FuncData) : Prop := FunD K x x (defArgs st) (defBody st) (defScope st) [] [] f fd
def nmAt (i : Nat) : Str := names.getD i "law"
def CA (K : PySem.W.Frag) (i : Nat) : Addr := He.ga K (nmAt i)
def btOf (b : String) : List Value := [.type b, .type "Exception", .type "BaseException", .type "object"]
def bsOf (i : Nat) : String := if i < 16 then "ValueError" else if i < 24 then "LookupError" else "RuntimeError"
def nidOf (i : Nat) : String := if i < 16 then "ValueError.__new__" else if i < 24 then "LookupError.__new__" else "RuntimeError.__new__"
def iidOf (i : Nat) : String := if i < 16 then "ValueError.__init__" else if i < 24 then "LookupError.__init__" else "RuntimeError.__init__"
def fldsOf (i : Nat) : List Str := if i = 22 then ["name", "word"] else if i = 25 then ["index", "reason"] else (ones.lookup i).toList
def freeB (K : PySem.W.Frag) (c : Addr) (f : Str) : Bool := decide (PySem.W.takerIn K c f = some none) && He.eqO (PySem.W.findIn K (.ref c) f) (some none)
def ownB (K : PySem.W.Frag) (c fi : Addr) (base nid : String) : Bool :=
  PySem.W.excInitIn K c (btOf base) nid && (PySem.W.excOver K c (btOf base) && (PySem.W.hasDictIn K c && (He.eqO (PySem.W.findIn K (.ref c) "__setattr__") (some (some (.builtin "object.__setattr__"))) &&
  (He.eqO (PySem.W.findIn K (.ref c) "__getattribute__") (some (some (.builtin "BaseException.__getattribute__"))) && (He.eqO (PySem.W.findIn K (.ref c) "__getattr__") (some none) && (decide (PySem.W.subIn K (.ref c) (.type "BaseException") = some true) &&
  (PySem.W.keepIn K (.ref c) && (He.eqO (PySem.W.findIn K (.ref c) "__init__") (some (some (.ref fi))) && (decide (PySem.W.typeIn K (.ref fi) = some (.type "function")) && (He.eqO (PySem.W.findIn K (.ref c) "__class__") (some (some (.builtin "object.__class__"))) &&
  decide (PySem.W.mroIn K c (.type "object") = some true)))))))))))
def kitB2 (K : PySem.W.Frag) (i : Nat) : Bool := (List.range 29).all (fun j => decide (PySem.W.kitOne K (.ref (CA K i)) (.ref (CA K j)) = some (decide (j = i)))) &&
  (decide (PySem.W.kitOne K (.ref (CA K i)) (.type "ValueError") = some (decide (i < 16))) && (decide (PySem.W.kitOne K (.ref (CA K i)) (.type "LookupError") = some (decide (16 ≤ i ∧ i < 24))) && decide (PySem.W.kitOne K (.ref (CA K i)) (.type "RuntimeError") = some (decide (24 ≤ i)))))
def exB (K : PySem.W.Frag) : Bool := (List.range 29).all (fun i => ownB K (CA K i) (He.ma K (CA K i) "__init__") (bsOf i) (nidOf i) && ((fldsOf i).all (freeB K (CA K i)) && kitB2 K i)) &&
  (decide (PySem.W.specialIn K (.builtin "object.__class__") "__get__" = some (some (.builtin "getset_descriptor.__get__"))) && decide (PySem.W.takesIn K (.builtin "object.__class__") = some true))
def dOf (x : Str) (st : Stmt) : He.DefD := ⟨(x, none), x, x, defArgs st, defBody st, defScope st, [], []⟩
def iOf (x q : Str) (st : Stmt) : He.DefD := ⟨(x, some "__init__"), "__init__", q, defArgs st, defBody st, defScope st, [], []⟩
def fnL : List He.DefD := [dOf "_law_begin" sBegin, dOf "_law_draw" sDraw, dOf "_law_pick" sPick, dOf "_law_odd" sOdd, dOf "_law_errors_a" sErrA, dOf "_law_errors_b" sErrB, dOf "_law_flags" sFlags, dOf "_law_sorts" sSorts, dOf "law" sLaw]
def fnI : List He.DefD := [iOf "InvalidDatum" "InvalidDatum.__init__" (inClass (top 1) 0), iOf "InvalidFilter" "InvalidFilter.__init__" (inClass (top 2) 0), iOf "InvalidLimit" "InvalidLimit.__init__" (inClass (top 3) 0), iOf "InvalidCount" "InvalidCount.__init__" (inClass (top 4) 0), iOf "InvalidCode" "InvalidCode.__init__" (inClass (top 5) 0), iOf "InvalidText" "InvalidText.__init__" (inClass (top 6) 0), iOf "InvalidName" "InvalidName.__init__" (inClass (top 7) 0), iOf "InvalidEntry" "InvalidEntry.__init__" (inClass (top 8) 0), iOf "InvalidDeed" "InvalidDeed.__init__" (inClass (top 9) 0), iOf "InvalidGuard" "InvalidGuard.__init__" (inClass (top 10) 0), iOf "NotChooser" "NotChooser.__init__" (inClass (top 11) 0), iOf "NotFitting" "NotFitting.__init__" (inClass (top 12) 0), iOf "Endless" "Endless.__init__" (inClass (top 13) 0), iOf "TooGreat" "TooGreat.__init__" (inClass (top 14) 0), iOf "Standing" "Standing.__init__" (inClass (top 15) 0), iOf "NoQuestion" "NoQuestion.__init__" (inClass (top 16) 0), iOf "NoPart" "NoPart.__init__" (inClass (top 17) 0), iOf "NoSpot" "NoSpot.__init__" (inClass (top 18) 0), iOf "NoWay" "NoWay.__init__" (inClass (top 19) 0), iOf "NotThere" "NotThere.__init__" (inClass (top 20) 0), iOf "NoName" "NoName.__init__" (inClass (top 21) 0), iOf "OutOfRange" "OutOfRange.__init__" (inClass (top 22) 0), iOf "Unknown" "Unknown.__init__" (inClass (top 23) 0), iOf "UnknownShape" "UnknownShape.__init__" (inClass (top 24) 0), iOf "Fails" "Fails.__init__" (inClass (top 25) 0), iOf "Failed" "Failed.__init__" (inClass (top 26) 0), iOf "NoOutcome" "NoOutcome.__init__" (inClass (top 27) 0), iOf "TooLong" "TooLong.__init__" (inClass (top 28) 0), iOf "Broken" "Broken.__init__" (inClass (top 29) 0)]
def fn : List He.DefD := fnL ++ fnI
def fa : List He.Fa := [.glo "_law_begin", .glo "_law_draw", .glo "_law_pick", .glo "_law_odd", .glo "_law_errors_a", .glo "_law_errors_b", .glo "_law_flags", .glo "_law_sorts", .glo "law", .free "len", .free "int", .free "range", .free "min", .free "repr", .free "isinstance", .free "zip", .free "ValueError", .free "LookupError", .free "RuntimeError"] ++ names.map He.Fa.glo
abbrev R : PySem.W.OpenRow := PySem.W.OpenLaw.row PySem.Challenge.rw_sieveways_k01_errors
abbrev hk : PySem.W.Hook := He.hookX 5 fa fn [] [] exB
def ob (s : PySem.W.SharedT) : He.AlX := He.obsX 5 fa fn [] [] exB (HandSHeadRun.getT s)
theorem ob_eq (s : PySem.W.SharedT) : ob s = hk.obs s.abs := He.obsX_eq (HandSHeadRun.getT_eq s)
def looseN : List Str := names ++ (["_law_begin", "_law_draw", "_law_pick", "_law_odd", "_law_errors_a", "_law_errors_b", "_law_flags", "_law_sorts"] : List Str)
theorem run (w : World) : HandSHeadRun.RunEq R (PySem.W.view R.prog [39]) hk ob 9000 looseN w := by
  intro os
  kernel_rfl
end Toy


namespace Toy
open PySem PySem.Spec PyProof.Rows L2 PySem.KX
/-! ### the facts, read off the head's answer -/
theorem fun_of {K : PySem.W.Frag} {x q : Str} {st : Stmt} {f : Addr} {fd : FuncData} (F : FunD K x q (defArgs st) (defBody st) (defScope st) [] [] f fd) : Fun K x q st f fd := by
  obtain ⟨oc, od, dV, kV, doc, pm, an, cdv, ct, osl, rfl, lk, hcd, hD, _⟩ := F.ex
  rcases hD with ⟨_, rfl⟩ | ⟨e, _⟩
  · exact ⟨⟨oc, od, kV, doc, pm, an, cdv, ct, osl, rfl, lk, hcd⟩, F.kp⟩
  · exact absurd rfl e
theorem bases (i : Nat) : PySem.F.excBase_ValueError = PySem.F.excBase_ValueError ∧ ExcBaseFacts (bsOf i) (nidOf i) (iidOf i) (btOf (bsOf i)) ∧ StoreFacts (bsOf i) (btOf (bsOf i)) "object.__setattr__" "object" := by
  refine ⟨rfl, ?_⟩
  unfold bsOf nidOf iidOf
  by_cases h : i < 16
  · rw [if_pos h, if_pos h, if_pos h]
    exact ⟨PySem.F.excBase_ValueError, PySem.F.store_ValueError⟩
  · rw [if_neg h, if_neg h, if_neg h]
    by_cases h2 : i < 24
    · rw [if_pos h2, if_pos h2, if_pos h2]
      exact ⟨PySem.F.excBase_LookupError, PySem.F.store_LookupError⟩
    · rw [if_neg h2, if_neg h2, if_neg h2]
      exact ⟨PySem.F.excBase_RuntimeError, PySem.F.store_RuntimeError⟩
theorem and2 {a b : Bool} (h : (a && b) = true) : a = true ∧ b = true := Bool.and_eq_true_iff.mp h
section
variable {K : PySem.W.Frag} (c : exB K = true)
include c
theorem ex_at {i : Nat} (hi : i < 29) : ownB K (CA K i) (He.ma K (CA K i) "__init__") (bsOf i) (nidOf i) = true ∧ (∀ f ∈ fldsOf i, freeB K (CA K i) f = true) ∧ kitB2 K i = true := by
  obtain ⟨h1, _⟩ := and2 c
  obtain ⟨a, b⟩ := and2 (List.all_eq_true.mp h1 i (List.mem_range.mpr hi))
  obtain ⟨b1, b2⟩ := and2 b
  exact ⟨a, fun f hf => List.all_eq_true.mp b1 f hf, b2⟩
theorem ex_own {i : Nat} (hi : i < 29) : Own K (CA K i) (He.ma K (CA K i) "__init__") (bsOf i) (nidOf i) (iidOf i) (btOf (bsOf i)) := by
  obtain ⟨_, h⟩ := and2 c
  obtain ⟨s1, s2⟩ := and2 h
  obtain ⟨_, FB, SF⟩ := bases i
  obtain ⟨o, _, _⟩ := ex_at c hi
  obtain ⟨o1, o⟩ := and2 o
  obtain ⟨o2, o⟩ := and2 o
  obtain ⟨o3, o⟩ := and2 o
  obtain ⟨o4, o⟩ := and2 o
  obtain ⟨o5, o⟩ := and2 o
  obtain ⟨o6, o⟩ := and2 o
  obtain ⟨o7, o⟩ := and2 o
  obtain ⟨o8, o⟩ := and2 o
  obtain ⟨o9, o⟩ := and2 o
  obtain ⟨o10, o⟩ := and2 o
  obtain ⟨o11, o12⟩ := and2 o
  exact ⟨FB, SF, o1, o2, o3, He.eqO_ok o4, He.eqO_ok o5, He.eqO_ok o6, of_decide_eq_true o7, o8, He.eqO_ok o9, of_decide_eq_true o10, He.eqO_ok o11, of_decide_eq_true s1, of_decide_eq_true s2, of_decide_eq_true o12⟩
theorem ex_g {i : Nat} (hi : i < 29) : ClG K (CA K i) := by
  have o := ex_own c hi
  exact ⟨o.ga, o.gg, o.exc, o.dct, o.cA, o.cN, o.cT, o.cM⟩
theorem ex_free {i : Nat} (hi : i < 29) {f : Str} (hf : f ∈ fldsOf i) : Free K (CA K i) f := by
  obtain ⟨_, h, _⟩ := ex_at c hi
  obtain ⟨a, b⟩ := and2 (h f hf)
  exact ⟨of_decide_eq_true a, He.eqO_ok b⟩
theorem ex_kit {i j : Nat} (hi : i < 29) (hj : j < 29) : PySem.W.kitOne K (.ref (CA K i)) (.ref (CA K j)) = some (decide (j = i)) := by
  obtain ⟨_, _, h⟩ := ex_at c hi
  obtain ⟨a, _⟩ := and2 h
  exact of_decide_eq_true (List.all_eq_true.mp a j (List.mem_range.mpr hj))
theorem ex_base {i : Nat} (hi : i < 29) : PySem.W.kitOne K (.ref (CA K i)) (.type "ValueError") = some (decide (i < 16)) ∧ PySem.W.kitOne K (.ref (CA K i)) (.type "LookupError") = some (decide (16 ≤ i ∧ i < 24)) ∧
    PySem.W.kitOne K (.ref (CA K i)) (.type "RuntimeError") = some (decide (24 ≤ i)) := by
  obtain ⟨_, _, h⟩ := ex_at c hi
  obtain ⟨_, b⟩ := and2 h
  obtain ⟨b1, b2⟩ := and2 b
  obtain ⟨b2, b3⟩ := and2 b2
  exact ⟨of_decide_eq_true b1, of_decide_eq_true b2, of_decide_eq_true b3⟩
end
/-- the maker of a class of one field -/
theorem mk_cl1 {K : PySem.W.Frag} (c : exB K = true) {i : Nat} (hi : i < 29) {f qual : Str} {fd : FuncData} {a1 a2 q1 q2 q3 q4 : Pos} (hf : f ∈ fldsOf i) (fs : (f == ("self" : Str)) = false) (fdb : (f == ("__debug__" : Str)) = false)
    (F : FunD K "__init__" qual (argsOf [arg1 "self" a1, arg1 f a2]) [setS f q1 q2 q3 q4] (scOf ["self", f]) [] [] (He.ma K (CA K i) "__init__") fd)
    (b1 : ∀ (kV doc pm : Value) (an : Option Addr) (cdv ct self v : Value), bindArgs (PySem.W.fnOf "__init__" qual (argsOf [arg1 "self" a1, arg1 f a2]) [setS f q1 q2 q3 q4] (scOf ["self", f]) .none kV doc pm an cdv ct) ⟨[self, v], []⟩ = pure [(("self" : Str), self), (f, v)])
    (b2 : ∀ (kV doc pm : Value) (an : Option Addr) (cdv ct self v : Value), bindArgs (PySem.W.fnOf "__init__" qual (argsOf [arg1 "self" a1, arg1 f a2]) [setS f q1 q2 q3 q4] (scOf ["self", f]) .none kV doc pm an cdv ct) ⟨[self], [(f, v)]⟩ = pure [(("self" : Str), self), (f, v)]) : Cl1 K (CA K i) f := by
  have O := ex_own c hi
  refine ⟨⟨_, _, _, _, _, qual, fd, a1, a2, q1, q2, q3, q4, O, F, ?_⟩, ex_free c hi hf, fs, fdb, O.kp⟩
  obtain ⟨oc, od, dV, kV, doc, pm, an, cdv, ct, osl, rfl, lk, hcd, hD, _⟩ := F.ex
  rcases hD with ⟨_, rfl⟩ | ⟨e, _⟩
  · exact ⟨fun s self v => .of_eq (b1 kV doc pm an cdv ct (.ref self) v), fun s self v => .of_eq (b2 kV doc pm an cdv ct (.ref self) v)⟩
  · exact absurd rfl e
theorem mk_cl2 {K : PySem.W.Frag} (c : exB K = true) {i : Nat} (hi : i < 29) {f g qual : Str} {fd : FuncData} {a1 a2 a3 q1 q2 q3 q4 r1 r2 r3 r4 : Pos} (hf : f ∈ fldsOf i) (hg : g ∈ fldsOf i) (fs : (f == ("self" : Str)) = false) (gs : (g == ("self" : Str)) = false) (gf : (g == f) = false) (fdb : (f == ("__debug__" : Str)) = false) (gdb : (g == ("__debug__" : Str)) = false)
    (F : FunD K "__init__" qual (argsOf [arg1 "self" a1, arg1 f a2, arg1 g a3]) [setS f q1 q2 q3 q4, setS g r1 r2 r3 r4] (scOf ["self", f, g]) [] [] (He.ma K (CA K i) "__init__") fd)
    (b1 : ∀ (kV doc pm : Value) (an : Option Addr) (cdv ct self v u : Value), bindArgs (PySem.W.fnOf "__init__" qual (argsOf [arg1 "self" a1, arg1 f a2, arg1 g a3]) [setS f q1 q2 q3 q4, setS g r1 r2 r3 r4] (scOf ["self", f, g]) .none kV doc pm an cdv ct) ⟨[self, v, u], []⟩ = pure [(("self" : Str), self), (f, v), (g, u)])
    (b2 : ∀ (kV doc pm : Value) (an : Option Addr) (cdv ct self v u : Value), bindArgs (PySem.W.fnOf "__init__" qual (argsOf [arg1 "self" a1, arg1 f a2, arg1 g a3]) [setS f q1 q2 q3 q4, setS g r1 r2 r3 r4] (scOf ["self", f, g]) .none kV doc pm an cdv ct) ⟨[self], [(g, u), (f, v)]⟩ = pure [(("self" : Str), self), (f, v), (g, u)]) : Cl2 K (CA K i) f g := by
  have O := ex_own c hi
  refine ⟨⟨_, _, _, _, _, qual, fd, a1, a2, a3, q1, q2, q3, q4, r1, r2, r3, r4, O, F, ?_⟩, ex_free c hi hf, ex_free c hi hg, fs, gs, gf, fdb, gdb, O.kp⟩
  obtain ⟨oc, od, dV, kV, doc, pm, an, cdv, ct, osl, rfl, lk, hcd, hD, _⟩ := F.ex
  rcases hD with ⟨_, rfl⟩ | ⟨e, _⟩
  · exact ⟨fun s self v u => .of_eq (b1 kV doc pm an cdv ct (.ref self) v u), fun s self v u => .of_eq (b2 kV doc pm an cdv ct (.ref self) v u)⟩
  · exact absurd rfl e
section
variable {K : PySem.W.Frag} {w : World} {h : Heap} {mg : Str → Option Value} (S : He.SaysX fa fn [] [] exB w h K)
include S
theorem cl0 : Cl1 K (CA K 0) "value" := by
  obtain ⟨fd, F⟩ := S.t.d.def_ 9 (d := iOf "InvalidDatum" "InvalidDatum.__init__" (inClass (top 1) 0)) rfl
  exact mk_cl1 S.more (i := 0) (by decide) (by decide +kernel) (by decide +kernel) (by decide +kernel) F (fun _ _ _ _ _ _ _ _ => rfl) (fun _ _ _ _ _ _ _ _ => rfl)
theorem cl1 : Cl1 K (CA K 1) "value" := by
  obtain ⟨fd, F⟩ := S.t.d.def_ 10 (d := iOf "InvalidFilter" "InvalidFilter.__init__" (inClass (top 2) 0)) rfl
  exact mk_cl1 S.more (i := 1) (by decide) (by decide +kernel) (by decide +kernel) (by decide +kernel) F (fun _ _ _ _ _ _ _ _ => rfl) (fun _ _ _ _ _ _ _ _ => rfl)
theorem cl2 : Cl1 K (CA K 2) "value" := by
  obtain ⟨fd, F⟩ := S.t.d.def_ 11 (d := iOf "InvalidLimit" "InvalidLimit.__init__" (inClass (top 3) 0)) rfl
  exact mk_cl1 S.more (i := 2) (by decide) (by decide +kernel) (by decide +kernel) (by decide +kernel) F (fun _ _ _ _ _ _ _ _ => rfl) (fun _ _ _ _ _ _ _ _ => rfl)
theorem cl3 : Cl1 K (CA K 3) "value" := by
  obtain ⟨fd, F⟩ := S.t.d.def_ 12 (d := iOf "InvalidCount" "InvalidCount.__init__" (inClass (top 4) 0)) rfl
  exact mk_cl1 S.more (i := 3) (by decide) (by decide +kernel) (by decide +kernel) (by decide +kernel) F (fun _ _ _ _ _ _ _ _ => rfl) (fun _ _ _ _ _ _ _ _ => rfl)
theorem cl4 : Cl1 K (CA K 4) "index" := by
  obtain ⟨fd, F⟩ := S.t.d.def_ 13 (d := iOf "InvalidCode" "InvalidCode.__init__" (inClass (top 5) 0)) rfl
  exact mk_cl1 S.more (i := 4) (by decide) (by decide +kernel) (by decide +kernel) (by decide +kernel) F (fun _ _ _ _ _ _ _ _ => rfl) (fun _ _ _ _ _ _ _ _ => rfl)
theorem cl5 : Cl1 K (CA K 5) "index" := by
  obtain ⟨fd, F⟩ := S.t.d.def_ 14 (d := iOf "InvalidText" "InvalidText.__init__" (inClass (top 6) 0)) rfl
  exact mk_cl1 S.more (i := 5) (by decide) (by decide +kernel) (by decide +kernel) (by decide +kernel) F (fun _ _ _ _ _ _ _ _ => rfl) (fun _ _ _ _ _ _ _ _ => rfl)
theorem cl6 : Cl1 K (CA K 6) "value" := by
  obtain ⟨fd, F⟩ := S.t.d.def_ 15 (d := iOf "InvalidName" "InvalidName.__init__" (inClass (top 7) 0)) rfl
  exact mk_cl1 S.more (i := 6) (by decide) (by decide +kernel) (by decide +kernel) (by decide +kernel) F (fun _ _ _ _ _ _ _ _ => rfl) (fun _ _ _ _ _ _ _ _ => rfl)
theorem cl7 : Cl1 K (CA K 7) "name" := by
  obtain ⟨fd, F⟩ := S.t.d.def_ 16 (d := iOf "InvalidEntry" "InvalidEntry.__init__" (inClass (top 8) 0)) rfl
  exact mk_cl1 S.more (i := 7) (by decide) (by decide +kernel) (by decide +kernel) (by decide +kernel) F (fun _ _ _ _ _ _ _ _ => rfl) (fun _ _ _ _ _ _ _ _ => rfl)
theorem cl8 : Cl1 K (CA K 8) "index" := by
  obtain ⟨fd, F⟩ := S.t.d.def_ 17 (d := iOf "InvalidDeed" "InvalidDeed.__init__" (inClass (top 9) 0)) rfl
  exact mk_cl1 S.more (i := 8) (by decide) (by decide +kernel) (by decide +kernel) (by decide +kernel) F (fun _ _ _ _ _ _ _ _ => rfl) (fun _ _ _ _ _ _ _ _ => rfl)
theorem cl9 : Cl1 K (CA K 9) "index" := by
  obtain ⟨fd, F⟩ := S.t.d.def_ 18 (d := iOf "InvalidGuard" "InvalidGuard.__init__" (inClass (top 10) 0)) rfl
  exact mk_cl1 S.more (i := 9) (by decide) (by decide +kernel) (by decide +kernel) (by decide +kernel) F (fun _ _ _ _ _ _ _ _ => rfl) (fun _ _ _ _ _ _ _ _ => rfl)
theorem cl10 : Cl1 K (CA K 10) "spot" := by
  obtain ⟨fd, F⟩ := S.t.d.def_ 19 (d := iOf "NotChooser" "NotChooser.__init__" (inClass (top 11) 0)) rfl
  exact mk_cl1 S.more (i := 10) (by decide) (by decide +kernel) (by decide +kernel) (by decide +kernel) F (fun _ _ _ _ _ _ _ _ => rfl) (fun _ _ _ _ _ _ _ _ => rfl)
theorem cl11 : Cl1 K (CA K 11) "value" := by
  obtain ⟨fd, F⟩ := S.t.d.def_ 20 (d := iOf "NotFitting" "NotFitting.__init__" (inClass (top 12) 0)) rfl
  exact mk_cl1 S.more (i := 11) (by decide) (by decide +kernel) (by decide +kernel) (by decide +kernel) F (fun _ _ _ _ _ _ _ _ => rfl) (fun _ _ _ _ _ _ _ _ => rfl)
theorem cl12 : Cl1 K (CA K 12) "name" := by
  obtain ⟨fd, F⟩ := S.t.d.def_ 21 (d := iOf "Endless" "Endless.__init__" (inClass (top 13) 0)) rfl
  exact mk_cl1 S.more (i := 12) (by decide) (by decide +kernel) (by decide +kernel) (by decide +kernel) F (fun _ _ _ _ _ _ _ _ => rfl) (fun _ _ _ _ _ _ _ _ => rfl)
theorem cl13 : Cl1 K (CA K 13) "name" := by
  obtain ⟨fd, F⟩ := S.t.d.def_ 22 (d := iOf "TooGreat" "TooGreat.__init__" (inClass (top 14) 0)) rfl
  exact mk_cl1 S.more (i := 13) (by decide) (by decide +kernel) (by decide +kernel) (by decide +kernel) F (fun _ _ _ _ _ _ _ _ => rfl) (fun _ _ _ _ _ _ _ _ => rfl)
theorem cl14 : Cl1 K (CA K 14) "name" := by
  obtain ⟨fd, F⟩ := S.t.d.def_ 23 (d := iOf "Standing" "Standing.__init__" (inClass (top 15) 0)) rfl
  exact mk_cl1 S.more (i := 14) (by decide) (by decide +kernel) (by decide +kernel) (by decide +kernel) F (fun _ _ _ _ _ _ _ _ => rfl) (fun _ _ _ _ _ _ _ _ => rfl)
theorem cl15 : Cl1 K (CA K 15) "question" := by
  obtain ⟨fd, F⟩ := S.t.d.def_ 24 (d := iOf "NoQuestion" "NoQuestion.__init__" (inClass (top 16) 0)) rfl
  exact mk_cl1 S.more (i := 15) (by decide) (by decide +kernel) (by decide +kernel) (by decide +kernel) F (fun _ _ _ _ _ _ _ _ => rfl) (fun _ _ _ _ _ _ _ _ => rfl)
theorem cl16 : Cl1 K (CA K 16) "place" := by
  obtain ⟨fd, F⟩ := S.t.d.def_ 25 (d := iOf "NoPart" "NoPart.__init__" (inClass (top 17) 0)) rfl
  exact mk_cl1 S.more (i := 16) (by decide) (by decide +kernel) (by decide +kernel) (by decide +kernel) F (fun _ _ _ _ _ _ _ _ => rfl) (fun _ _ _ _ _ _ _ _ => rfl)
theorem cl17 : Cl1 K (CA K 17) "spot" := by
  obtain ⟨fd, F⟩ := S.t.d.def_ 26 (d := iOf "NoSpot" "NoSpot.__init__" (inClass (top 18) 0)) rfl
  exact mk_cl1 S.more (i := 17) (by decide) (by decide +kernel) (by decide +kernel) (by decide +kernel) F (fun _ _ _ _ _ _ _ _ => rfl) (fun _ _ _ _ _ _ _ _ => rfl)
theorem cl18 : Cl1 K (CA K 18) "index" := by
  obtain ⟨fd, F⟩ := S.t.d.def_ 27 (d := iOf "NoWay" "NoWay.__init__" (inClass (top 19) 0)) rfl
  exact mk_cl1 S.more (i := 18) (by decide) (by decide +kernel) (by decide +kernel) (by decide +kernel) F (fun _ _ _ _ _ _ _ _ => rfl) (fun _ _ _ _ _ _ _ _ => rfl)
theorem cl19 : Cl1 K (CA K 19) "index" := by
  obtain ⟨fd, F⟩ := S.t.d.def_ 28 (d := iOf "NotThere" "NotThere.__init__" (inClass (top 20) 0)) rfl
  exact mk_cl1 S.more (i := 19) (by decide) (by decide +kernel) (by decide +kernel) (by decide +kernel) F (fun _ _ _ _ _ _ _ _ => rfl) (fun _ _ _ _ _ _ _ _ => rfl)
theorem cl20 : Cl1 K (CA K 20) "value" := by
  obtain ⟨fd, F⟩ := S.t.d.def_ 29 (d := iOf "NoName" "NoName.__init__" (inClass (top 21) 0)) rfl
  exact mk_cl1 S.more (i := 20) (by decide) (by decide +kernel) (by decide +kernel) (by decide +kernel) F (fun _ _ _ _ _ _ _ _ => rfl) (fun _ _ _ _ _ _ _ _ => rfl)
theorem cl21 : Cl1 K (CA K 21) "value" := by
  obtain ⟨fd, F⟩ := S.t.d.def_ 30 (d := iOf "OutOfRange" "OutOfRange.__init__" (inClass (top 22) 0)) rfl
  exact mk_cl1 S.more (i := 21) (by decide) (by decide +kernel) (by decide +kernel) (by decide +kernel) F (fun _ _ _ _ _ _ _ _ => rfl) (fun _ _ _ _ _ _ _ _ => rfl)
theorem cl22 : Cl2 K (CA K 22) "name" "word" := by
  obtain ⟨fd, F⟩ := S.t.d.def_ 31 (d := iOf "Unknown" "Unknown.__init__" (inClass (top 23) 0)) rfl
  exact mk_cl2 S.more (i := 22) (by decide) (by decide +kernel) (by decide +kernel) (by decide +kernel) (by decide +kernel) (by decide +kernel) (by decide +kernel) (by decide +kernel) F (fun _ _ _ _ _ _ _ _ _ => rfl) (fun _ _ _ _ _ _ _ _ _ => rfl)
theorem cl23 : Cl1 K (CA K 23) "name" := by
  obtain ⟨fd, F⟩ := S.t.d.def_ 32 (d := iOf "UnknownShape" "UnknownShape.__init__" (inClass (top 24) 0)) rfl
  exact mk_cl1 S.more (i := 23) (by decide) (by decide +kernel) (by decide +kernel) (by decide +kernel) F (fun _ _ _ _ _ _ _ _ => rfl) (fun _ _ _ _ _ _ _ _ => rfl)
theorem cl24 : Cl1 K (CA K 24) "reason" := by
  obtain ⟨fd, F⟩ := S.t.d.def_ 33 (d := iOf "Fails" "Fails.__init__" (inClass (top 25) 0)) rfl
  exact mk_cl1 S.more (i := 24) (by decide) (by decide +kernel) (by decide +kernel) (by decide +kernel) F (fun _ _ _ _ _ _ _ _ => rfl) (fun _ _ _ _ _ _ _ _ => rfl)
theorem cl25 : Cl2 K (CA K 25) "index" "reason" := by
  obtain ⟨fd, F⟩ := S.t.d.def_ 34 (d := iOf "Failed" "Failed.__init__" (inClass (top 26) 0)) rfl
  exact mk_cl2 S.more (i := 25) (by decide) (by decide +kernel) (by decide +kernel) (by decide +kernel) (by decide +kernel) (by decide +kernel) (by decide +kernel) (by decide +kernel) F (fun _ _ _ _ _ _ _ _ _ => rfl) (fun _ _ _ _ _ _ _ _ _ => rfl)
theorem cl26 : Cl1 K (CA K 26) "index" := by
  obtain ⟨fd, F⟩ := S.t.d.def_ 35 (d := iOf "NoOutcome" "NoOutcome.__init__" (inClass (top 27) 0)) rfl
  exact mk_cl1 S.more (i := 26) (by decide) (by decide +kernel) (by decide +kernel) (by decide +kernel) F (fun _ _ _ _ _ _ _ _ => rfl) (fun _ _ _ _ _ _ _ _ => rfl)
theorem cl27 : Cl1 K (CA K 27) "index" := by
  obtain ⟨fd, F⟩ := S.t.d.def_ 36 (d := iOf "TooLong" "TooLong.__init__" (inClass (top 28) 0)) rfl
  exact mk_cl1 S.more (i := 27) (by decide) (by decide +kernel) (by decide +kernel) (by decide +kernel) F (fun _ _ _ _ _ _ _ _ => rfl) (fun _ _ _ _ _ _ _ _ => rfl)
theorem cl28 : Cl1 K (CA K 28) "index" := by
  obtain ⟨fd, F⟩ := S.t.d.def_ 37 (d := iOf "Broken" "Broken.__init__" (inClass (top 29) 0)) rfl
  exact mk_cl1 S.more (i := 28) (by decide) (by decide +kernel) (by decide +kernel) (by decide +kernel) F (fun _ _ _ _ _ _ _ _ => rfl) (fun _ _ _ _ _ _ _ _ => rfl)
end
end Toy


namespace Toy
open PySem PySem.Spec PyProof.Rows L2 PySem.KX
section
variable {K : PySem.W.Frag} {w : World} {h : Heap} {mg : Str → Option Value}
theorem ones_at {i : Nat} {f : Str} (S : He.SaysX fa fn [] [] exB w h K) (e : ones.lookup i = some f) : Cl1 K (CA K i) f := by
  unfold ones at e
  rw [List.lookup_cons] at e
  split at e
  · rename_i q
    obtain rfl : i = 0 := eq_of_beq q
    obtain rfl : ("value" : Str) = f := Option.some.inj e
    exact cl0 S
  rw [List.lookup_cons] at e
  split at e
  · rename_i q
    obtain rfl : i = 1 := eq_of_beq q
    obtain rfl : ("value" : Str) = f := Option.some.inj e
    exact cl1 S
  rw [List.lookup_cons] at e
  split at e
  · rename_i q
    obtain rfl : i = 2 := eq_of_beq q
    obtain rfl : ("value" : Str) = f := Option.some.inj e
    exact cl2 S
  rw [List.lookup_cons] at e
  split at e
  · rename_i q
    obtain rfl : i = 3 := eq_of_beq q
    obtain rfl : ("value" : Str) = f := Option.some.inj e
    exact cl3 S
  rw [List.lookup_cons] at e
  split at e
  · rename_i q
    obtain rfl : i = 4 := eq_of_beq q
    obtain rfl : ("index" : Str) = f := Option.some.inj e
    exact cl4 S
  rw [List.lookup_cons] at e
  split at e
  · rename_i q
    obtain rfl : i = 5 := eq_of_beq q
    obtain rfl : ("index" : Str) = f := Option.some.inj e
    exact cl5 S
  rw [List.lookup_cons] at e
  split at e
  · rename_i q
    obtain rfl : i = 6 := eq_of_beq q
    obtain rfl : ("value" : Str) = f := Option.some.inj e
    exact cl6 S
  rw [List.lookup_cons] at e
  split at e
  · rename_i q
    obtain rfl : i = 7 := eq_of_beq q
    obtain rfl : ("name" : Str) = f := Option.some.inj e
    exact cl7 S
  rw [List.lookup_cons] at e
  split at e
  · rename_i q
    obtain rfl : i = 8 := eq_of_beq q
    obtain rfl : ("index" : Str) = f := Option.some.inj e
    exact cl8 S
  rw [List.lookup_cons] at e
  split at e
  · rename_i q
    obtain rfl : i = 9 := eq_of_beq q
    obtain rfl : ("index" : Str) = f := Option.some.inj e
    exact cl9 S
  rw [List.lookup_cons] at e
  split at e
  · rename_i q
    obtain rfl : i = 10 := eq_of_beq q
    obtain rfl : ("spot" : Str) = f := Option.some.inj e
    exact cl10 S
  rw [List.lookup_cons] at e
  split at e
  · rename_i q
    obtain rfl : i = 11 := eq_of_beq q
    obtain rfl : ("value" : Str) = f := Option.some.inj e
    exact cl11 S
  rw [List.lookup_cons] at e
  split at e
  · rename_i q
    obtain rfl : i = 12 := eq_of_beq q
    obtain rfl : ("name" : Str) = f := Option.some.inj e
    exact cl12 S
  rw [List.lookup_cons] at e
  split at e
  · rename_i q
    obtain rfl : i = 13 := eq_of_beq q
    obtain rfl : ("name" : Str) = f := Option.some.inj e
    exact cl13 S
  rw [List.lookup_cons] at e
  split at e
  · rename_i q
    obtain rfl : i = 14 := eq_of_beq q
    obtain rfl : ("name" : Str) = f := Option.some.inj e
    exact cl14 S
  rw [List.lookup_cons] at e
  split at e
  · rename_i q
    obtain rfl : i = 15 := eq_of_beq q
    obtain rfl : ("question" : Str) = f := Option.some.inj e
    exact cl15 S
  rw [List.lookup_cons] at e
  split at e
  · rename_i q
    obtain rfl : i = 16 := eq_of_beq q
    obtain rfl : ("place" : Str) = f := Option.some.inj e
    exact cl16 S
  rw [List.lookup_cons] at e
  split at e
  · rename_i q
    obtain rfl : i = 17 := eq_of_beq q
    obtain rfl : ("spot" : Str) = f := Option.some.inj e
    exact cl17 S
  rw [List.lookup_cons] at e
  split at e
  · rename_i q
    obtain rfl : i = 18 := eq_of_beq q
    obtain rfl : ("index" : Str) = f := Option.some.inj e
    exact cl18 S
  rw [List.lookup_cons] at e
  split at e
  · rename_i q
    obtain rfl : i = 19 := eq_of_beq q
    obtain rfl : ("index" : Str) = f := Option.some.inj e
    exact cl19 S
  rw [List.lookup_cons] at e
  split at e
  · rename_i q
    obtain rfl : i = 20 := eq_of_beq q
    obtain rfl : ("value" : Str) = f := Option.some.inj e
    exact cl20 S
  rw [List.lookup_cons] at e
  split at e
  · rename_i q
    obtain rfl : i = 21 := eq_of_beq q
    obtain rfl : ("value" : Str) = f := Option.some.inj e
    exact cl21 S
  rw [List.lookup_cons] at e
  split at e
  · rename_i q
    obtain rfl : i = 23 := eq_of_beq q
    obtain rfl : ("name" : Str) = f := Option.some.inj e
    exact cl23 S
  rw [List.lookup_cons] at e
  split at e
  · rename_i q
    obtain rfl : i = 24 := eq_of_beq q
    obtain rfl : ("reason" : Str) = f := Option.some.inj e
    exact cl24 S
  rw [List.lookup_cons] at e
  split at e
  · rename_i q
    obtain rfl : i = 26 := eq_of_beq q
    obtain rfl : ("index" : Str) = f := Option.some.inj e
    exact cl26 S
  rw [List.lookup_cons] at e
  split at e
  · rename_i q
    obtain rfl : i = 27 := eq_of_beq q
    obtain rfl : ("index" : Str) = f := Option.some.inj e
    exact cl27 S
  rw [List.lookup_cons] at e
  split at e
  · rename_i q
    obtain rfl : i = 28 := eq_of_beq q
    obtain rfl : ("index" : Str) = f := Option.some.inj e
    exact cl28 S
  cases e
theorem txt_of (S : He.SaysX fa fn [] [] exB w h K) (X : K.In h) (G : h.Ns mainGlobals mg) : Txt K mg (CA K) where
  one := fun i f e => ones_at S e
  un := cl22 S
  fa := cl25 S
  g := fun i hi => ex_g S.more hi
  at_ := fun i nm e => by
    have m : He.Fa.glo nm ∈ fa := List.mem_append_right _ (List.mem_map.mpr ⟨nm, List.mem_of_getElem? e, rfl⟩)
    have q := He.glo_ok X G (S.t.d.facts m)
    have z : nmAt i = nm := by
      unfold nmAt
      rw [List.getD_eq_getElem?_getD, e]
      rfl
    rw [q]
    show some (Value.ref (He.ga K nm)) = some (Value.ref (He.ga K (nmAt i)))
    rw [z]
  kit := fun i j hi hj => ex_kit S.more hi hj
  kV := fun i hi => (ex_base S.more hi).1
  kL := fun i hi => (ex_base S.more hi).2.1
  kR := fun i hi => (ex_base S.more hi).2.2
end
theorem facts {P : Program} {w : World} {K : PySem.W.Frag} {h : Heap} {mg : Str → Option Value} {f : Addr} (X : K.In h) (G : h.Ns mainGlobals mg) (hfa : mg ("law" : Str) = some (.ref f)) (S : He.SaysX fa fn [] [] exB w h K) :
    ∃ fd : FuncData, FunD K "law" "law" (defArgs sLaw) (defBody sLaw) (defScope sLaw) [] [] f fd ∧ (∀ (s : Shared) (v : Value), BindsTo s fd ⟨[v], []⟩ [("_law_script", v)]) ∧ ∀ base : Heap, K.In base → base.Ns mainGlobals mg → BodyOk P w K mg base 3 NL "law" (defScope sLaw) (defBody sLaw) f (spLaw K) := by
  have T := txt_of S X G
  obtain ⟨dB, FB⟩ := S.t.d.def_ 0 (d := dOf "_law_begin" sBegin) rfl
  have mB := He.glo_ok X G (S.t.d.fact 0 (f := .glo "_law_begin") rfl)
  obtain ⟨dD, FD⟩ := S.t.d.def_ 1 (d := dOf "_law_draw" sDraw) rfl
  have mD := He.glo_ok X G (S.t.d.fact 1 (f := .glo "_law_draw") rfl)
  obtain ⟨dP, FP⟩ := S.t.d.def_ 2 (d := dOf "_law_pick" sPick) rfl
  have mP := He.glo_ok X G (S.t.d.fact 2 (f := .glo "_law_pick") rfl)
  obtain ⟨dO, FO⟩ := S.t.d.def_ 3 (d := dOf "_law_odd" sOdd) rfl
  have mO := He.glo_ok X G (S.t.d.fact 3 (f := .glo "_law_odd") rfl)
  obtain ⟨dA, FA⟩ := S.t.d.def_ 4 (d := dOf "_law_errors_a" sErrA) rfl
  have mA := He.glo_ok X G (S.t.d.fact 4 (f := .glo "_law_errors_a") rfl)
  obtain ⟨dE, FE⟩ := S.t.d.def_ 5 (d := dOf "_law_errors_b" sErrB) rfl
  have mE := He.glo_ok X G (S.t.d.fact 5 (f := .glo "_law_errors_b") rfl)
  obtain ⟨dF, FF⟩ := S.t.d.def_ 6 (d := dOf "_law_flags" sFlags) rfl
  have mF := He.glo_ok X G (S.t.d.fact 6 (f := .glo "_law_flags") rfl)
  obtain ⟨dS, FS⟩ := S.t.d.def_ 7 (d := dOf "_law_sorts" sSorts) rfl
  have mS := He.glo_ok X G (S.t.d.fact 7 (f := .glo "_law_sorts") rfl)
  obtain ⟨dL, FL⟩ := S.t.d.def_ 8 (d := dOf "law" sLaw) rfl
  have mL := He.glo_ok X G (S.t.d.fact 8 (f := .glo "law") rfl)
  have z0 := He.free_ok X G (S.t.d.fact 9 (f := .free "len") rfl)
  have z1 := He.free_ok X G (S.t.d.fact 10 (f := .free "int") rfl)
  have z2 := He.free_ok X G (S.t.d.fact 11 (f := .free "range") rfl)
  have z3 := He.free_ok X G (S.t.d.fact 12 (f := .free "min") rfl)
  have z4 := He.free_ok X G (S.t.d.fact 13 (f := .free "repr") rfl)
  have z5 := He.free_ok X G (S.t.d.fact 14 (f := .free "isinstance") rfl)
  have z6 := He.free_ok X G (S.t.d.fact 15 (f := .free "zip") rfl)
  have z7 := He.free_ok X G (S.t.d.fact 16 (f := .free "ValueError") rfl)
  have z8 := He.free_ok X G (S.t.d.fact 17 (f := .free "LookupError") rfl)
  have z9 := He.free_ok X G (S.t.d.fact 18 (f := .free "RuntimeError") rfl)
  have bB : Binds K dB ["_law_script"] [] := FB.bindsN fun _ _ _ _ _ _ us hl => match us, hl with | [_], _ => rfl
  have bD : Binds K dD ["_law_tape", "_law_many"] [] := FD.bindsN fun _ _ _ _ _ _ us hl => match us, hl with | [_, _], _ => rfl
  have bP : Binds K dP ["_law_tape", "_law_items"] [] := FP.bindsN fun _ _ _ _ _ _ us hl => match us, hl with | [_, _], _ => rfl
  have bO : Binds K dO ["_law_tape"] [] := FO.bindsN fun _ _ _ _ _ _ us hl => match us, hl with | [_], _ => rfl
  have bA : Binds K dA ["_law_x", "_law_y"] [] := FA.bindsN fun _ _ _ _ _ _ us hl => match us, hl with | [_, _], _ => rfl
  have bE : Binds K dE ["_law_x", "_law_y"] [] := FE.bindsN fun _ _ _ _ _ _ us hl => match us, hl with | [_, _], _ => rfl
  have bF : Binds K dF ["_law_e"] [] := FF.bindsN fun _ _ _ _ _ _ us hl => match us, hl with | [_], _ => rfl
  have bS : Binds K dS ["_law_e"] [] := FS.bindsN fun _ _ _ _ _ _ us hl => match us, hl with | [_], _ => rfl
  have e := hfa.symm.trans mL
  cases e
  refine ⟨dL, FL, fun s v => FL.bindsA (ps := ["_law_script"]) (fun _ _ _ _ _ _ us hl => match us, hl with | [_], _ => rfl) s [v] rfl, fun base _ _ => ?_⟩
  have GD : FnOk P w K mg base CX0 1 _ dD ["_law_tape", "_law_many"] spDraw := ok_draw (fun_of FD) z0 z1
  have GP : FnOk P w K mg base CX0 2 _ dP ["_law_tape", "_law_items"] spPick := ok_pick (fun_of FP) GD mD FD.kp bD z0
  have GO : FnOk P w K mg base CX0 3 _ dO ["_law_tape"] spOdd := ok_odd (fun_of FO) GP mP FP.kp bP
  have GB : FnOk P w K mg base CX0 1 _ dB ["_law_script"] (spBegin K) := ok_begin (fun_of FB)
  have GA : FnOk P w K mg base CX0 3 _ dA ["_law_x", "_law_y"] (spErr (specA (CA K))) := ok_errA (fun_of FA) T
  have GE : FnOk P w K mg base CX0 3 _ dE ["_law_x", "_law_y"] (spErr (specB (CA K))) := ok_errB (fun_of FE) T
  have GF : FnOk P w K mg base CX0 1 _ dF ["_law_e"] (spFlags (CA K)) := ok_flags (fun_of FF) T z5
  have GS : FnOk P w K mg base CX0 1 _ dS ["_law_e"] (spSorts (CA K)) := ok_sorts (fun_of FS) T z5 z7 z8 z9 z6
  exact body_law ⟨z0, z2, z3, z4⟩ GB mB FB.kp bB GO mO FO.kp bO GA mA FA.kp bA GE mE FE.kp bE GS mS FS.kp bS GF mF FF.kp bF
end Toy
open PySem PySem.W PySem.Calls PyProof.Rows
set_option maxRecDepth 100000 in
set_option maxHeartbeats 0 in
theorem PySem.Challenge.cw_sieveways_k01_errors_holds : PySem.Challenge.rw_sieveways_k01_errors.Holds := by
  w_on; o_law
  refine HandSHeadRun.head_any (r := OpenLaw.row PySem.Challenge.rw_sieveways_k01_errors) (q := view (OpenLaw.row PySem.Challenge.rw_sieveways_k01_errors).prog [39]) (H := Toy.hk) (ob := Toy.ob) (M := 9000) (loose := Toy.looseN) (d := HandSHeadRun.topDef (OpenLaw.row PySem.Challenge.rw_sieveways_k01_errors).prog 39) (kwd := []) Toy.ob_eq
    (by kernel_rfl) (fun s => by kernel_rfl) Toy.run (by kernel_rfl) (by kernel_rfl) (by kernel_rfl) (by rfl) (by first | assumption | decide +kernel) (by decide +kernel) ⟨rfl, rfl, rfl, rfl, rfl, by decide +kernel⟩ ?hw ?hc
  case hw => w_witness2
  case hc =>
    refine L2.walkG (l := PySem.Challenge.rw_sieveways_k01_errors) (n := 63) (k := 3) (x := "_law_script") rfl (by decide) (by kernel_rfl) ⟨rfl, by decide, by decide⟩ ?F
    intro w mg fa h Y G hmg0
    obtain ⟨K, KX, c⟩ := Y
    have hmg : mg ("law" : PySem.Str) = some (.ref fa) := by
      have e : (HandSHeadRun.topDef (OpenLaw.row PySem.Challenge.rw_sieveways_k01_errors).prog 39).name = ("law" : PySem.Str) := by kernel_rfl
      rw [← e]
      exact hmg0
    obtain ⟨fd, FD, hb, hF⟩ := Toy.facts (P := (PySem.Challenge.rw_sieveways_k01_errors).prog) (w := w) KX G hmg c
    exact ⟨K, fd, _, _, _, _, _, Toy.NL, Toy.spLaw K, KX, FD, Toy.scL, hb, fun H a ns hl hS => ⟨a, ns, rfl, hS, hl, fun _ => rfl⟩, hF⟩

