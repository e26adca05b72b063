import PyProof.Rows.All
import Wide.All
import OpenK.AllK
import Wide.FinOn
import HandS.ForMost
import HandS.Flow
import HandS.Wide
import HandS.Small
import HandS.ExcValue
import HandS.Defaults
import HandS.IsInst
import HandS.More
import HandS.Strs
import HandS.Style
import HandS.Conv
import PyProof.ReprRoads
import HandS.Dict
import HandS.HeadEnd
import KE.LtData
import HandS.SortRule
import KE.SortData
import PyProof.ZipIter
import PyProof.CollectWalk
import PyProof.TupleOfGen
import KE.KStateDown
import HandS.Head0
import HandS.Head1
import HandS.Head2
import HandS.HeadHook1
import HandS.HeadHook2
import HandS.HeadHook3
import HandS.HeadHook4
import PySem.Challenge.RW_sieveways_k03_whole_order_of_data
set_option Elab.async false
set_option linter.all false
set_option maxRecDepth 100000
set_option maxHeartbeats 0
namespace Toy
open PySem L2
def top (i : Nat) : Stmt := PySem.Challenge.pw_sieveways_k03_whole_order_of_data.main.body.getD i (.Pass ⟨0, 0, 0, 0⟩)
abbrev sBegin : Stmt := top 10
abbrev sDraw : Stmt := top 11
abbrev sPick : Stmt := top 12
/-! ### the tape -/
def kC : Key := Sum.inr ("cells" : Str)
def kA : Key := Sum.inr ("at" : Str)
def kL : Key := Sum.inr ("left" : Str)
def tp (l : Addr) (a f : Int) : List (Key × V) := [(kC, .ref l), (kA, .int a), (kL, .int f)]
theorem k_ca : ¬ (kC = kA) := by decide +kernel
theorem k_cl : ¬ (kC = kL) := by decide +kernel
theorem k_al : ¬ (kA = kL) := by decide +kernel
theorem k_la : ¬ (kL = kA) := by decide +kernel
theorem tp_cells (l : Addr) (a f : Int) : valV (tp l a f) kC = some (.ref l) := by
  unfold tp
  rw [valV_pos rfl]
theorem tp_at (l : Addr) (a f : Int) : valV (tp l a f) kA = some (.int a) := by
  unfold tp
  rw [valV_neg k_ca, valV_pos rfl]
theorem tp_left (l : Addr) (a f : Int) : valV (tp l a f) kL = some (.int f) := by
  unfold tp
  rw [valV_neg k_cl, valV_neg k_al, valV_pos rfl]
theorem put_at (l : Addr) (a f b : Int) : putK (tp l a f) kA (.int b) = tp l b f := by
  unfold tp putK
  rw [if_pos (by simp)]
  simp only [List.map_cons, List.map_nil]
  rw [if_neg k_ca, if_pos trivial, if_neg k_la]
theorem put_left (l : Addr) (a f b : Int) : putK (tp l a f) kL (.int b) = tp l a b := by
  unfold tp putK
  rw [if_pos (by simp)]
  simp only [List.map_cons, List.map_nil]
  rw [if_neg k_cl, if_neg k_al, if_pos trivial]
section
variable {H : Hp} {d l : Addr} {a f : Int} (h : H d = some (.dK (tp l a f)))
include h
theorem get_cells : DGet H d (.str ("cells" : Str)) (some (.ref l)) := by
  have z := DGet.k (k := kC) h
  rw [tp_cells] at z
  exact z
theorem get_at : DGet H d (.str ("at" : Str)) (some (.int a)) := by
  have z := DGet.k (k := kA) h
  rw [tp_at] at z
  exact z
theorem get_left : DGet H d (.str ("left" : Str)) (some (.int f)) := by
  have z := DGet.k (k := kL) h
  rw [tp_left] at z
  exact z
theorem set_at (b : Int) : DPut H d (.str ("at" : Str)) (.int b) (upd H d (.dK (tp l b f))) := by
  have z := DPut.k (k := kA) (v := .int b) h (by show 3 < sizeLine; decide)
  rw [put_at] at z
  exact z
theorem set_left (b : Int) : DPut H d (.str ("left" : Str)) (.int b) (upd H d (.dK (tp l a b))) := by
  have z := DPut.k (k := kL) (v := .int b) h (by show 3 < sizeLine; decide)
  rw [put_left] at z
  exact z
end
/-- at d a tape, of which at most n draws were made -/
def Tape (H : Hp) (d l : Addr) (n : Nat) : Prop := ∃ (ns : List Int) (a f : Int), H d = some (.dK (tp l a f)) ∧ H l = some (.lst (ns.map V.int)) ∧ ns ≠ [] ∧ ns.length ≤ 1000 ∧ 0 ≤ a ∧ a ≤ n
/-- all that stood stands, but at d -/
def But (d : Addr) (H H' : Hp) : Prop := ∀ b o, b ≠ d → H b = some o → H' b = some o
theorem But.refl {d : Addr} {H : Hp} : But d H H := fun _ _ _ e => e
theorem But.trans {d : Addr} {H H1 H2 : Hp} (a : But d H H1) (b : But d H1 H2) : But d H H2 := fun x o n e => b x o n (a x o n e)
theorem But.upd {d : Addr} {H H1 : Hp} {u : HO} (a : But d H H1) : But d H (upd H1 d u) := fun x o n e => by
  rw [upd_ne n]
  exact a x o n e
theorem But.new {d p : Addr} {H H1 : Hp} {u : HO} (a : But d H H1) (hp : H1 p = none) : But d H (L2.upd H1 p u) := fun x o n e => by
  rw [upd_ne (ne_of_none (a x o n e) hp)]
  exact a x o n e
def spDraw : Sp := fun vs H Q _ => ∃ (d l : Addr) (n : Nat) (m : Int), vs = [.ref d, .int m] ∧ Tape H d l n ∧ n ≤ 1000000 ∧ 0 < m ∧ m < 1000000 ∧
  ∀ H' r, But d H H' → Tape H' d l (n + 1) → 0 ≤ r → r < m → Q (.int r) H'
section
variable {P : Program} {w : World} {K : PySem.W.Frag} {mg : Str → Option Value} {base : Heap}
theorem scD : FnScope ["_law_tape", "_law_many", "_law_turn", "_law_size", "_law_cell", "_law_got"] ["_law_tape", "_law_many"] (defScope sDraw) := ⟨rfl, rfl, rfl, by decide +kernel, rfl, by decide +kernel, by decide +kernel⟩
theorem ok_draw {f : Addr} {fd : FuncData} (F : Fun K "_law_draw" "_law_draw" sDraw f fd) (mLen : mg "len" = none) (mInt : mg "int" = none) : FnOk P w K mg base CX0 1 f fd ["_law_tape", "_law_many"] spDraw := by
  refine F.ok scD (fun vs H Q E h => ?_) (fun cdv A outer s H vs Q E hr h => ?_)
  · obtain ⟨d, l, n, m, rfl, _⟩ := h
    rfl
  · obtain ⟨d, l, n, m, rfl, ⟨ns, a, f, hd, hl, hne, hlen, a0, an⟩, hn, m0, m1, q⟩ := h
    have hu := hu_of hr
    refine ⟨_, pss_cons (ps_if (pt_cmpR op_lt (pe_dget hu (pv 0) pe_str (fun _ _ => rfl)) (pv 1) (nomark _))
      (pss_cons (ps_par (i := 2) (j := 3) rfl scD.nd rfl rfl (by decide) rfl rfl (pa_cons (pe_dget hu (pv 0) pe_str (fun _ _ => rfl)) (pa_cons (pe_callB call_len_seq (by rfl) mLen PySem.boot_len (pa_cons (pe_dget hu (pv 0) pe_str (fun _ _ => rfl)) pa_nil)) pa_nil)) (by rfl))
      (pss_cons (ps_asg (pe_tup (pa_cons (pe_ix ix_list (pe_dget hu (pv 0) pe_str (fun _ _ => rfl)) (pe_op op_mod (pe_callTy call_int1 (by rfl) mInt (by decide +kernel) (pa_cons (pv 2) pa_nil)) (pv 3)) (fun _ _ => rfl)) (pa_cons (pe_op op_add (pv 2) pe_int) pa_nil)))
          (pg_tup rfl (pgs_cons (pg_name (i := 4) scD.nd rfl (.inl rfl)) (pgs_cons (pg_sub (pv 0) pe_str (set_dict hu)) pgs_nil))))
      (pss_cons (ps_dput hu (pv 0) pe_str (pe_op op_mod (pe_callTy call_int1 (by rfl) mInt (by decide +kernel) (pa_cons (pe_op op_pow (pe_op op_add (pe_op op_add (pe_op op_mod (pe_callTy call_int1 (by rfl) mInt (by decide +kernel) (pa_cons (pv 4) pa_nil)) pe_int) (pe_op op_mul pe_int (pv 2))) pe_int) pe_int) pa_nil)) (pe_op op_add (pe_op op_pow pe_int pe_int) pe_int)) rfl)
      (pss_one (ps_if (PW.pt (pw_and (pt_cmpR op_ge (pv 4) (pe_op op_pow pe_int pe_int) (nomark _)) (pw_and1 (pt_cmpR op_lt (pv 2) (pv 3) (nomark _)))))
        (pss_one (ps_dput hu (pv 0) pe_str (pe_op op_sub (pv 4) (pe_op op_pow pe_int pe_int)) rfl)) pss_nil)))))
      pss_nil)
      (pss_cons (ps_asg (pe_tup (pa_cons (pe_op op_mod (pe_callTy call_int1 (by rfl) mInt (by decide +kernel) (pa_cons (pe_dget hu (pv 0) pe_str (fun _ _ => rfl)) pa_nil)) (pv 1)) (pa_cons (pe_op op_fdivW (pe_dget hu (pv 0) pe_str (fun _ _ => rfl)) (pv 1)) pa_nil)))
          (pg_tup rfl (pgs_cons (pg_name (i := 5) scD.nd rfl (.inl rfl)) (pgs_cons (pg_sub (pv 0) pe_str (set_dict hu)) pgs_nil))))
      (pss_one (ps_ret (pv 5)))), ?_⟩
    refine ⟨_, rfl, d, _, rfl, get_left hd, _, rfl, _, _, rfl, rfl, _, rfl, ?_⟩
    refine ite2 (fun c => ?_) (fun c => ?_)
    · have e0 : ((ns.map V.int).length : Int) = (ns.length : Int) := by rw [List.length_map]
      have lp : 0 < ns.length := List.length_pos_iff.mpr hne
      obtain ⟨j, hj, ej⟩ : ∃ j : Nat, j < ns.length ∧ a % ((ns.map V.int).length : Int) = (j : Int) := by
        rw [e0]
        have h1 : 0 ≤ a % (ns.length : Int) := Int.emod_nonneg a (by omega)
        have h2 : a % (ns.length : Int) < (ns.length : Int) := Int.emod_lt_of_pos a (by omega)
        exact ⟨(a % (ns.length : Int)).toNat, by omega, by omega⟩
      have hat : atI (ns.map V.int) (j : Int) = some (.int ns[j]) := atI_nat (by rw [List.getElem?_map, List.getElem?_eq_getElem hj]; rfl)
      refine ⟨_, rfl, d, _, rfl, get_at hd, _, rfl, d, _, rfl, get_cells hd, l, _, rfl, .inl (SqL.of hl), _, _, rfl, ?_⟩
      refine ⟨_, rfl, d, _, rfl, get_cells hd, _, rfl, .inl ⟨_, rfl, _, rfl, _, _, rfl, rfl, (by show 0 < ((ns.map V.int).length : Int); omega), ?_⟩⟩
      refine ⟨l, _, _, .int ns[j], rfl, rfl, SqL.of hl, (by rw [ej]; exact hat), _, rfl, _, _, rfl, rfl, (by show 2 ≤ sizeLine; decide), fun t nt => ?_⟩
      have ndt : d ≠ t := ne_of_none hd nt
      have nlt : l ≠ t := ne_of_none hl nt
      have nld : l ≠ d := ne_of hl hd (by intro z; cases z)
      refine ⟨t, _, rfl, SqT.of upd_same, rfl, _, _, rfl, _, _, rfl, _, rfl, d, _, rfl, set_at (by rw [upd_ne ndt]; exact hd) _, rfl, ?_⟩
      generalize hcell : ns[j] = cell
      have h63 : 0 ≤ cell % 2147483563 := Int.emod_nonneg _ (by decide)
      have h64 : cell % 2147483563 < 2147483563 := Int.emod_lt_of_pos _ (by decide)
      refine ⟨_, rfl, .inl ⟨_, rfl, _, _, rfl, rfl, (by show (0 : Int) < 2147483563; decide), _, rfl, _, _, rfl, rfl, (.inl ⟨by decide, by decide⟩), _, _, rfl, rfl, _, _, rfl, rfl, _, _, rfl, rfl, ⟨by decide, by decide, by omega⟩, .inl ⟨_, rfl, _, _, rfl, rfl, ⟨by decide, by decide, by decide⟩, _, _, rfl, rfl, _, _, rfl, rfl, (by show (0 : Int) < 10 ^ 50 + 151; decide), ?_⟩⟩⟩
      refine ⟨_, rfl, d, _, rfl, set_left upd_same _, ?_⟩
      refine ⟨_, rfl, _, _, rfl, rfl, ⟨by decide, by decide, by decide⟩, _, _, rfl, rfl, _, rfl, ?_⟩
      refine ite2 (fun c1 => ?_) (fun c1 => ?_)
      · refine ⟨_, rfl, _, rfl, _, _, rfl, rfl, _, rfl, ?_⟩
        refine ite2 (fun c2 => ?_) (fun c2 => ?_)
        · refine ⟨_, rfl, _, _, rfl, rfl, ⟨by decide, by decide, by decide⟩, _, _, rfl, rfl, _, rfl, d, _, rfl, set_left upd_same _, ?_⟩
          refine ⟨_, rfl, d, _, rfl, get_left upd_same, .inl ⟨_, rfl, _, rfl, _, _, rfl, rfl, m0, _, rfl, d, _, rfl, get_left upd_same, _, rfl, _, _, rfl, rfl, wide_div (b := 64) m0 (by omega) (by decide) (by decide), (by show 2 ≤ sizeLine; decide), fun t2 nt2 => ?_⟩⟩
          have ndt2 : d ≠ t2 := ne_of_none upd_same nt2
          refine ⟨t2, _, rfl, SqT.of upd_same, rfl, _, _, rfl, _, _, rfl, _, rfl, d, _, rfl, set_left (by rw [upd_ne ndt2]; exact upd_same) _, rfl, _, rfl, q _ _ ((((But.refl : But d H H).new nt).upd.upd.upd).new nt2).upd ?_ (Int.emod_nonneg _ (by omega)) (Int.emod_lt_of_pos _ m0)⟩
          have nlt2 : l ≠ t2 := ne_of_none (by rw [upd_ne nld, upd_ne nld, upd_ne nld, upd_ne nlt]; exact hl) nt2
          exact ⟨ns, a + 1, _, upd_same, by rw [upd_ne nld, upd_ne nlt2, upd_ne nld, upd_ne nld, upd_ne nld, upd_ne nlt]; exact hl, hne, hlen, by omega, by push_cast; omega⟩
        · refine ⟨_, rfl, d, _, rfl, get_left upd_same, .inl ⟨_, rfl, _, rfl, _, _, rfl, rfl, m0, _, rfl, d, _, rfl, get_left upd_same, _, rfl, _, _, rfl, rfl, wide_div (b := 64) m0 (by omega) (by decide) (by decide), (by show 2 ≤ sizeLine; decide), fun t2 nt2 => ?_⟩⟩
          have ndt2 : d ≠ t2 := ne_of_none upd_same nt2
          refine ⟨t2, _, rfl, SqT.of upd_same, rfl, _, _, rfl, _, _, rfl, _, rfl, d, _, rfl, set_left (by rw [upd_ne ndt2]; exact upd_same) _, rfl, _, rfl, q _ _ ((((But.refl : But d H H).new nt).upd.upd).new nt2).upd ?_ (Int.emod_nonneg _ (by omega)) (Int.emod_lt_of_pos _ m0)⟩
          have nlt2 : l ≠ t2 := ne_of_none (by rw [upd_ne nld, upd_ne nld, upd_ne nlt]; exact hl) nt2
          exact ⟨ns, a + 1, _, upd_same, by rw [upd_ne nld, upd_ne nlt2, upd_ne nld, upd_ne nld, upd_ne nlt]; exact hl, hne, hlen, by omega, by push_cast; omega⟩
      · refine iteF ?_
        refine ⟨_, rfl, d, _, rfl, get_left upd_same, .inl ⟨_, rfl, _, rfl, _, _, rfl, rfl, m0, _, rfl, d, _, rfl, get_left upd_same, _, rfl, _, _, rfl, rfl, wide_div (b := 64) m0 (by omega) (by decide) (by decide), (by show 2 ≤ sizeLine; decide), fun t2 nt2 => ?_⟩⟩
        have ndt2 : d ≠ t2 := ne_of_none upd_same nt2
        refine ⟨t2, _, rfl, SqT.of upd_same, rfl, _, _, rfl, _, _, rfl, _, rfl, d, _, rfl, set_left (by rw [upd_ne ndt2]; exact upd_same) _, rfl, _, rfl, q _ _ ((((But.refl : But d H H).new nt).upd.upd).new nt2).upd ?_ (Int.emod_nonneg _ (by omega)) (Int.emod_lt_of_pos _ m0)⟩
        have nlt2 : l ≠ t2 := ne_of_none (by rw [upd_ne nld, upd_ne nld, upd_ne nlt]; exact hl) nt2
        exact ⟨ns, a + 1, _, upd_same, by rw [upd_ne nld, upd_ne nlt2, upd_ne nld, upd_ne nld, upd_ne nlt]; exact hl, hne, hlen, by omega, by push_cast; omega⟩
    · refine ⟨_, rfl, d, _, rfl, get_left hd, .inl ⟨_, rfl, _, rfl, _, _, rfl, rfl, m0, _, rfl, d, _, rfl, get_left hd, _, rfl, _, _, rfl, rfl, wide_div (b := 64) m0 (by omega) (by decide) (by decide), (by show 2 ≤ sizeLine; decide), fun t nt => ?_⟩⟩
      have ndt : d ≠ t := ne_of_none hd nt
      refine ⟨t, _, rfl, SqT.of upd_same, rfl, _, _, rfl, _, _, rfl, _, rfl, d, _, rfl, set_left (by rw [upd_ne ndt]; exact hd) _, rfl, _, rfl, q _ _ (((But.refl : But d H H)).new nt).upd ?_ (Int.emod_nonneg _ (by omega)) (Int.emod_lt_of_pos _ m0)⟩
      exact ⟨ns, a, _, upd_same, by rw [upd_ne (ne_of hl hd (by intro z; cases z)), upd_ne (ne_of_none hl nt)]; exact hl, hne, hlen, by omega, by push_cast; omega⟩
end
end Toy


namespace Toy
open PySem L2
section
variable {P : Program} {w : World} {K : PySem.W.Frag} {mg : Str → Option Value} {base : Heap}
def spPick : Sp := fun vs H Q _ => ∃ (d l p : Addr) (n : Nat) (xs : List V), vs = [.ref d, .ref p] ∧ Tape H d l n ∧ n ≤ 1000000 ∧ H p = some (.lst xs) ∧ xs ≠ [] ∧ xs.length < 1000000 ∧
  ∀ H' v, But d H H' → Tape H' d l (n + 1) → v ∈ xs → Q v H'
theorem scP : FnScope ["_law_tape", "_law_items"] ["_law_tape", "_law_items"] (defScope sPick) := ⟨rfl, rfl, rfl, by decide +kernel, rfl, by decide +kernel, by decide +kernel⟩
theorem ok_pick {f fD : Addr} {fd fdD : FuncData} (F : Fun K "_law_pick" "_law_pick" sPick f fd) (GD : FnOk P w K mg base CX0 1 fD fdD ["_law_tape", "_law_many"] spDraw) (mD : mg "_law_draw" = some (.ref fD)) (kD : PySem.W.keepIn K (.ref fD) = true) (bD : Binds K fdD ["_law_tape", "_law_many"] []) (mLen : mg "len" = none) : FnOk P w K mg base CX0 2 f fd ["_law_tape", "_law_items"] spPick := by
  refine F.ok scP (fun vs H Q E h => ?_) (fun cdv A outer s H vs Q E hr h => ?_)
  · obtain ⟨d, l, p, n, xs, rfl, _⟩ := h
    rfl
  · obtain ⟨d, l, p, n, xs, rfl, hT, hn, hp, hne, hlen, q⟩ := h
    refine ⟨_, pss_one (ps_ret (pe_ix ix_list (pv 1) (pe_call GD hr rfl mD kD bD .nil pass0 (pa_cons (pv 0) (pa_cons (pe_callB call_len_seq (by rfl) mLen PySem.boot_len (pa_cons (pv 1) pa_nil)) pa_nil))) (fun _ _ => rfl))), ?_⟩
    have lp : 0 < xs.length := List.length_pos_iff.mpr hne
    refine ⟨_, rfl, _, rfl, _, rfl, p, _, rfl, .inl (SqL.of hp), d, l, n, _, rfl, hT, hn, (by omega), (by omega), fun H1 r hb hT1 r0 r1 => ?_⟩
    have npd : p ≠ d := by
      obtain ⟨ns, a, f, hd, _⟩ := hT
      exact ne_of hp hd (by intro z; cases z)
    obtain ⟨j, ej⟩ : ∃ j : Nat, r = (j : Int) := ⟨r.toNat, by omega⟩
    have hj : j < xs.length := by omega
    refine ⟨p, xs, _, xs[j], rfl, rfl, SqL.of (hb _ _ npd hp), (by rw [ej]; exact atI_nat (List.getElem?_eq_getElem hj)), q _ _ hb hT1 (List.getElem_mem hj)⟩
theorem cut63 (ns : List Int) (h : ns.length ≤ 63) : cutV (ns.map V.int) none (some 63) = ns.map V.int := by
  unfold cutV
  rw [show HT.sIx (ns.map V.int).length (ns.map V.int).length (some 63) = min 63 (ns.map V.int).length from HT.sIx_nat _ _ 63, HT.sIx_none, List.length_map, show min 63 ns.length = ns.length by omega, List.drop_zero, Nat.sub_zero]
  exact List.take_of_length_le (by rw [List.length_map]; exact Nat.le_refl _)
theorem merge_tp (l : Addr) : mergeK [] [(kC, V.ref l), (kA, V.int 0), (kL, V.int 0)] = tp l 0 0 := by
  unfold mergeK
  simp only [List.foldl_cons, List.foldl_nil]
  unfold putK
  simp [k_ca, k_cl, k_al]
  rfl
def spBegin (K : PySem.W.Frag) : Sp := fun vs H Q _ => ∃ (a : Addr) (ns : List Int), vs = [.ref a] ∧ SqL K H a (ns.map V.int) ∧ ns.length ≤ 63 ∧ ∀ H' d l, Same H H' → H d = none → H l = none → l ≠ d → Tape H' d l 0 → Q (.ref d) H'
theorem scB : FnScope ["_law_script"] ["_law_script"] (defScope sBegin) := ⟨rfl, rfl, rfl, by decide +kernel, rfl, by decide +kernel, by decide +kernel⟩
theorem same_new {H H1 : Hp} {p : Addr} {u : HO} (a : Same H H1) (hp : H1 p = none) : Same H (upd H1 p u) := fun x o e => by
  rw [upd_ne (ne_of_none (a x o e) hp)]
  exact a x o e
theorem ok_begin {f : Addr} {fd : FuncData} (F : Fun K "_law_begin" "_law_begin" sBegin f fd) : FnOk P w K mg base CX0 1 f fd ["_law_script"] (spBegin K) := by
  refine F.ok scB (fun vs H Q E h => ?_) (fun cdv A outer s H vs Q E hr h => ?_)
  · obtain ⟨a, ns, rfl, _⟩ := h
    rfl
  · obtain ⟨a, ns, rfl, hS, hlen, q⟩ := h
    refine ⟨_, pss_one (ps_ret (pe_disp (pps_cons pe_str (pe_orT (pe_slice sl_list (pv 0) po_none (po_some pe_int)) (pe_one (pe_lst (pa_cons pe_int pa_nil)))) (pps_cons pe_str pe_int (pps_cons pe_str pe_int pps_nil))) (by rfl) (by rfl) (fun z => by cases z) (by decide))), ?_⟩
    intro p np
    have s1 : Same H (upd H p (.dK [])) := same_new (fun _ _ e => e) np
    refine ⟨_, rfl, 63, rfl, a, _, rfl, s1.seq hS, fun c nc => ?_⟩
    have npc : p ≠ c := ne_of_none upd_same nc
    refine ⟨_, .inl ⟨_, SqL.of upd_same, rfl⟩, ?_⟩
    have fin : ∀ (H2 : Hp) (l : Addr) (ms : List Int), H l = none → Same (upd H p (.dK [])) H2 → H2 l = some (.lst (ms.map V.int)) → ms ≠ [] → ms.length ≤ 1000 → Q (.ref p) (upd H2 p (.dK (mergeK [] [(kC, V.ref l), (kA, V.int 0), (kL, V.int 0)]))) := by
      intro H2 l ms nl s2 hl h1 h2
      have npl : l ≠ p := ne_of hl (s2 _ _ upd_same) (by intro z; cases z)
      rw [merge_tp]
      refine q _ p l (fun b o e => ?_) np nl npl ⟨ms, 0, 0, upd_same, by rw [upd_ne npl]; exact hl, h1, h2, Int.le_refl _, Int.le_refl _⟩
      rw [upd_ne (ne_of_none e np)]
      exact s2 _ _ (s1 _ _ e)
    refine ite2 (fun c1 => ?_) (fun c1 => ?_)
    · refine ⟨Eq.trans (upd_ne npc) upd_same, [(kC, V.ref c), (kA, V.int 0), (kL, V.int 0)], rfl, (by show 3 ≤ 15; decide), fin _ c ns (by rw [upd_ne npc.symm] at nc; exact nc) (same_new (fun _ _ e => e) nc) (by rw [upd_same, cut63 ns hlen]) ?_ (by omega)⟩
      intro z
      rw [z] at c1
      exact Bool.false_ne_true c1
    · refine ⟨(by show 1 ≤ sizeLine; decide), fun e ne => ?_⟩
      have npe : p ≠ e := ne_of_none (Eq.trans (upd_ne npc) upd_same) ne
      refine ⟨Eq.trans (upd_ne npe) (Eq.trans (upd_ne npc) upd_same), [(kC, V.ref e), (kA, V.int 0), (kL, V.int 0)], rfl, (by show 3 ≤ 15; decide), fin _ e [0] (by rw [upd_ne (ne_of_none upd_same ne).symm, upd_ne npe.symm] at ne; exact ne) (same_new (same_new (fun _ _ e => e) nc) ne) upd_same (by decide) (by decide)⟩
end
end Toy


namespace L2
open PySem PySem.Spec PyProof.Rows
/-! repr of data: lists, tuples, dicts of flat values -/
def keyD : Key → PyData
  | .inl i => .int i
  | .inr x => .str x
def leafD : V → PyData
  | .int i => .int i
  | .str x => .str x
  | _ => .none
def leafV (v : V) : Prop := (∃ i, v = .int i) ∨ ∃ x, v = .str x
mutual
inductive Dq (H : Hp) : V → PyData → Prop
  | non : Dq H .non .none
  | bl (b : Bool) : Dq H (.bl b) (.bool b)
  | int (i : Int) : Dq H (.int i) (.int i)
  | str (x : Str) : Dq H (.str x) (.str x)
  | lst {a : Addr} {xs : List V} {ds : List PyData} : H a = some (.lst xs) → sysModules ≠ a → DqAll H xs ds → Dq H (.ref a) (.list ds)
  | tup {a : Addr} {xs : List V} {ds : List PyData} : H a = some (.tup xs) → DqAll H xs ds → Dq H (.ref a) (.tuple ds)
  | dct {a : Addr} {kvs : List (Key × V)} : H a = some (.dK kvs) → (∀ p ∈ kvs, leafV p.2) → Dq H (.ref a) (.dict (kvs.map fun p => (keyD p.1, leafD p.2)))
inductive DqAll (H : Hp) : List V → List PyData → Prop
  | nil : DqAll H [] []
  | cons {v : V} {vs : List V} {d : PyData} {ds : List PyData} : Dq H v d → DqAll H vs ds → DqAll H (v :: vs) (d :: ds)
end
mutual
theorem Dq.mono {H H' : Hp} (s : Same H H') : ∀ {v : V} {d : PyData}, Dq H v d → Dq H' v d
  | _, _, .non => .non
  | _, _, .bl b => .bl b
  | _, _, .int i => .int i
  | _, _, .str x => .str x
  | _, _, .lst h n a => .lst (s _ _ h) n (DqAll.mono s a)
  | _, _, .tup h a => .tup (s _ _ h) (DqAll.mono s a)
  | _, _, .dct h a => .dct (s _ _ h) a
theorem DqAll.mono {H H' : Hp} (s : Same H H') : ∀ {v : List V} {d : List PyData}, DqAll H v d → DqAll H' v d
  | _, _, .nil => .nil
  | _, _, .cons a b => .cons (Dq.mono s a) (DqAll.mono s b)
end
section
variable {X : Cx} {pins : List (Addr × Obj)} {σ : St} {H : Hp} {s : Shared}
theorem reads_keys (h : Heap) {P : Program} {w : World} : ∀ {es : List DictEntry} {vs : List (Key × Value)}, Pairs (mixKind P w) es vs → ReadsAll h (es.map (·.key)) (vs.map fun p => keyD p.1) [] ∧ es.map (·.val) = vs.map (·.2) := by
  intro es vs hp
  induction hp with
  | nil => exact ⟨.nil, rfl⟩
  | @cons e kv es kvs hk hv _ ih =>
    obtain ⟨i1, i2⟩ := ih
    have kd : ∀ k : Key, ∀ u : Value, keyIs k u = true → Reads h u (keyD k) [] := fun k u q => by
      rcases keyIs_shape q with ⟨i, t, rfl, rfl⟩ | ⟨x, t, rfl, rfl⟩
      · exact .int i t
      · exact .str x t
    exact ⟨ReadsAll.cons (as := []) (bs := []) (kd _ _ hk) i1, by rw [List.map_cons, List.map_cons, i2, hv]⟩
theorem reads_leaf {h : Heap} {v : V} {u : Value} (l : leafV v) (r : RelV v u) : Reads h u (leafD v) [] := by
  rcases l with ⟨i, rfl⟩ | ⟨x, rfl⟩
  · obtain ⟨t, rfl⟩ := r
    exact .int i t
  · obtain ⟨t, rfl⟩ := r
    exact .str x t
theorem reads_vals {h : Heap} : ∀ {kvs : List (Key × V)} {vs : List (Key × Value)}, KV kvs vs → (∀ p ∈ kvs, leafV p.2) → ReadsAll h (vs.map (·.2)) (kvs.map fun p => leafD p.2) [] ∧ (vs.map fun p => keyD p.1) = kvs.map fun p => keyD p.1 := by
  intro kvs vs r
  unfold KV at r
  induction r with
  | nil => intro _; exact ⟨.nil, rfl⟩
  | @cons p q ps qs hpq t ih =>
    intro l
    obtain ⟨i1, i2⟩ := ih fun z hz => l z (List.mem_cons_of_mem _ hz)
    refine ⟨ReadsAll.cons (as := []) (bs := []) (reads_leaf (l p List.mem_cons_self) hpq.2) i1, ?_⟩
    rw [List.map_cons, List.map_cons, i2, hpq.1]
mutual
theorem Dq.reads (I : Inv X pins σ H s) : ∀ {v : V} {d : PyData} {u : Value}, Dq H v d → RelV v u → ∃ as, Reads s.heap u d as ∧ sysModules ∉ as
  | _, _, _, .non, r => by cases r; exact ⟨_, .none, nofun⟩
  | _, _, _, .bl b, r => by cases r; exact ⟨_, .bool b, nofun⟩
  | _, _, _, .int i, r => by obtain ⟨t, rfl⟩ := r; exact ⟨_, .int i t, nofun⟩
  | _, _, _, .str x, r => by obtain ⟨t, rfl⟩ := r; exact ⟨_, .str x t, nofun⟩
  | _, _, _, .lst h n a, r => by
    cases r
    obtain ⟨its, rv, ⟨o, m, ho, hc, _, hd⟩, _⟩ := I.list (SqL.of h)
    obtain ⟨as, hr, hn⟩ := DqAll.reads I a rv
    exact ⟨_, Reads.list ho hc hd hr, fun z => by rcases List.mem_cons.mp z with e | e; exact n e; exact hn e⟩
  | _, _, _, .tup h a, r => by
    cases r
    obtain ⟨its, rv, ⟨o, ho, hc, m, hd⟩, _⟩ := I.tuple (SqT.of h)
    obtain ⟨as, hr, hn⟩ := DqAll.reads I a rv
    exact ⟨_, Reads.tuple ho hc hd hr, hn⟩
  | _, _, _, .dct (a := a) (kvs := kvs) h l, r => by
    cases r
    obtain ⟨_, hs, vs, rv, o, es, ep, h1, h2, h3, _, h5, _⟩ := (show ObjOk X.prog X.w H s.heap a (.dK kvs) from I.hok a _ h)
    obtain ⟨k1, k2⟩ := reads_keys s.heap h5
    obtain ⟨v1, v2⟩ := reads_vals (h := s.heap) rv l
    refine ⟨_, Reads.dict (as := []) (bs := []) h1 h2.1 h3 ?_ ?_, ?_⟩
    · rw [List.map_map]
      rw [v2] at k1
      exact k1
    · rw [k2, List.map_map]
      exact v1
    · intro z
      simp at z
      rw [← z] at hs
      simp at hs
theorem DqAll.reads (I : Inv X pins σ H s) : ∀ {v : List V} {d : List PyData} {u : List Value}, DqAll H v d → Vals v u → ∃ as, ReadsAll s.heap u d as ∧ sysModules ∉ as
  | _, _, _, .nil, r => by cases r; exact ⟨_, .nil, nofun⟩
  | _, _, _, .cons a b, r => by
    cases r with
    | cons r1 r2 =>
      obtain ⟨as, q1, n1⟩ := Dq.reads I a r1
      obtain ⟨bs, q2, n2⟩ := DqAll.reads I b r2
      exact ⟨_, .cons q1 q2, fun z => by rcases List.mem_append.mp z with e | e; exact n1 e; exact n2 e⟩
end
end
section
variable {X : Cx}
/-- a list display, new, not sys.modules -/
def tLstN (t : TA) : TE := fun σ H Q => t σ H fun xs H1 => xs.length ≤ sizeLine ∧ ∀ l, H1 l = none → sysModules ≠ l → Q (.ref l) (upd H1 l (.lst xs))
theorem pe_lstN {es : List Expr} {t : TA} {pos : Pos} (h : PA X es t) : PE X (.List es pos) (tLstN t) := by
  refine ⟨fun pins s σ H Q I hq => ?_⟩
  refine wpAny_List_spliced (thn (h.run pos pins s σ H _ I hq) fun us s1 hh => ?_)
  obtain ⟨xs, H1, I1, r, z, q⟩ := hh
  refine ⟨by rw [← r.length]; exact z, .ref s1.heap.objs.size, upd H1 s1.heap.objs.size (.lst xs), I1.laid (t' := s1.toks) (fun b u e => Heap.get?_push_of_some _ e) (Nat.le_refl _) ⟨z, us, 0, r, Heap.get?_push_size _ rfl⟩, rfl, ?_⟩
  exact q _ (I1.hok.fresh (Nat.le_refl _)) (Nat.ne_of_lt I1.big)
/-- repr(x), x a list or a tuple or a dict -/
def rShow (xs : List V) (H : Hp) (Q : VK) : Prop := ∃ (a : Addr) (d : PyData), xs = [.ref a] ∧ Dq H (.ref a) d ∧ d.showable = true ∧ d.depth ≤ 20 ∧ d.shown.length ≤ sizeLine ∧ Q (.str d.shown) H
theorem call_repD (hr : Room 1 X.A) (hg : X.A.guards = some []) : CallR X (.builtin "repr") rShow := by
  intro pins s σ H xs us Q I r h
  obtain ⟨a, d, rfl, hd, hs, hdp, hz, q⟩ := h
  obtain ⟨u, rfl, ru⟩ := vals1 r
  obtain ⟨as, hr1, hn⟩ := Dq.reads I hd ru
  cases ru
  refine repr_of_reads' hr1 hs (fun _ => hn) hg ?_ (fun _ _ e => e) (fun h' u tk k => ?_) hz
  · have := hr.un
    omega
  · exact ⟨.str d.shown, H, I.kept (t' := tk) k, ⟨_, rfl⟩, q⟩
end
end L2


namespace L2
open PySem PySem.Spec PyProof.Rows
/-! The law's own def, run by its caller alone (so that what runs around it is known: repr asks that). -/
/-- the body of the law, in the caller's surroundings -/
def BodyOk (P : Program) (w : World) (K : PySem.W.Frag) (mg : Str → Option Value) (base : Heap) (k : Nat) (N : List Str) (qual : Str) (sc : Scope) (body : List Stmt) (f : Addr) (sp : Sp) : Prop :=
  ∀ (cdv : Value) (s : Shared) (H : Hp) (vs : List V) (Q : VK) (E : XK), Room k (callerA.deeper (envOfC qual sc s.heap.objs.size f cdv)) → sp vs H Q E →
    ∃ t, PSs (cxOf CX0 P w K mg base N qual sc f cdv callerA [] s H E) body t ∧ t { nx := fun _ H' => Q .non H', rt := Q } (start N vs) H
section
variable {P : Program} {w : World} {K : PySem.W.Frag} {mg : Str → Option Value} {base : Heap} {k : Nat} {f : Addr} {x qual : Str} {params : Arguments} {body : List Stmt} {sc : Scope} {N ps : List Str} {sp : Sp} {fd : FuncData}
theorem body_run (F : FunD K x qual params body sc [] [] f fd) (S : FnScope N ps sc) (B : BodyOk P w K mg base k N qual sc body f sp) {s : Shared} {H : Hp} {args : Args} {us : List Value} {vs : List V} {Q : VK} {E : XK} (hr : Room (k + 1) callerA)
    (e0 : Env0 P w K mg base callerA [] s H) (hb : BindsTo s fd args (ps.zip us)) (r : Vals vs us) (hl : vs.length = ps.length) (h : sp vs H Q E) : codeAny (model P w) callerA (.call (.ref f) args) (CR CX0 [] P w H s Q E) s := by
  obtain ⟨oc, od, dV, kV, doc, pm, an, cdv, ct, osl, rfl, lk, hcd, _, _⟩ := F.ex
  have up : ∀ b o, base.get? b = some o → s.heap.get? b = some o := fun b o e => (e0.bs b o e).1
  have KX : K.In s.heap := e0.mod.kin.keeps up
  have kinds : ∀ y ∈ ps.zip us, sc.names.lookup y.1 = some .local ∨ (sc.names.lookup y.1 = some .cell ∧ ((cellsFrom (s.heap.objs.size + 1) sc.names []).lookup y.1).isSome = true) := by
    rintro ⟨n, v⟩ hy
    exact (S.par n (List.of_mem_zip hy).1).imp id fun q => ⟨q, PySem.W.cellsFrom_some _ _ _ (.inl q)⟩
  refine codeAny_call_function hr.depth (KX _ _ lk) rfl S.co S.gen rfl (PySem.W.codeRec_of KX hcd) (hb _ _ _ _ (wpAny_newFunctionEnv_cells S.kind kinds fun env he s1 x => ?_))
  subst he
  obtain ⟨t, ht, hq⟩ := B cdv s H vs Q E (hr.deeper _) h
  refine ⟨(e0.mod.nolimit.keeps up).keeps x.toInCall.keep, codeAny_func (wpAny_mono (ht.run [] s1 (start N vs) H _ (inv_start S hr.hd e0 hl r x) hq) (fun fl s' hs => ?_) fun e s' hs => hs)⟩
  cases fl with
  | ret u =>
    obtain ⟨v, σ', H', J, rv, q⟩ := hs
    exact ⟨v, H', J.os, J.bare, J.base, J.hok, rv, q⟩
  | next =>
    obtain ⟨σ', H', J, q⟩ := hs
    exact ⟨V.non, H', J.os, J.bare, J.base, J.hok, rfl, q⟩
  | brk =>
    obtain ⟨_, _, _, q⟩ := hs
    exact False.elim q
  | cont =>
    obtain ⟨_, _, _, q⟩ := hs
    exact False.elim q
end
end L2
namespace L2
open PySem PySem.Spec PyProof.Rows
section
variable {P : Program} {w : World} {K : PySem.W.Frag} {mg mb : Str → Option Value} {k : Nat} {a fa : Addr} {x qual nm : Str} {params : Arguments} {body : List Stmt} {sc : Scope} {N : List Str} {sp : Sp} {fd : FuncData} {s : Shared} {vs : List Value} {ns : List Int}
/-- where the abstract heap tracks the script alone (or nothing) -/
theorem ground_of {H : Hp} (KX : K.In s.heap) (g : s.heap.Ns mainGlobals mg) (b : s.heap.Ns builtinsNs mb) (bb : ∀ x : Str, x ≠ "__name__" → mb x = bootBuiltins x) (lim : s.heap.NoLimit) (gen : s.gens = #[])
    (ha : s.heap.get? a = some { cls := .type "list", data := .seq vs.toArray }) (hok : HOk P w H s.heap) (only : ∀ c, H c ≠ none → c = a) (out : H a ≠ none → K.lookup a = none) :
    ∃ base : Heap, K.In base ∧ base.Ns mainGlobals mg ∧ Env0 P w K mg base callerA [] s H := by
  have get : ∀ {c : Addr} {o : Obj}, s.heap.get? c = some o → H c = none → (hidT s.heap H).get? c = some o := fun e n => hidT_get e n
  have tab : ∀ {c : Addr} {m : Str → Option Value}, s.heap.Ns c m → (hidT s.heap H).Ns c m := by
    rintro c m ⟨o, es, ep, e, d, r⟩
    refine ⟨o, es, ep, get e (Classical.byContradiction fun q => ?_), d, r⟩
    have ca := only c q
    subst ca
    rw [ha] at e
    cases e
    cases (show Data.seq vs.toArray _ = Data.dict es ep from d)
  have kin : K.In (hidT s.heap H) := fun c o e => get (KX c o e) (Classical.byContradiction fun q => by
    have ca := only c q
    subst ca
    rw [out q] at e
    cases e)
  obtain ⟨mc, l1, l2⟩ := lim
  exact ⟨hidT s.heap H, kin, tab g, rfl, ⟨kin, tab g, ⟨mb, tab b, bb⟩, mc, tab l1, l2⟩, fun c o e => of_hidT e, Nat.le_of_eq (hidT_size _ _), trivial, (fun c hc => nomatch hc), hok, .of_eq gen⟩
theorem law_run (F : FunD K nm qual params body sc [] [] fa fd) (S : FnScope N [x] sc) (B : ∀ base : Heap, K.In base → base.Ns mainGlobals mg → BodyOk P w K mg base k N qual sc body fa sp) (hb : ∀ (s : Shared) (u : Value), BindsTo s fd ⟨[u], []⟩ [(x, u)]) (hr : Room (k + 1) callerA)
    (hsp : ∀ H : Hp, SqL K H a (ns.map V.int) → sp [.ref a] H (fun v _ => v = .bl true) fun _ _ _ => False)
    (KX : K.In s.heap) (g : s.heap.Ns mainGlobals mg) (b : s.heap.Ns builtinsNs mb) (bb : ∀ x : Str, x ≠ "__name__" → mb x = bootBuiltins x) (lim : s.heap.NoLimit) (gen : s.gens = #[])
    (ha : s.heap.get? a = some { cls := .type "list", data := .seq vs.toArray }) (hi : IntsAre vs ns) (hl : ns.length ≤ sizeLine) :
    codeAny (model P w) callerA (.call (.ref fa) ⟨[.ref a], []⟩) (fun r s' => r = .ok (.ret (.bool true)) ∧ OldK s.heap s'.heap ∧ s'.os = s.os ∧ AllBare s'.gens) s := by
  have run : ∀ H : Hp, SqL K H a (ns.map V.int) → HOk P w H s.heap → (∀ c, H c ≠ none → c = a) → (H a ≠ none → K.lookup a = none) → (∀ c u, H c = some u → ∃ o xs, u = .frz o (.lst xs)) →
      codeAny (model P w) callerA (.call (.ref fa) ⟨[.ref a], []⟩) (fun r s' => r = .ok (.ret (.bool true)) ∧ OldK s.heap s'.heap ∧ s'.os = s.os ∧ AllBare s'.gens) s := by
    intro H hS hok only out frz
    obtain ⟨base, k1, k2, e0⟩ := ground_of KX g b bb lim gen ha hok only out
    refine codeAny_mono (body_run (us := [.ref a]) (vs := [.ref a]) F S (B base k1 k2) hr e0 (hb s (.ref a)) (.cons rfl .nil) rfl (hsp H hS)) fun r s' q => ?_
    cases r with
    | error e => exact False.elim q
    | ok fl =>
      cases fl with
      | next => exact False.elim q
      | brk => exact False.elim q
      | cont => exact False.elim q
      | ret u =>
        obtain ⟨v, H', os, bare, un, hok', rv, ev⟩ := q
        have ev' : v = .bl true := ev
        subst ev'
        obtain rfl : u = Value.bool true := rv
        refine ⟨rfl, OldK.of_keep fun c o e => ?_, os, bare⟩
        cases q : H c with
        | none => exact un.keep c o e q (fun z => nomatch z) (fun z => nomatch z)
        | some u =>
          obtain ⟨ob, xs, rfl⟩ := frz c u q
          obtain ⟨e1, _⟩ := hok c _ q
          obtain ⟨e2, _⟩ := hok' c _ (un.frzs c ob _ q)
          rw [e] at e1
          cases e1
          exact e2
  have rv := vals_ints hi
  cases hk : K.lookup a with
  | some o =>
    have e := KX a o hk
    rw [ha] at e
    cases e
    exact run (fun _ => none) (.inr ⟨_, vs.toArray, _, hk, rfl, rfl, rfl, by rw [List.size_toArray, hi.length]; exact hl, by simpa using rv⟩) (fun c u z => nomatch z) (fun c z => absurd rfl z) (fun z => absurd rfl z) fun c u z => nomatch z
  | none =>
    refine run (fun c => if c = a then some (.frz { cls := .type "list", data := .seq vs.toArray } (.lst (ns.map V.int))) else none) (.inl (.inr ⟨{ cls := .type "list", data := .seq vs.toArray }, if_pos rfl⟩)) (fun c u z => ?_)
      (fun c z => Classical.byContradiction fun q => z (if_neg q)) (fun _ => hk) fun c u z => ?_
    · by_cases hc : c = a
      · have z' := (if_pos hc).symm.trans z
        cases z'
        subst hc
        exact ⟨ha, by rw [List.length_map]; exact hl, vs, _, rv, ha⟩
      · cases (if_neg hc).symm.trans z
    · by_cases hc : c = a
      · cases (if_pos hc).symm.trans z
        exact ⟨_, _, rfl⟩
      · cases (if_neg hc).symm.trans z
end
/-- the end -/
theorem walkG {l : PySem.W.OpenLaw} {n k : Nat} {q : Program} {loose : List Str} {XP : (Str → Option Value) → Heap → Prop} {YP : World → Heap → Prop} {d : DefRec} {x : Str} (hn : l.most = some n) (hn2 : n ≤ sizeLine) (hdf : d.params.defaults = []) (hr : Room (k + 1) callerA)
    (F : ∀ (w : World) (mg : Str → Option Value) (fa : Addr) (h : Heap), YP w h → h.Ns mainGlobals mg → mg d.name = some (.ref fa) →
      ∃ (K : PySem.W.Frag) (fd : FuncData) (nm qual : Str) (params : Arguments) (body : List Stmt) (sc : Scope) (N : List Str) (sp : Sp), K.In h ∧ FunD K nm qual params body sc [] [] fa fd ∧ FnScope N [x] sc ∧ (∀ (s : Shared) (u : Value), BindsTo s fd ⟨[u], []⟩ [(x, u)]) ∧
        (∀ (H : Hp) (a : Addr) (ns : List Int), ns.length ≤ n → SqL K H a (ns.map V.int) → sp [.ref a] H (fun v _ => v = .bl true) fun _ _ _ => False) ∧
        ∀ base : Heap, K.In base → base.Ns mainGlobals mg → BodyOk l.prog w K mg base k N qual sc body fa sp) :
    PySem.W.WalkO q loose XP YP l.row.toRowW d [] (fun f vs => PySem.call f vs) := by
  refine Att.attach_call hn hdf fun w s₀ s₁ mg mb fa o pm cd doc a vs ns G Y ho hd hcd hmg hobj hints hlen hg => ?_
  obtain ⟨K, fd, nm, qual, params, body, sc, N, sp, KX, FD, S, hb, hsp, B⟩ := F w mg fa _ Y G.T.g hmg
  exact law_run FD S B hb hr (fun H hS => hsp H a ns hlen hS) KX G.T.g G.T.b G.T.builtins G.T.nolimit hg hobj hints (Nat.le_trans hlen hn2)
end L2


namespace Toy
open PySem L2
/-! displays of data: the expression e makes the datum dt, of new objects alone, none of them at z -/
def Makes (z : Addr) (te : TE) (dt : PyData) : Prop := ∀ (σ : St) (H : Hp) (Q : VK), (∃ o, H z = some o) → (∀ v H', Same H H' → Dq (delH H' z) v dt → Q v H') → te σ H Q
def MakesA (z : Addr) (ta : TA) (ds : List PyData) : Prop := ∀ (σ : St) (H : Hp) (Q : List V → Hp → Prop), (∃ o, H z = some o) → (∀ vs H', Same H H' → DqAll (delH H' z) vs ds → Q vs H') → ta σ H Q
def MkE (X : Cx) (z : Addr) (e : Expr) (dt : PyData) : Prop := ∃ te, PE X e te ∧ Makes z te dt
def MkA (X : Cx) (z : Addr) (es : List Expr) (ds : List PyData) : Prop := ∃ ta, PA X es ta ∧ MakesA z ta ds
theorem Same.delH {H H' : Hp} (s : Same H H') (z : Addr) : Same (L2.delH H z) (L2.delH H' z) := fun b o e => by
  by_cases h : b = z
  · rw [h, delH_same] at e
    cases e
  · rw [delH_ne h] at e ⊢
    exact s b o e
theorem Same.off {H : Hp} (z : Addr) : Same (L2.delH H z) H := fun b o e => by
  by_cases h : b = z
  · rw [h, delH_same] at e
    cases e
  · rw [delH_ne h] at e
    exact e
theorem But.off {H H' : Hp} {z : Addr} (s : But z H H') : Same (L2.delH H z) (L2.delH H' z) := fun b o e => by
  by_cases h : b = z
  · rw [h, delH_same] at e
    cases e
  · rw [delH_ne h] at e ⊢
    exact s b o h e
theorem Same.but {H H' : Hp} (s : Same H H') (z : Addr) : But z H H' := fun b o _ e => s b o e
theorem dq_len {H : Hp} : ∀ {vs : List V} {ds : List PyData}, DqAll H vs ds → vs.length = ds.length
  | _, _, .nil => rfl
  | _, _, .cons _ r => congrArg Nat.succ (dq_len r)
theorem dq_mem {H : Hp} : ∀ {vs : List V} {ds : List PyData}, DqAll H vs ds → ∀ v ∈ vs, ∃ d ∈ ds, Dq H v d
  | _, _, .nil, _, h => nomatch h
  | _, _, .cons a r, v, h => by
    rcases List.mem_cons.mp h with e | e
    · exact ⟨_, List.mem_cons_self, e ▸ a⟩
    · obtain ⟨d, m, q⟩ := dq_mem r v e
      exact ⟨d, List.mem_cons_of_mem _ m, q⟩
theorem dq_app {H : Hp} : ∀ {vs us : List V} {ds es : List PyData}, DqAll H vs ds → DqAll H us es → DqAll H (vs ++ us) (ds ++ es)
  | _, _, _, _, .nil, b => b
  | _, _, _, _, .cons a r, b => .cons a (dq_app r b)
section
variable {X : Cx} {z : Addr} {e : Expr} {es : List Expr} {dt : PyData} {ds : List PyData} {pos : Pos} {k : Nat}
theorem mk_val {v : V} (h : PE X e (tC v)) (hd : ∀ H, Dq H v dt) : MkE X z e dt := ⟨_, h, fun _ H _ _ q => q v H (fun _ _ z => z) (hd _)⟩
theorem mk_int {i : Int} {k : Nat} : MkE X z (.Constant (.int i) k pos) (.int i) := mk_val pe_int fun _ => .int i
theorem mk_str {x : Str} {k : Nat} : MkE X z (.Constant (.str x) k pos) (.str x) := mk_val pe_str fun _ => .str x
theorem mk_bl {b : Bool} {k : Nat} : MkE X z (.Constant (.bool b) k pos) (.bool b) := mk_val pe_bl fun _ => .bl b
theorem mk_non {k : Nat} : MkE X z (.Constant .none k pos) .none := mk_val pe_non fun _ => .non
theorem mk_neg {i : Int} {k : Nat} {p : Pos} : MkE X z (.UnaryOp .USub (.Constant (.int i) k p) pos) (.int (-i)) := ⟨_, pe_un un_neg pe_int, fun _ H _ _ q => ⟨i, rfl, q _ H (fun _ _ z => z) (.int _)⟩⟩
theorem mk_pow {i j : Int} {k k' : Nat} {p p' : Pos} (h : 0 ≤ j ∧ j ≤ 1000000 ∧ i.natAbs < 2 ^ 64) : MkE X z (.BinOp (.Constant (.int i) k p) .Pow (.Constant (.int j) k' p') pos) (.int (i ^ j.toNat)) :=
  ⟨_, pe_op op_pow pe_int pe_int, fun _ H _ _ q => ⟨i, j, rfl, rfl, h, q _ H (fun _ _ z => z) (.int _)⟩⟩
theorem mk_nil : MkA X z [] [] := ⟨_, pa_nil, fun _ H _ _ q => q [] H (fun _ _ z => z) .nil⟩
theorem mk_cons (a : MkE X z e dt) (r : MkA X z es ds) (he : starEach (e :: es) X.env = (false, eval e X.env) :: starEach es X.env := by rfl) : MkA X z (e :: es) (dt :: ds) := by
  obtain ⟨te, p1, m1⟩ := a
  obtain ⟨ta, p2, m2⟩ := r
  refine ⟨_, pa_cons p1 p2 he, fun σ H Q hz q => ?_⟩
  refine m1 σ H _ hz fun v H1 s1 d1 => ?_
  obtain ⟨o, ho⟩ := hz
  exact m2 σ H1 _ ⟨o, s1 _ _ ho⟩ fun vs H2 s2 d2 => q (v :: vs) H2 (s1.trans s2) (.cons (d1.mono (Same.delH s2 z)) d2)
theorem del_new {H : Hp} {p z : Addr} {u : HO} (h : p ≠ z) : delH (upd H p u) z p = some u := by
  rw [delH_ne h, upd_same]
theorem mk_tup {x1 : Nat} (a : MkA X z es ds) (h : ds.length ≤ 1000) : MkE X z (.Tuple es x1 pos) (.tuple ds) := by
  obtain ⟨ta, p1, m1⟩ := a
  refine ⟨_, pe_tup p1, fun σ H Q hz q => m1 σ H _ hz fun vs H1 s1 d1 => ⟨?_, fun p np => ?_⟩⟩
  · rw [dq_len d1]
    exact Nat.le_of_lt (small1000 h)
  · obtain ⟨o, ho⟩ := hz
    have npz : p ≠ z := (ne_of_none (s1 _ _ ho) np).symm
    exact q _ _ (same_new s1 np) (.tup (del_new npz) (d1.mono (Same.delH (same_new (fun _ _ z => z) np) z)))
theorem mk_lst (a : MkA X z es ds) (h : ds.length ≤ 1000) : MkE X z (.List es pos) (.list ds) := by
  obtain ⟨ta, p1, m1⟩ := a
  refine ⟨_, pe_lstN p1, fun σ H Q hz q => m1 σ H _ hz fun vs H1 s1 d1 => ⟨?_, fun p np ns => ?_⟩⟩
  · rw [dq_len d1]
    exact Nat.le_of_lt (small1000 h)
  · obtain ⟨o, ho⟩ := hz
    have npz : p ≠ z := (ne_of_none (s1 _ _ ho) np).symm
    exact q _ _ (same_new s1 np) (.lst (del_new npz) ns (d1.mono (Same.delH (same_new (fun _ _ z => z) np) z)))
theorem mk_d0 : MkE X z (.Dict [] [] pos) (.dict []) := by
  refine ⟨_, pe_dnewK, fun σ H Q hz q p np => ?_⟩
  obtain ⟨o, ho⟩ := hz
  exact q _ _ (same_new (fun _ _ z => z) np) (.dct (kvs := []) (del_new (ne_of_none ho np).symm) (fun _ h => nomatch h))
theorem mk_d1 {e1 e2 : Expr} {x y : V} {ky : Key} (h1 : PE X e1 (tC x)) (h2 : PE X e2 (tC y)) (hk : x = kV ky) (hy : leafV y) : MkE X z (.Dict [some e1] [e2] pos) (.dict [(keyD ky, leafD y)]) := by
  refine ⟨_, pe_disp (pps_cons h1 h2 pps_nil) (by rfl) (by rfl) (fun z => by cases z) (by show 1 ≤ 15; decide), fun σ H Q hz q p np => ?_⟩
  obtain ⟨o, ho⟩ := hz
  refine ⟨upd_same, [(ky, y)], by rw [hk]; rfl, (by show 1 ≤ 15; decide), ?_⟩
  have e : mergeK [] [(ky, y)] = [(ky, y)] := rfl
  have e2 : upd (upd H p (.dK [])) p (.dK (mergeK [] [(ky, y)])) = upd H p (.dK [(ky, y)]) := by
    funext b
    by_cases hb : b = p
    · rw [hb, upd_same, upd_same, e]
    · rw [upd_ne hb, upd_ne hb, upd_ne hb]
  rw [e2]
  exact q _ _ (same_new (fun _ _ z => z) np) (.dct (kvs := [(ky, y)]) (del_new (ne_of_none ho np).symm) (fun p h => by
    rw [List.mem_singleton.mp h]
    exact hy))
end
theorem few {n : Nat} (h : n ≤ 1000) : n ≤ sizeLine := Nat.le_of_lt (small1000 h)
theorem Tape.same {H H' : Hp} {d l : Addr} {n : Nat} (t : Tape H d l n) (s : Same H H') : Tape H' d l n := by
  obtain ⟨ns, a, f, h1, h2, h3⟩ := t
  exact ⟨ns, a, f, s _ _ h1, s _ _ h2, h3⟩
abbrev partOf (st : Stmt) (i : Nat) : Stmt := (defBody st).getD i (.Pass ⟨0, 0, 0, 0⟩)
end Toy


namespace Toy
open PySem L2
abbrev sShuf : Stmt := top 13
/-! ### a row of texts in any order -/
theorem dpStrs {K : PySem.W.Frag} {H : Hp} : ∀ ks : List Str, DpAll K H (ks.map V.str) (ks.map PyData.str)
  | [] => .nil
  | k :: ks => .cons (.str k) (dpStrs ks)
theorem layStrs : ∀ {ks : List Str}, (∀ k ∈ ks, PyData.strOk k = true) → PyData.canLayAll0 (ks.map PyData.str) = true
  | [], _ => by simp [PyData.canLayAll0]
  | k :: ks, h => by
    simp only [List.map_cons, PyData.canLayAll0, PyData.canLay0]
    rw [h k List.mem_cons_self, layStrs fun x hx => h x (List.mem_cons_of_mem _ hx)]
    rfl
theorem erase_perm {α : Type} : ∀ (l : List α) (j : Nat) (h : j < l.length), (l[j] :: l.eraseIdx j).Perm l
  | x :: l, 0, _ => List.Perm.refl _
  | x :: l, j + 1, h => (List.Perm.swap x _ _).trans (.cons x (erase_perm l j (Nat.lt_of_succ_lt_succ h)))
theorem erase_map {α β : Type} (f : α → β) : ∀ (l : List α) (j : Nat), (l.map f).eraseIdx j = (l.eraseIdx j).map f
  | [], _ => rfl
  | _ :: _, 0 => rfl
  | x :: l, j + 1 => congrArg (f x :: ·) (erase_map f l j)
theorem depthStrs : ∀ ks : List Str, PyData.depthAll (ks.map PyData.str) ≤ 1
  | [] => by simp [PyData.depthAll]
  | k :: ks => by
    have := depthStrs ks
    simp only [List.map_cons, PyData.depthAll, PyData.depth]
    omega
theorem shapedStrs {ks : List Str} (h : ∀ k ∈ ks, PyData.strOk k = true) : SeqAt.shaped (.list (ks.map PyData.str)) = true := by
  unfold SeqAt.shaped
  have z := depthStrs ks
  rw [show (PyData.list (ks.map PyData.str)).canLay0 = true by simp only [PyData.canLay0]; exact layStrs h, Bool.true_and]
  exact decide_eq_true (by simp only [PyData.depth]; omega)
/-- all that stood stands, but at d, at a list L and at a list G -/
def spShuf : Sp := fun vs H Q _ => ∃ (d l p : Addr) (n : Nat) (ks : List Str), vs = [.ref d, .ref p] ∧ Tape H d l n ∧ n ≤ 900000 ∧ H p = some (.lst (ks.map V.str)) ∧ ks.length ≤ 20 ∧ (∀ k ∈ ks, PyData.strOk k = true) ∧
  ∀ H' R (ys : List Str), But d H H' → Tape H' d l (n + ks.length) → H R = none → H' R = some (.lst (ys.map V.str)) → ys.Perm ks → Q (.ref R) H'
section
variable {P : Program} {w : World} {K : PySem.W.Frag} {mg : Str → Option Value} {base : Heap}
theorem scSh : FnScope ["_law_tape", "_law_items", "_law_left", "_law_got"] ["_law_tape", "_law_items"] (defScope sShuf) := ⟨rfl, rfl, rfl, by decide +kernel, rfl, by decide +kernel, by decide +kernel⟩
theorem ok_shuf {f fD : Addr} {fd fdD : FuncData} (F : Fun K "_law_shuffled" "_law_shuffled" sShuf f fd) (GD : FnOk P w K mg base CX0 1 fD fdD ["_law_tape", "_law_many"] spDraw) (mD : mg "_law_draw" = some (.ref fD)) (kD : PySem.W.keepIn K (.ref fD) = true) (bD : Binds K fdD ["_law_tape", "_law_many"] []) (mLen : mg "len" = none) (mList : mg "list" = none) :
    FnOk P w K mg base CX0 2 f fd ["_law_tape", "_law_items"] spShuf := by
  refine F.ok scSh (fun vs H Q E h => ?_) (fun cdv A outer s H vs Q E hr h => ?_)
  · obtain ⟨d, l, p, n, ks, rfl, _⟩ := h
    rfl
  · obtain ⟨d, l, p, n, ks, rfl, hT, hn, hp, hlen, hok, q⟩ := h
    refine ⟨_, pss_cons (ps_par (i := 2) (j := 3) rfl scSh.nd rfl rfl (by decide) rfl rfl (pa_cons (pe_callTy call_list_of (by rfl) mList (by decide +kernel) (pa_cons (pv 1) pa_nil)) (pa_cons (pe_lst pa_nil) pa_nil)) (by rfl))
      (pss_cons (ps_while PassesOwn.never (pt_cmpR (op_neD hr.units) (pv 2) (pe_lst pa_nil) (nomark _))
        (pss_one (ps_expr (pe_bm PySem.F.plainAttrs_list PySem.F.slot_list_append PySem.F.type_list_append mt_append (pv 3) (pa_cons (pe_bm PySem.F.plainAttrs_list PySem.F.slot_list_pop PySem.F.type_list_pop mt_popAt (pv 2)
          (pa_cons (pe_call GD hr (by rfl) mD kD bD .nil pass0 (pa_cons (pv 0) (pa_cons (pe_callB call_len_seq (by rfl) mLen PySem.boot_len (pa_cons (pv 2) pa_nil)) pa_nil))) pa_nil)) pa_nil)))))
      (pss_one (ps_ret (pv 3)))), ?_⟩
    refine ⟨_, rfl, p, _, rfl, .inl (SqL.of hp), fun L nL => ⟨Nat.zero_le _, fun G nG => ⟨_, _, rfl, ?_⟩⟩⟩
    have nLG : L ≠ G := ne_of_none upd_same nG
    have nG0 : H G = none := by rw [upd_ne nLG.symm] at nG; exact nG
    have hd0 : ∃ o, H d = some o := by
      obtain ⟨ns, a, f, h1, _⟩ := hT
      exact ⟨_, h1⟩
    obtain ⟨od, hd0⟩ := hd0
    have ndL : d ≠ L := ne_of_none hd0 nL
    have hl0 : ∃ o, H l = some o := by
      obtain ⟨ns, a, f, _, h1, _⟩ := hT
      exact ⟨_, h1⟩
    obtain ⟨ol, hl0⟩ := hl0
    have nlL : l ≠ L := ne_of_none hl0 nL
    have nlG : l ≠ G := ne_of_none hl0 nG0
    have ndG : d ≠ G := ne_of_none hd0 nG0
    refine ⟨fun m σ H' => ∃ xs ys : List Str, m = xs.length ∧ σ = [some (.ref d), some (.ref p), some (.ref L), some (.ref G)] ∧ (xs ++ ys).Perm ks ∧ Tape H' d l (n + ys.length) ∧ H' L = some (.lst (xs.map V.str)) ∧ H' G = some (.lst (ys.map V.str)) ∧ But d H H',
      ⟨_, ks, [], rfl, rfl, by rw [List.append_nil], (hT.same (same_new (same_new (fun _ _ z => z) nL) nG)), (upd_ne nLG).trans upd_same, upd_same, Same.but (same_new (same_new (fun _ _ z => z) nL) nG) d⟩, fun m σ H1 hW => ?_⟩
    obtain ⟨xs, ys, rfl, rfl, hpm, hT1, hL, hG, hb⟩ := hW
    have okx : ∀ k ∈ xs, PyData.strOk k = true := fun k hk => hok k (hpm.mem_iff.mp (List.mem_append_left _ hk))
    have lens : xs.length + ys.length = ks.length := by rw [← List.length_append]; exact hpm.length_eq
    refine ⟨_, rfl, Nat.zero_le _, fun e ne => ⟨.list (xs.map PyData.str), .list [], .lst (SqL.of ((upd_ne (ne_of_none hL ne)).trans hL)) (dpStrs xs), .lst (SqL.of upd_same) .nil, shapedStrs okx, by decide +kernel, _, rfl, ?_⟩⟩
    have s1 : Same H1 (upd H1 e (.lst [])) := same_new (fun _ _ z => z) ne
    cases xs with
    | nil =>
      have hq : (!PyData.eqv (.list (List.map PyData.str [])) (.list [])) = false := by decide +kernel
      rw [hq]
      refine iteF ⟨_, rfl, q _ G ys (hb.trans (Same.but s1 d)) (hT1.same s1 |> fun t => by
        have e2 : ys.length = ks.length := by simpa using lens
        rw [e2] at t
        exact t) nG0 (s1 _ _ hG) (by simpa using hpm)⟩
    | cons x xs =>
      have hq : (!PyData.eqv (.list (List.map PyData.str (x :: xs))) (.list [])) = true := by
        simp [PyData.eqv, PyData.eqvAll]
      rw [hq]
      refine iteT ?_
      have hL1 := s1 _ _ hL
      have hG1 := s1 _ _ hG
      have lp : (List.map V.str (x :: xs)).length = xs.length + 1 := by rw [List.length_map]; rfl
      refine ⟨fun σ' H' => ∃ xs' ys' : List Str, xs.length = xs'.length ∧ σ' = [some (.ref d), some (.ref p), some (.ref L), some (.ref G)] ∧ (xs' ++ ys').Perm ks ∧ Tape H' d l (n + ys'.length) ∧ H' L = some (.lst (xs'.map V.str)) ∧ H' G = some (.lst (ys'.map V.str)) ∧ But d H H',
        fun σ' H' ⟨xs', ys', h1, h2⟩ => ⟨xs.length, Nat.lt_succ_self _, xs', ys', h1, h2⟩, ?_⟩
      have lens' : xs.length + 1 + ys.length = ks.length := by simpa using lens
      refine ⟨_, rfl, .inl ⟨rfl, _, SqL.of hG1⟩, _, rfl, .inl ⟨rfl, _, SqL.of hL1⟩, _, rfl, _, rfl, L, _, rfl, .inl (SqL.of hL1), d, l, n + ys.length, _, rfl, hT1.same s1, by omega, by rw [lp]; omega, by rw [lp]; omega, fun H2 r b2 t2 r0 r1 => ?_⟩
      rw [lp] at r1
      obtain ⟨j, rfl⟩ : ∃ j : Nat, r = (j : Int) := ⟨r.toNat, by omega⟩
      have hj : j < (x :: xs).length := by simp only [List.length_cons]; omega
      have hL2 := b2 _ _ ndL.symm hL1
      have hG2 := b2 _ _ ndG.symm hG1
      have g1 : (List.map V.str (x :: xs))[j]? = some (.str (x :: xs)[j]) := by rw [List.getElem?_map, List.getElem?_eq_getElem hj]; rfl
      refine ⟨L, _, _, j, _, rfl, rfl, hL2, by omega, by omega, by rw [seqIndex_of (by omega) (by rw [lp]; omega)]; simp, g1, ?_⟩
      refine ⟨G, _, _, rfl, rfl, (upd_ne nLG.symm).trans hG2, small1000 (by rw [List.length_map]; omega), (x :: xs).eraseIdx j, ys ++ [(x :: xs)[j]], ?_, rfl, ?_, ?_, ?_, ?_, ?_⟩
      · rw [List.length_eraseIdx, if_pos hj]
        simp
      · refine List.Perm.trans ?_ hpm
        have z := erase_perm (x :: xs) j hj
        have z2 : ((x :: xs).eraseIdx j ++ (ys ++ [(x :: xs)[j]])).Perm ((x :: xs)[j] :: (x :: xs).eraseIdx j ++ ys) := by
          rw [← List.append_assoc]
          exact List.perm_append_comm.trans (by simp)
        exact z2.trans (List.Perm.append_right ys z)
      · rw [List.length_append]
        obtain ⟨ms, a, f', h1, h2, h3⟩ := t2
        exact ⟨ms, a, f', by rw [upd_ne ndG, upd_ne ndL]; exact h1, by rw [upd_ne nlG, upd_ne nlL]; exact h2, h3⟩
      · rw [upd_ne nLG, upd_same, erase_map]
      · rw [upd_same, List.map_append]
        rfl
      · intro b o hb0 ho
        have h2 := b2 _ _ hb0 (s1 _ _ (hb b o hb0 ho))
        rw [upd_ne (ne_of_none ho nG0), upd_ne (ne_of_none ho nL)]
        exact h2
end
end Toy


namespace Toy
open PySem L2 PyProof.Rows
abbrev sLeaf : Stmt := top 14
/-! ### data, as the tape draws them -/
inductive D where
  | non
  | bl (b : Bool)
  | int (i : Int)
  | str (x : Str)
  | lst (ds : List D)
  | dct (ks : List Str) (ds : List D)
def kvOf (ks : List Str) (us : List V) : List (Key × V) := (ks.zip us).map fun p => (Sum.inr p.1, p.2)
/-- v is the datum, of at most n levels of lists and dicts -/
def Da : Nat → Hp → V → D → Prop
  | _, _, v, .non => v = .non
  | _, _, v, .bl b => v = .bl b
  | _, _, v, .int i => v = .int i
  | _, _, v, .str x => v = .str x ∧ PyData.strOk x = true ∧ x.length ≤ 1000
  | 0, _, _, .lst _ => False
  | 0, _, _, .dct _ _ => False
  | n + 1, H, v, .lst ds => ∃ a xs, v = .ref a ∧ H a = some (.lst xs) ∧ xs.length ≤ 20 ∧ Paired (fun x d => Da n H x d) xs ds
  | n + 1, H, v, .dct ks ds => ∃ a us, v = .ref a ∧ H a = some (.dK (kvOf ks us)) ∧ ks.length ≤ 20 ∧ us.length = ks.length ∧ ks.Nodup ∧ (∀ k ∈ ks, PyData.strOk k = true) ∧ Paired (fun x d => Da n H x d) us ds
theorem Da.mono {H H' : Hp} (s : Same H H') : ∀ {n m : Nat} {v : V} {d : D}, n ≤ m → Da n H v d → Da m H' v d := by
  intro n
  induction n with
  | zero =>
    intro m v d _ h
    cases d with
    | lst ds => simp [Da] at h
    | dct ks ds => simp [Da] at h
    | non => cases m <;> simpa [Da] using h
    | bl b => cases m <;> simpa [Da] using h
    | int i => cases m <;> simpa [Da] using h
    | str x => cases m <;> simpa [Da] using h
  | succ n ih =>
    intro m v d hm h
    obtain ⟨m, rfl⟩ : ∃ k, m = k + 1 := ⟨m - 1, by omega⟩
    have hnm : n ≤ m := by omega
    cases d with
    | lst ds =>
      obtain ⟨a, xs, h1, h2, h3, h4⟩ := (show ∃ a xs, v = .ref a ∧ H a = some (.lst xs) ∧ xs.length ≤ 20 ∧ Paired (fun x d => Da n H x d) xs ds from by simpa [Da] using h)
      show Da (m + 1) H' v (.lst ds)
      simp only [Da]
      exact ⟨a, xs, h1, s _ _ h2, h3, L2.Paired.mapP h4 fun _ _ z => ih hnm z⟩
    | dct ks ds =>
      obtain ⟨a, us, h1, h2, h3, h4, h5, h6, h7⟩ := (show ∃ a us, v = .ref a ∧ H a = some (.dK (kvOf ks us)) ∧ ks.length ≤ 20 ∧ us.length = ks.length ∧ ks.Nodup ∧ (∀ k ∈ ks, PyData.strOk k = true) ∧ Paired (fun x d => Da n H x d) us ds from by simpa only [Da] using h)
      show Da (m + 1) H' v (.dct ks ds)
      simp only [Da]
      exact ⟨a, us, h1, s _ _ h2, h3, h4, h5, h6, L2.Paired.mapP h7 fun _ _ z => ih hnm z⟩
    | non => simpa [Da] using h
    | bl b => simpa [Da] using h
    | int i => simpa [Da] using h
    | str x => simpa [Da] using h
theorem Tape.more {H : Hp} {d l : Addr} {n m : Nat} (t : Tape H d l n) (h : n ≤ m) : Tape H d l m := by
  obtain ⟨ns, a, f, h1, h2, h3, h4, h5, h6⟩ := t
  exact ⟨ns, a, f, h1, h2, h3, h4, h5, by omega⟩
def leafDs : List D := [.non, .bl false, .bl true, .int 0, .int 1, .int 0, .int 1, .int (-1), .int 2, .int (-2), .int (10 ^ 30), .str "", .str "a", .str "b", .str "ab", .str "it's", .non, .int 1]
def leafVs : List V := [.non, .bl false, .bl true, .int 0, .int 1, .int 0, .int 1, .int (-1), .int 2, .int (-2), .int (10 ^ 30), .str "", .str "a", .str "b", .str "ab", .str "it's", .non, .int 1]
def dOf : V → D
  | .bl b => .bl b
  | .int i => .int i
  | .str x => .str x
  | _ => .non
theorem leaf_mem {v : V} (h : v ∈ leafVs) (H : Hp) (n : Nat) : Da n H v (dOf v) := by
  unfold leafVs at h
  simp only [List.mem_cons, List.not_mem_nil, or_false] at h
  rcases h with rfl | rfl | rfl | rfl | rfl | rfl | rfl | rfl | rfl | rfl | rfl | rfl | rfl | rfl | rfl | rfl | rfl | rfl
  all_goals (cases n <;> simp only [dOf, Da, true_and] <;> decide +kernel)
def spLeaf : Sp := fun vs H Q _ => ∃ (d l : Addr) (n : Nat), vs = [.ref d] ∧ Tape H d l n ∧ n ≤ 1000000 ∧ ∀ H' v, But d H H' → Tape H' d l (n + 1) → v ∈ leafVs → Q v H'
section
variable {P : Program} {w : World} {K : PySem.W.Frag} {mg : Str → Option Value} {base : Heap}
theorem scLf : FnScope ["_law_tape"] ["_law_tape"] (defScope sLeaf) := ⟨rfl, rfl, rfl, by decide +kernel, rfl, by decide +kernel, by decide +kernel⟩
theorem ok_leaf {f fP : Addr} {fd fdP : FuncData} (F : Fun K "_law_leaf" "_law_leaf" sLeaf f fd) (GP : FnOk P w K mg base CX0 2 fP fdP ["_law_tape", "_law_items"] spPick) (mP : mg "_law_pick" = some (.ref fP)) (kP : PySem.W.keepIn K (.ref fP) = true) (bP : Binds K fdP ["_law_tape", "_law_items"] []) :
    FnOk P w K mg base CX0 3 f fd ["_law_tape"] spLeaf := by
  refine F.ok scLf (fun vs H Q E h => ?_) (fun cdv A outer s H vs Q E hr h => ?_)
  · obtain ⟨d, l, n, rfl, _⟩ := h
    rfl
  · obtain ⟨d, l, n, rfl, hT, hn, q⟩ := h
    refine ⟨_, pss_one (ps_ret (pe_call GP hr (by rfl) mP kP bP .nil pass0 (pa_cons (pv 0) (pa_cons (pe_lst (pa_cons pe_non (pa_cons pe_bl (pa_cons pe_bl (pa_cons pe_int (pa_cons pe_int (pa_cons pe_int (pa_cons pe_int
      (pa_cons (pe_un un_neg pe_int) (pa_cons pe_int (pa_cons (pe_un un_neg pe_int) (pa_cons (pe_op op_pow pe_int pe_int) (pa_cons pe_str (pa_cons pe_str (pa_cons pe_str (pa_cons pe_str (pa_cons pe_str (pa_cons pe_non (pa_cons pe_int pa_nil))))))))))))))))))) pa_nil)))), ?_⟩
    refine ⟨_, rfl, _, rfl, _, rfl, _, _, rfl, rfl, ⟨by decide, by decide, by decide⟩, few (by show 18 ≤ 1000; decide), fun p np => ?_⟩
    obtain ⟨hd, hl⟩ : (∃ o, H d = some o) ∧ ∃ o, H l = some o := by
      obtain ⟨ns, a, f, h1, h2, _⟩ := hT
      exact ⟨⟨_, h1⟩, _, h2⟩
    refine ⟨d, l, p, n, leafVs, rfl, hT.same (same_new (fun _ _ z => z) np), hn, upd_same, (by intro z; cases z), (by show 18 < 1000000; decide), fun H' v b t m => q H' v (fun x o n e => b x o n ((same_new (fun _ _ z => z) np) x o e)) t m⟩
end
end Toy


namespace Toy
open PySem L2 PyProof.Rows
abbrev sDatum : Stmt := top 15
theorem paired_mono {H H' : Hp} {n m : Nat} (s : Same H H') (h : n ≤ m) {us : List V} {ds : List D} (p : Paired (fun x d => Da n H x d) us ds) : Paired (fun x d => Da m H' x d) us ds := L2.Paired.mapP p fun _ _ z => z.mono s h
theorem nodup_fst_put {kvs : List (Key × V)} {k : Key} {v : V} (h : k ∉ kvs.map (·.1)) : putK kvs k v = kvs ++ [(k, v)] := by
  unfold putK
  rw [if_neg]
  simpa using h
theorem merge_new : ∀ (more kvs : List (Key × V)), ((kvs ++ more).map (·.1)).Nodup → mergeK kvs more = kvs ++ more
  | [], kvs, _ => by simp [mergeK]
  | p :: more, kvs, h => by
    have e : mergeK kvs (p :: more) = mergeK (putK kvs p.1 p.2) more := by simp [mergeK]
    have hp : p.1 ∉ kvs.map (·.1) := by
      rw [List.map_append, List.nodup_append] at h
      intro z
      exact h.2.2 _ z _ (by simp) rfl
    rw [e, nodup_fst_put hp, merge_new more (kvs ++ [(p.1, p.2)]) (by simpa using h)]
    simp
/-- what is new in H', behind H -/
def newH (H H' : Hp) : Hp := fun b => match H b with
  | none => H' b
  | some _ => none
theorem newH_some {H H' : Hp} {b : Addr} {o : HO} : newH H H' b = some o ↔ H b = none ∧ H' b = some o := by
  unfold newH
  cases h : H b with
  | none => simp
  | some u => simp
/-- what is none in H1 is none in H -/
def Dom (H H1 : Hp) : Prop := ∀ b, H1 b = none → H b = none
theorem new_le {H H1 H2 H3 : Hp} (dom : Dom H H1) (keep : ∀ b o, H1 b = none → H2 b = some o → H3 b = some o) : Same (newH H1 H2) (newH H H3) := fun b o e => by
  obtain ⟨h1, h2⟩ := newH_some.mp e
  exact newH_some.mpr ⟨dom b h1, keep b o h1 h2⟩
theorem Dom.refl {H : Hp} : Dom H H := fun _ z => z
theorem Dom.trans {H H1 H2 : Hp} (a : Dom H H1) (b : Dom H1 H2) : Dom H H2 := fun x z => a x (b x z)
theorem Dom.but {H H1 : Hp} {d l : Addr} {n : Nat} (b : But d H H1) (t : Tape H1 d l n) : Dom H H1 := fun x z => by
  by_cases e : x = d
  · obtain ⟨ns, a, f, h1, _⟩ := t
    rw [e, h1] at z
    cases z
  · cases h : H x with
    | none => rfl
    | some o =>
      rw [b x o e h] at z
      cases z
theorem Dom.same {H H1 : Hp} (s : Same H H1) : Dom H H1 := fun x z => by
  cases h : H x with
  | none => rfl
  | some o =>
    rw [s x o h] at z
    cases z
theorem Dom.upd {H H1 : Hp} {p : Addr} {u : HO} (a : Dom H H1) : Dom H (L2.upd H1 p u) := fun x z => by
  by_cases e : x = p
  · rw [e, upd_same] at z
    cases z
  · rw [upd_ne e] at z
    exact a x z
theorem Tape.at {H : Hp} {d l : Addr} {n : Nat} (t : Tape H d l n) : (∃ o, H d = some o) ∧ ∃ o, H l = some o := by
  obtain ⟨ns, a, f, h1, h2, _⟩ := t
  exact ⟨⟨_, h1⟩, _, h2⟩
theorem Tape.upd {H : Hp} {d l p : Addr} {n : Nat} {u : HO} (t : Tape H d l n) (h1 : d ≠ p) (h2 : l ≠ p) : Tape (L2.upd H p u) d l n := by
  obtain ⟨ns, a, f, e1, e2, e3⟩ := t
  exact ⟨ns, a, f, by rw [upd_ne h1]; exact e1, by rw [upd_ne h2]; exact e2, e3⟩
def spDatum (j : Nat) : Sp := fun vs H Q _ => ∃ (d l p : Addr) (n m : Nat) (ks : List Str), m < j ∧ vs = [.ref d, .ref p, .int m] ∧ Tape H d l n ∧ n + 8 * 4 ^ m ≤ 700000 ∧ H p = some (.lst (ks.map V.str)) ∧ ks.length ≤ 5 ∧ ks.Nodup ∧ (∀ k ∈ ks, PyData.strOk k = true) ∧
  ∀ H' v dt, But d H H' → Tape H' d l (n + 8 * 4 ^ m) → Da m (newH H H') v dt → Q v H'
abbrev ND : List Str := ["_law_tape", "_law_keys_here", "_law_deep", "_law_way", "_law_rows", "_law_k", "_law_key"]
section
variable {P : Program} {w : World} {K : PySem.W.Frag} {mg : Str → Option Value} {base : Heap}
theorem scDt : FnScope ND ["_law_tape", "_law_keys_here", "_law_deep"] (defScope sDatum) := ⟨rfl, rfl, rfl, by decide +kernel, rfl, by decide +kernel, by decide +kernel⟩
theorem ok_datum {f fL fS fD : Addr} {fd fdL fdS fdD : FuncData} (F : Fun K "_law_datum" "_law_datum" sDatum f fd)
    (GD : FnOk P w K mg base CX0 1 fD fdD ["_law_tape", "_law_many"] spDraw) (mD : mg "_law_draw" = some (.ref fD)) (kD : PySem.W.keepIn K (.ref fD) = true) (bD : Binds K fdD ["_law_tape", "_law_many"] [])
    (GS : FnOk P w K mg base CX0 2 fS fdS ["_law_tape", "_law_items"] spShuf) (mS : mg "_law_shuffled" = some (.ref fS)) (kS : PySem.W.keepIn K (.ref fS) = true) (bS : Binds K fdS ["_law_tape", "_law_items"] [])
    (GL : FnOk P w K mg base CX0 3 fL fdL ["_law_tape"] spLeaf) (mL : mg "_law_leaf" = some (.ref fL)) (kL : PySem.W.keepIn K (.ref fL) = true) (bL : Binds K fdL ["_law_tape"] [])
    (mF : mg "_law_datum" = some (.ref f)) (kF : PySem.W.keepIn K (.ref f) = true) (bF : Binds K fd ["_law_tape", "_law_keys_here", "_law_deep"] []) (mRange : mg "range" = none) (mDict : mg "dict" = none) :
    ∀ j : Nat, FnOk P w K mg base CX0 (j + 4) f fd ["_law_tape", "_law_keys_here", "_law_deep"] (spDatum j) := by
  intro j
  induction j with
  | zero => exact F.ok (k := 3) scDt (fun vs H Q E h => by obtain ⟨d, l, p, n, m, ks, h0, _⟩ := h; exact absurd h0 (Nat.not_lt_zero _)) (fun cdv A outer s H vs Q E hr h => by obtain ⟨d, l, p, n, m, ks, h0, _⟩ := h; exact absurd h0 (Nat.not_lt_zero _))
  | succ j ih =>
    refine F.ok (k := j + 4) scDt (fun vs H Q E h => ?_) (fun cdv A outer s H vs Q E hr h => ?_)
    · obtain ⟨d, l, p, n, m, ks, _, rfl, _⟩ := h
      rfl
    · obtain ⟨d, l, p, n, m, ks, hmj, rfl, hT, hn, hp, hl5, hnd, hok, q⟩ := h
      have hr1 : Room 1 _ := hr.mono (show 1 ≤ j + 4 by omega)
      have hr2 : Room 2 _ := hr.mono (show 2 ≤ j + 4 by omega)
      have hr3 : Room 3 _ := hr.mono (show 3 ≤ j + 4 by omega)
      refine ⟨_, pss_cons (ps_set (i := 3) scDt.nd rfl (Or.inl rfl) (pe_ifExp (pt_cmpR op_gt (pv 2) pe_int (nomark _)) (pe_call GD hr1 (by rfl) mD kD bD .nil pass0 (pa_cons (pv 0) (pa_cons pe_int pa_nil))) pe_int))
        (pss_cons (ps_if (pt_cmpR op_lt (pv 3) pe_int (nomark _)) (pss_one (ps_ret (pe_call GL hr3 (by rfl) mL kL bL .nil pass0 (pa_cons (pv 0) pa_nil)))) pss_nil)
        (pss_cons (ps_if (pt_cmpR op_lt (pv 3) pe_int (nomark _)) (pss_one (ps_ret (pe_lc (own := [("_law_k", 5)]) (g := gName 5) (by rfl) scDt.nd (pi_range1 (by rfl) mRange (pa_cons (pe_call GD hr1 (by rfl) mD kD bD .nil pass0 (pa_cons (pv 0) (pa_cons pe_int pa_nil))) pa_nil))
            (blkOk_by (own := [("_law_k", 5)]) (N := ND) (sc := defScope sDatum) (by decide +kernel)) (fun _ _ _ _ _ => pg_name (i := 5) scDt.nd rfl (Or.inl rfl)) (fun _ _ _ _ _ => pts_nil)
            (fun _ _ _ _ _ => pe_call ih hr (by rfl) mF kF bF .nil pass0 (pa_cons (pv 0) (pa_cons (pv 1) (pa_cons (pe_op op_sub (pv 2) pe_int) pa_nil))))))) pss_nil)
        (pss_cons (ps_set (i := 4) scDt.nd rfl (Or.inl rfl) (pe_slice sl_list (pe_call GS hr2 (by rfl) mS kS bS .nil pass0 (pa_cons (pv 0) (pa_cons (pv 1) pa_nil))) po_none (po_some (pe_call GD hr1 (by rfl) mD kD bD .nil pass0 (pa_cons (pv 0) (pa_cons pe_int pa_nil))))))
        (pss_one (ps_ret (pe_callTy (call_dictP rfl) (by rfl) mDict (by decide +kernel) (pa_cons (pe_lc (own := [("_law_key", 6)]) (g := gName 6) (by rfl) scDt.nd (pi_list (pv 4))
            (blkOk_by (own := [("_law_key", 6)]) (N := ND) (sc := defScope sDatum) (by decide +kernel)) (fun _ _ _ _ _ => pg_name (i := 6) scDt.nd rfl (Or.inl rfl)) (fun _ _ _ _ _ => pts_nil)
            (fun _ _ _ _ _ => pe_tup (pa_cons (pv 6) (pa_cons (pe_call ih hr (by rfl) mF kF bF .nil pass0 (pa_cons (pv 0) (pa_cons (pv 1) (pa_cons (pe_op op_sub (pv 2) pe_int) pa_nil)))) pa_nil)))) pa_nil))))))), ?_⟩
      refine ⟨_, rfl, _, _, rfl, rfl, _, rfl, ?_⟩
      have c1 : 1 ≤ 4 ^ m := Nat.pos_of_ne_zero (by simp)
      have npd : p ≠ d := by
        obtain ⟨ns, a, f, hd, _⟩ := hT
        exact ne_of hp hd (by intro z; cases z)
      refine ite2 (fun c => ?_) (fun c => ?_)
      · have c0 : 0 < (m : Int) := of_decide_eq_true c
        obtain ⟨k, rfl⟩ : ∃ k, m = k + 1 := ⟨m - 1, by omega⟩
        have ck : 1 ≤ 4 ^ k := Nat.pos_of_ne_zero (by simp)
        have cm : 4 ^ (k + 1) = 4 * 4 ^ k := by rw [Nat.pow_succ, Nat.mul_comm]
        have em : [V.ref d, V.ref p, V.int (((k + 1 : Nat) : Int) - 1)] = [V.ref d, V.ref p, V.int (k : Int)] := by
          rw [show ((k + 1 : Nat) : Int) - 1 = (k : Int) by omega]
        refine ⟨_, rfl, d, l, n, 6, rfl, hT, by omega, by decide, by decide, fun H1 r b1 t1 r0 r6 => ?_⟩
        refine ⟨_, rfl, _, _, rfl, rfl, _, rfl, ite2 (fun c2 => ?_) (fun c2 => ?_)⟩
        · refine ⟨_, rfl, d, l, n + 1, rfl, t1, by omega, fun H2 v b2 t2 mv => q H2 v (dOf v) (b1.trans b2) (t2.more (by omega)) (leaf_mem mv _ _)⟩
        refine ⟨_, rfl, _, _, rfl, rfl, _, rfl, ite2 (fun c3 => ?_) (fun c3 => ?_)⟩
        · refine ⟨_, rfl, d, l, n + 1, 4, rfl, t1, by omega, by decide, by decide, fun H2 r2 b2 t2 r20 r24 => ?_⟩
          have hp2 : H2 p = some (.lst (ks.map V.str)) := b2 _ _ npd (b1 _ _ npd hp)
          refine ⟨_, rfl, by omega, by omega, fun D nD => ?_⟩
          have ndD : d ≠ D := by
            obtain ⟨_, ho⟩ := t2.at.1
            exact ne_of_none ho nD
          have nlD : l ≠ D := by
            obtain ⟨_, ho⟩ := t2.at.2
            exact ne_of_none ho nD
          have tD : Tape (upd H2 D (.lst [])) d l (n + 2) := t2.upd ndD nlD
          have domD : Dom H (upd H2 D (.lst [])) := Dom.upd ((Dom.but b1 t1).trans (Dom.but b2 t2))
          refine lc_range (lo := 0) (n := r2.toNat) (fun i H' => ∃ acc ds, H' D = some (.lst acc) ∧ acc.length = i ∧ But d H2 H' ∧ Tape H' d l (n + 2 + i * (8 * 4 ^ k)) ∧ Dom (upd H2 D (.lst [])) H' ∧ Paired (fun x z => Da k (newH (upd H2 D (.lst [])) H') x z) acc ds)
            ⟨[], [], upd_same, rfl, Same.but (same_new (fun _ _ z => z) nD) d, tD.more (by omega), Dom.refl, .nil⟩ ?_ ?_
          · rintro i H3 hi ⟨acc, ds, hD3, lacc, b3, t3, dom3, pr⟩
            have hi3 : i ≤ 2 := by omega
            have im : i * (8 * 4 ^ k) ≤ 2 * (8 * 4 ^ k) := Nat.mul_le_mul_right _ hi3
            have hp3 : H3 p = some (.lst (ks.map V.str)) := b3 _ _ npd hp2
            refine ⟨rfl, _, rfl, _, rfl, _, rfl, _, _, rfl, rfl, d, l, p, n + 2 + i * (8 * 4 ^ k), k, ks, by omega, em, t3, by omega, hp3, hl5, hnd, hok, fun H4 v dt b4 t4 q4 => ?_⟩
            have hD4 : H4 D = some (.lst acc) := b4 _ _ ndD.symm hD3
            refine ⟨acc, hD4, small1000 (by omega), acc ++ [v], ds ++ [dt], upd_same, by rw [List.length_append, lacc]; rfl, ?_, ?_, ?_, ?_⟩
            · intro b o hb ho
              rw [upd_ne (ne_of_none ho nD)]
              exact b4 _ _ hb (b3 _ _ hb ho)
            · refine (t4.upd ndD nlD).more ?_
              have : (i + 1) * (8 * 4 ^ k) = i * (8 * 4 ^ k) + 8 * 4 ^ k := Nat.succ_mul _ _
              omega
            · exact Dom.upd (dom3.trans (Dom.but b4 t4))
            · have keepD : ∀ b o, H3 b = none → H4 b = some o → (upd H4 D (.lst (acc ++ [v]))) b = some o := fun b o h1 h2 => by
                rw [upd_ne (fun z => by rw [z, hD3] at h1; cases h1)]
                exact h2
              refine Paired.snoc (paired_mono (new_le Dom.refl fun b o h1 h2 => ?_) (Nat.le_refl _) pr) (q4.mono (new_le dom3 keepD) (Nat.le_refl _))
              have hbD : b ≠ D := fun z => by rw [z, upd_same] at h1; cases h1
              have hbd : b ≠ d := fun z => by
                obtain ⟨_, ho⟩ := tD.at.1
                rw [z, ho] at h1
                cases h1
              rw [upd_ne hbD]
              exact b4 _ _ hbd h2
          · rintro H3 ⟨acc, ds, hD3, lacc, b3, t3, dom3, pr⟩
            have im : r2.toNat * (8 * 4 ^ k) ≤ 3 * (8 * 4 ^ k) := Nat.mul_le_mul_right _ (by omega)
            refine q H3 (.ref D) (.lst ds) ((b1.trans b2).trans b3) (t3.more (by omega)) ?_
            simp only [Da]
            refine ⟨D, acc, rfl, newH_some.mpr ⟨(Dom.but b1 t1) _ ((Dom.but b2 t2) _ nD), hD3⟩, by omega, paired_mono (new_le domD fun b o _ h => h) (Nat.le_refl _) pr⟩
        · refine ⟨_, rfl, _, rfl, d, l, p, n + 1, ks, rfl, t1, by omega, b1 _ _ npd hp, by omega, hok, fun H2 R ys b2 t2 nR0 hR perm => ?_⟩
          have nd2 : ys.Nodup := perm.nodup_iff.mpr hnd
          have ok2 : ∀ z ∈ ys, PyData.strOk z = true := fun z hz => hok z (perm.mem_iff.mp hz)
          have ly : ys.length ≤ 5 := by rw [perm.length_eq]; exact hl5
          have ndR : d ≠ R := by
            obtain ⟨_, ho⟩ := t1.at.1
            exact ne_of_none ho nR0
          refine ⟨_, rfl, d, l, n + 1 + ks.length, 4, rfl, t2, by omega, by decide, by decide, fun H3 r3 b3 t3 r30 r34 => ⟨r3, rfl, R, _, rfl, SqL.of (b3 _ _ ndR.symm hR), fun S nS => ?_⟩⟩
          have ecut : cutV (ys.map V.str) none (some r3) = (ys.take r3.toNat).map V.str := by
            obtain ⟨i, rfl⟩ : ∃ i : Nat, r3 = (i : Int) := ⟨r3.toNat, by omega⟩
            unfold cutV
            rw [show HT.sIx (ys.map V.str).length (ys.map V.str).length (some (i : Int)) = min i (ys.map V.str).length from HT.sIx_nat _ _ i, HT.sIx_none, List.drop_zero, Nat.sub_zero, List.map_take, Int.toNat_natCast]
            by_cases h : i ≤ (ys.map V.str).length
            · rw [Nat.min_eq_left h]
            · rw [Nat.min_eq_right (by omega), List.take_of_length_le (Nat.le_refl _), List.take_of_length_le (by omega)]
          rw [ecut]
          generalize hrk : ys.take r3.toNat = rk
          have lrk : rk.length ≤ 3 := by rw [← hrk, List.length_take]; omega
          have ndrk : rk.Nodup := by rw [← hrk]; exact nd2.sublist (List.take_sublist _ _)
          have okrk : ∀ z ∈ rk, PyData.strOk z = true := by
            rw [← hrk]
            exact fun z hz => ok2 z (List.mem_of_mem_take hz)
          have ndS : d ≠ S := by
            obtain ⟨_, ho⟩ := t3.at.1
            exact ne_of_none ho nS
          have nlS : l ≠ S := by
            obtain ⟨_, ho⟩ := t3.at.2
            exact ne_of_none ho nS
          have npS : p ≠ S := ne_of_none (b3 _ _ npd (b2 _ _ npd (b1 _ _ npd hp))) nS
          have tS : Tape (upd H3 S (.lst (rk.map V.str))) d l (n + 7) := (t3.upd ndS nlS).more (by omega)
          have hpS : (upd H3 S (.lst (rk.map V.str))) p = some (.lst (ks.map V.str)) := (upd_ne npS).trans (b3 _ _ npd (b2 _ _ npd (b1 _ _ npd hp)))
          have domS : Dom H (upd H3 S (.lst (rk.map V.str))) := Dom.upd (((Dom.but b1 t1).trans (Dom.but b2 t2)).trans (Dom.but b3 t3))
          have bS : But d H (upd H3 S (.lst (rk.map V.str))) := fun b o hb ho => by
            have z := b3 _ _ hb (b2 _ _ hb (b1 _ _ hb ho))
            rw [upd_ne (ne_of_none z nS)]
            exact z
          generalize hHS : upd H3 S (.lst (rk.map V.str)) = HS at tS hpS domS bS ⊢
          have hS : HS S = some (.lst (rk.map V.str)) := by rw [← hHS]; exact upd_same
          refine ⟨_, rfl, S, rfl, ⟨_, SqL.of hS⟩, fun D nD => ?_⟩
          have ndD : d ≠ D := by
            obtain ⟨_, ho⟩ := tS.at.1
            exact ne_of_none ho nD
          have nlD : l ≠ D := by
            obtain ⟨_, ho⟩ := tS.at.2
            exact ne_of_none ho nD
          have nSD : S ≠ D := ne_of_none hS nD
          have nSd : S ≠ d := ndS.symm
          have tD : Tape (upd HS D (.lst [])) d l (n + 7) := tS.upd ndD nlD
          have domD : Dom H (upd HS D (.lst [])) := Dom.upd domS
          refine lc_list (K := K) (a := S) (xs := rk.map V.str) (fun i H' => ∃ (ts : List Addr) (us : List V) (ds : List Toy.D), H' D = some (.lst (ts.map V.ref)) ∧ us.length = i ∧ ts.length = i ∧ But d HS H' ∧ Tape H' d l (n + 7 + i * (8 * 4 ^ k)) ∧ Dom (upd HS D (.lst [])) H' ∧ Paired (fun t kv => H' t = some (.tup [kV kv.1, kv.2])) ts (kvOf (rk.take i) us) ∧ Paired (fun x z => Da k (newH (upd HS D (.lst [])) H') x z) us ds)
            ⟨[], [], [], upd_same, rfl, rfl, Same.but (same_new (fun _ _ z => z) nD) d, tD.more (by omega), Dom.refl, by simp [kvOf]; exact .nil, .nil⟩ ?_ ?_ ?_
          · rintro i H' _ ⟨ts, us, ds, _, _, _, b4, _⟩
            exact SqL.of (b4 _ _ nSd hS)
          · rintro i x H4 hx ⟨ts, us, ds, hD4, lus, lts, b4, t4, dom4, pt, pr⟩
            obtain ⟨key, hk1, rfl⟩ : ∃ key, rk[i]? = some key ∧ V.str key = x := by simpa using hx
            have hi : i < rk.length := by
              rcases Nat.lt_or_ge i rk.length with z | z
              · exact z
              · rw [List.getElem?_eq_none z] at hk1
                cases hk1
            have im : i * (8 * 4 ^ k) ≤ 2 * (8 * 4 ^ k) := Nat.mul_le_mul_right _ (by omega)
            refine ⟨rfl, _, rfl, _, rfl, _, rfl, _, rfl, _, _, rfl, rfl, d, l, p, n + 7 + i * (8 * 4 ^ k), k, ks, by omega, em, t4, by omega, b4 _ _ npd hpS, hl5, hnd, hok, fun H5 v dt b5 t5 q5 => ⟨few (by show 2 ≤ 1000; decide), fun T nT => ?_⟩⟩
            have hD5 : H5 D = some (.lst (ts.map V.ref)) := b5 _ _ ndD.symm hD4
            have nDT : D ≠ T := ne_of_none hD5 nT
            have ndT : d ≠ T := by
              obtain ⟨_, ho⟩ := t5.at.1
              exact ne_of_none ho nT
            have nlT : l ≠ T := by
              obtain ⟨_, ho⟩ := t5.at.2
              exact ne_of_none ho nT
            have keep : ∀ b o, b ≠ d → b ≠ D → H4 b = some o → (upd (upd H5 T (.tup [.str key, v])) D (.lst (ts.map V.ref ++ [.ref T]))) b = some o := fun b o h1 h2 h3 => by
              have z := b5 _ _ h1 h3
              rw [upd_ne h2, upd_ne (ne_of_none z nT)]
              exact z
            refine ⟨ts.map V.ref, (upd_ne nDT).trans hD5, small1000 (by rw [List.length_map]; omega), ts ++ [T], us ++ [v], ds ++ [dt], by rw [upd_same, List.map_append]; rfl, by rw [List.length_append, lus]; rfl, by rw [List.length_append, lts]; rfl, ?_, ?_, ?_, ?_, ?_⟩
            · intro b o hb ho
              exact keep b o hb (ne_of_none ho nD) (b4 _ _ hb ho)
            · refine ((t5.upd ndT nlT).upd ndD nlD).more ?_
              have : (i + 1) * (8 * 4 ^ k) = i * (8 * 4 ^ k) + 8 * 4 ^ k := Nat.succ_mul _ _
              omega
            · exact Dom.upd (Dom.upd (dom4.trans (Dom.but b5 t5)))
            · have ek : kvOf (rk.take (i + 1)) (us ++ [v]) = kvOf (rk.take i) us ++ [(Sum.inr key, v)] := by
                unfold kvOf
                rw [List.take_add_one, hk1, Option.toList_some, List.zip_append (by rw [List.length_take, lus]; omega), List.map_append]
                rfl
              rw [ek]
              refine Paired.snoc (L2.Paired.mapP pt fun t kv ht => ?_) ?_
              · refine keep t _ ?_ ?_ ht
                · intro z
                  obtain ⟨ns, a, f, e1, _⟩ := t4
                  rw [z, e1] at ht
                  cases ht
                · intro z
                  rw [z, hD4] at ht
                  cases ht
              · exact (upd_ne nDT.symm).trans upd_same
            · have n1 : ∀ b o, H4 b = none → H5 b = some o → (upd (upd H5 T (.tup [.str key, v])) D (.lst (ts.map V.ref ++ [.ref T]))) b = some o := fun b o h1 h2 => by
                rw [upd_ne (fun z => by rw [z, hD4] at h1; cases h1), upd_ne (ne_of_none h2 nT)]
                exact h2
              refine Paired.snoc (paired_mono (new_le Dom.refl fun b o h1 h2 => ?_) (Nat.le_refl _) pr) (q5.mono (new_le dom4 n1) (Nat.le_refl _))
              refine keep b o ?_ ?_ h2
              · intro z
                obtain ⟨_, ho⟩ := tD.at.1
                rw [z, ho] at h1
                cases h1
              · intro z
                rw [z, upd_same] at h1
                cases h1
          · rintro H4 ⟨ts, us, ds, hD4, lus, lts, b4, t4, dom4, pt, pr⟩
            rw [List.length_map] at lus lts t4 pt
            rw [List.take_length] at pt
            have im : rk.length * (8 * 4 ^ k) ≤ 3 * (8 * 4 ^ k) := Nat.mul_le_mul_right _ lrk
            refine ⟨D, ts, kvOf rk us, rfl, SqL.of hD4, L2.Paired.mapP pt fun t kv ht => SqT.of ht, fun e ne => ?_⟩
            have keys : (kvOf rk us).map (·.1) = rk.map Sum.inr := by
              unfold kvOf
              rw [List.map_map]
              have : ((fun x : Key × V => x.1) ∘ fun p : Str × V => ((Sum.inr p.1 : Key), p.2)) = (fun p : Str × V => (Sum.inr p.1 : Key)) := rfl
              rw [this]
              have z : ((rk.zip us).map Prod.fst).map (Sum.inr : Str → Key) = rk.map Sum.inr := by rw [List.map_fst_zip (by omega)]
              rw [List.map_map] at z
              exact z
            have em2 : mergeK [] (kvOf rk us) = kvOf rk us := by
              refine merge_new _ [] ?_
              rw [List.nil_append, keys]
              exact List.Pairwise.map _ (fun a b h z => h (Sum.inr.inj z)) ndrk
            rw [em2]
            refine q _ (.ref e) (.dct rk ds) (fun b o hb ho => ?_) ((t4.upd ?_ ?_).more (by omega)) ?_
            · have z := b4 _ _ hb (bS _ _ hb ho)
              rw [upd_ne (ne_of_none z ne)]
              exact z
            · obtain ⟨_, ho⟩ := t4.at.1
              exact ne_of_none ho ne
            · obtain ⟨_, ho⟩ := t4.at.2
              exact ne_of_none ho ne
            · simp only [Da]
              refine ⟨e, us, rfl, newH_some.mpr ⟨domD _ (dom4 _ ne), upd_same⟩, by omega, lus, ndrk, okrk, paired_mono (new_le domD fun b o h1 h2 => ?_) (Nat.le_refl _) pr⟩
              rw [upd_ne (ne_of_none h2 ne)]
              exact h2
      · refine ⟨_, rfl, _, _, rfl, rfl, _, rfl, iteT ?_⟩
        refine ⟨_, rfl, d, l, n, rfl, hT, by omega, fun H2 v b2 t2 mv => q H2 v (dOf v) b2 (t2.more (by omega)) (leaf_mem mv _ _)⟩
end
end Toy


/-! tuple < tuple, where only the first items that differ must be comparable -/
namespace PySem.SeqAt
open AutoSeq1 (wpAny_loadPart')
open MeetsSeq MeetsSeq2 MeetsSeq3 SeqRoads2
section
theorem ltTupFirst (p q : Addr) (vs ws : Array Value) (n m : Nat) (dv dw : Option Addr) (av aw : Array (Option Value)) (eq less : Nat → Bool) :
    Meets (Builtin.«tuple.__lt__» ⟨[.ref p, .ref q], []⟩) (fun A R s =>
        s.heap.get? p = some { cls := .type "tuple", dict := dv, data := .seq vs n, slots := av } ∧
        s.heap.get? q = some { cls := .type "tuple", dict := dw, data := .seq ws m, slots := aw } ∧
        (∀ j (a : j < vs.size) (b : j < ws.size), EqAt A.in1 s vs[j] ws[j] (eq j)) ∧
        (∀ j (a : j < vs.size) (b : j < ws.size), (∀ i, i < j → eq i = true) → eq j = false → RcLt A.in1 s vs[j] ws[j] (less j)) ∧
        R (.ok (.ret (.bool (firstLt eq less (decide (vs.size < ws.size)) (List.range (min vs.size ws.size)))))) s) :=
  .of_wp fun prog w A R s asked => by
    obtain ⟨heap, gens, d, tk, os⟩ := s
    obtain ⟨hp, hq, heq, hless, asked⟩ := asked
    have subs := AutoSeq1.sub_tuple_tuple
    have both : (vs.toList.zip ws.toList).length = min vs.size ws.size := by simp
    wp_walk using wpAny_loadPart' hp, wpAny_loadPart' hq, wpAny_forIn_list _ (fun left acc s' => acc.1 = none ∧ s' = ⟨heap, gens, d, tk, os⟩ ∧ ∃ i, left = (vs.toList.zip ws.toList).drop i ∧ (∀ i', i' < i → eq i' = true) ∧
      R (.ok (.ret (.bool (firstLt eq less (decide (vs.size < ws.size)) ((List.range (min vs.size ws.size)).drop i))))) ⟨heap, gens, d, tk, os⟩) _
    case turn =>
      rintro ⟨v, u⟩ left acc s' ⟨hacc, rfl, i, hleft, yes, hR⟩
      have small : i < (vs.toList.zip ws.toList).length := by
        rcases Nat.lt_or_ge i (vs.toList.zip ws.toList).length with z | z
        · exact z
        · rw [List.drop_of_length_le z] at hleft
          cases hleft
      have im : i < min vs.size ws.size := both ▸ small
      have iv : i < vs.size := Nat.lt_of_lt_of_le im (Nat.min_le_left _ _)
      have iw : i < ws.size := Nat.lt_of_lt_of_le im (Nat.min_le_right _ _)
      rw [List.drop_eq_getElem_cons small] at hleft
      injection hleft with hvu hrest
      have ev : v = vs[i] := by have z := congrArg Prod.fst hvu; simpa using z
      have eu : u = ws[i] := by have z := congrArg Prod.snd hvu; simpa using z
      subst ev eu
      have drops : (List.range (min vs.size ws.size)).drop i = i :: (List.range (min vs.size ws.size)).drop (i + 1) := by simp [List.drop_eq_getElem_cons, im]
      rw [drops] at hR
      refine wpAny_bind (heq i iv iw prog w _ _ ?_)
      cases ei : eq i with
      | true =>
        rw [firstLt_yes ei] at hR
        wp_walk
        exact ⟨rfl, rfl, i + 1, hrest, fun i' h => by
          rcases Nat.lt_succ_iff_lt_or_eq.mp h with z | z
          · exact yes i' z
          · rw [z]; exact ei, hR⟩
      | false =>
        rw [firstLt_no ei] at hR
        simp only [Bool.not_false, if_true]
        refine wpAny_bind (wpAny_rule (wpAny_bind (hless i iv iw yes ei prog w _ _ ?_)))
        wp_walk
        exact ⟨_, rfl, hR⟩
    case fin =>
      rintro ⟨acc1, acc2⟩ s' ⟨hacc, rfl, i, hleft, yes, hR⟩
      simp only at hacc
      subst hacc
      have over : min vs.size ws.size ≤ i := by
        rcases Nat.lt_or_ge i (vs.toList.zip ws.toList).length with z | z
        · rw [List.drop_eq_getElem_cons z] at hleft
          cases hleft
        · exact both ▸ z
      rw [List.drop_of_length_le (by simpa using over)] at hR
      wp_walk
      exact ⟨_, rfl, by simpa [Builtin.Tuple.tupleCompareSizes, firstLt] using hR⟩
    case h =>
      exact ⟨rfl, rfl, 0, rfl, fun _ h => absurd h (Nat.not_lt_zero _), by simpa using asked⟩
end
theorem RcLt.tupFirst {A : Around} {s : Shared} {p q : Addr} {vs ws : Array Value} {eq less : Nat → Bool} (hp : s.heap.IsTuple p vs) (hq : s.heap.IsTuple q ws) (hu : A.units < cLine)
    (heq : ∀ j (a : j < vs.size) (b : j < ws.size), EqAt A.in1 s vs[j] ws[j] (eq j))
    (hless : ∀ j (a : j < vs.size) (b : j < ws.size), (∀ i, i < j → eq i = true) → eq j = false → RcLt A.in1 s vs[j] ws[j] (less j)) :
    RcLt A s (.ref p) (.ref q) (firstLt eq less (decide (vs.size < ws.size)) (List.range (min vs.size ws.size))) := fun prog w E Q asked => by
  obtain ⟨⟨c1, d1, data1, sl1⟩, ho1, hc1, n1, hd1⟩ := id hp
  obtain ⟨⟨c2, d2, data2, sl2⟩, ho2, hc2, n2, hd2⟩ := id hq
  simp only at hc1 hd1 hc2 hd2
  subst hc1 hd1 hc2 hd2
  refine richCompare_meets_room (op := .Lt) ⟨_, ho1, rfl⟩ ⟨_, ho2, rfl⟩ F.slot_tuple_lt F.entry_tuple_lt (F.args_tuple_lt_2 _ _) (ltTupFirst p q vs ws n1 n2 d1 d2 sl1 sl2 eq less) ?_ hu
  exact ⟨ho1, ho2, heq, hless, show Value.bool (firstLt eq less (decide (vs.size < ws.size)) (List.range (min vs.size ws.size))) ≠ Value.notImplemented ∧ Q (.bool (firstLt eq less (decide (vs.size < ws.size)) (List.range (min vs.size ws.size)))) s from ⟨(fun x => nomatch x), asked⟩⟩
end PySem.SeqAt


namespace PySem.W
open PySem PySem.SeqAt PyProof.Rows
mutual
/-- both can be compared as far as Python does: up to the first items that differ -/
def lk : PyData → PyData → Bool
  | .int _, .int _ => true
  | .str _, .str _ => true
  | .tuple xs, .tuple ys => lkAll xs ys
  | _, _ => false
def lkAll : List PyData → List PyData → Bool
  | x :: xs, y :: ys => lk x y && (!PyData.eqv x y || lkAll xs ys)
  | [], _ => true
  | _ :: _, [] => true
end
theorem lk_cons {x y : PyData} {xs ys : List PyData} (h : lkAll (x :: xs) (y :: ys) = true) : lk x y = true ∧ (PyData.eqv x y = true → lkAll xs ys = true) := by
  rw [lkAll, Bool.and_eq_true] at h
  refine ⟨h.1, fun e => ?_⟩
  have z := h.2
  rw [e] at z
  simpa using z
mutual
theorem toks_lk : ∀ (x y : PyData), lk x y = true → (PyData.eqv x y = true → keyToks x = keyToks y) ∧ (PyData.eqv x y = false → ∀ l m, PyProof.Rows.lexLt itemOrd (keyToks x ++ l) (keyToks y ++ m) = PyProof.Rows.lexLt itemOrd (keyToks x) (keyToks y))
  | .none, y, h => absurd h (by cases y <;> simp [lk])
  | .bool _, y, h => absurd h (by cases y <;> simp [lk])
  | .list _, y, h => absurd h (by cases y <;> simp [lk])
  | .dict _, y, h => absurd h (by cases y <;> simp [lk])
  | .int a, y, h => by
    cases y with
    | int b => exact toks_eqv (.int a) (.int b) (by simp [alike])
    | _ => exact absurd h (by simp [lk])
  | .str a, y, h => by
    cases y with
    | str b => exact toks_eqv (.str a) (.str b) (by simp [alike])
    | _ => exact absurd h (by simp [lk])
  | .tuple xs, y, h => by
    cases y with
    | tuple ys =>
      have t := toksAll_lk xs ys (by simpa [lk] using h)
      simp only [keyToks, PyData.eqv]
      exact t
    | _ => exact absurd h (by simp [lk])
theorem toksAll_lk : ∀ (xs ys : List PyData), lkAll xs ys = true → (PyData.eqvAll xs ys = true → keyToksAll xs = keyToksAll ys) ∧ (PyData.eqvAll xs ys = false → ∀ l m, PyProof.Rows.lexLt itemOrd (keyToksAll xs ++ l) (keyToksAll ys ++ m) = PyProof.Rows.lexLt itemOrd (keyToksAll xs) (keyToksAll ys))
  | [], ys, _ => toksAll_eqv [] ys (by simp [alikeAll])
  | x :: xs, [], _ => toksAll_eqv (x :: xs) [] (by simp [alikeAll])
  | x :: xs, y :: ys, h => by
    obtain ⟨a1, a2⟩ := toks_lk x y (lk_cons h).1
    rw [eqv_all_cons, toks_all_cons, toks_all_cons]
    cases hx : PyData.eqv x y with
    | true =>
      obtain ⟨b1, b2⟩ := toksAll_lk xs ys ((lk_cons h).2 hx)
      rw [a1 hx, Bool.true_and]
      refine ⟨fun e => by rw [b1 e], fun e l m => ?_⟩
      simp only [List.cons_append, List.append_assoc]
      rw [lex_self, lex_pre, b2 e l m, lex_self, lex_pre]
    | false =>
      rw [Bool.false_and]
      refine ⟨fun e => absurd e Bool.false_ne_true, fun _ l m => ?_⟩
      simp only [List.cons_append, List.append_assoc]
      rw [lex_self, a2 hx, lex_self, a2 hx]
end
theorem lt_all_yes {x y : PyData} {xs ys : List PyData} (h : lk x y = true) (e : PyData.eqv x y = true) : PyProof.Rows.lexLt itemOrd (keyToksAll (x :: xs)) (keyToksAll (y :: ys)) = PyProof.Rows.lexLt itemOrd (keyToksAll xs) (keyToksAll ys) := by
  rw [toks_all_cons, toks_all_cons, (toks_lk x y h).1 e, lex_self, lex_pre]
theorem lt_all_no {x y : PyData} {xs ys : List PyData} (h : lk x y = true) (e : PyData.eqv x y = false) : PyProof.Rows.lexLt itemOrd (keyToksAll (x :: xs)) (keyToksAll (y :: ys)) = dataLt x y := by
  rw [toks_all_cons, toks_all_cons, lex_self, (toks_lk x y h).2 e]
  rfl
theorem first_lk : ∀ (xs ys : List PyData), lkAll xs ys = true →
    firstLt (pairEq xs ys) (fun j => dataLt (xs.getD j .none) (ys.getD j .none)) (decide (xs.length < ys.length)) (List.range (min xs.length ys.length)) = PyProof.Rows.lexLt itemOrd (keyToksAll xs) (keyToksAll ys)
  | [], ys, _ => firstLt_toks [] ys (by simp [alikeAll])
  | x :: xs, [], _ => firstLt_toks (x :: xs) [] (by simp [alikeAll])
  | x :: xs, y :: ys, h => by
    obtain ⟨h1, h2⟩ := lk_cons h
    have lens : min (x :: xs).length (y :: ys).length = min xs.length ys.length + 1 := by
      simp only [List.length_cons]
      omega
    have less : decide ((x :: xs).length < (y :: ys).length) = decide (xs.length < ys.length) := decide_eq_decide.mpr (by simp only [List.length_cons]; omega)
    rw [lens, less, List.range_succ_eq_map]
    cases hx : PyData.eqv x y with
    | true =>
      have ih := first_lk xs ys (h2 hx)
      rw [firstLt_yes (show pairEq (x :: xs) (y :: ys) 0 = true from hx), firstLt_map, lt_all_yes h1 hx, ← ih]
      rfl
    | false =>
      rw [firstLt_no (show pairEq (x :: xs) (y :: ys) 0 = false from hx), lt_all_no h1 hx]
      rfl
mutual
theorem rcLt_lk : ∀ (da db : PyData) (A : Around) (s : Shared) (a b : Value) (as bs : List Addr), Reads s.heap a da as → Reads s.heap b db bs → da.canLay0 = true → db.canLay0 = true → lk da db = true → A.units + min da.depth db.depth < cLine → RcLt A s a b (dataLt da db)
  | .none, db, _, _, _, _, _, _, _, _, _, _, h, _ => absurd h (by cases db <;> simp [lk])
  | .bool _, db, _, _, _, _, _, _, _, _, _, _, h, _ => absurd h (by cases db <;> simp [lk])
  | .list _, db, _, _, _, _, _, _, _, _, _, _, h, _ => absurd h (by cases db <;> simp [lk])
  | .dict _, db, _, _, _, _, _, _, _, _, _, _, h, _ => absurd h (by cases db <;> simp [lk])
  | .int x, db, A, s, a, b, as, bs, ra, rb, _, _, h, hu => by
    cases db with
    | int y => exact rcLt_alike (.int x) (.int y) A s a b as bs ra rb (by simp [alike]) (by simp) hu
    | _ => exact absurd h (by simp [lk])
  | .str x, db, A, s, a, b, as, bs, ra, rb, _, _, h, hu => by
    cases db with
    | str y => exact rcLt_alike (.str x) (.str y) A s a b as bs ra rb (by simp [alike]) (by simp) hu
    | _ => exact absurd h (by simp [lk])
  | .tuple xs, db, A, s, a, b, as, bs, ra, rb, ca, cb, h, hu => by
    cases db with
    | tuple ys =>
      have hal : lkAll xs ys = true := by simpa [lk] using h
      cases ra with
      | @tuple l o vs n _ as₁ h1 h2 h3 h4 =>
        cases rb with
        | @tuple l' o' vs' n' _ bs₁ k1 k2 k3 k4 =>
          have n1 : vs.size = xs.length := by simpa using ReadsAll.length _ _ _ h4
          have n2 : vs'.size = ys.length := by simpa using ReadsAll.length _ _ _ k4
          have ca' : PyData.canLayAll0 xs = true := by simpa [PyData.canLay0] using ca
          have cb' : PyData.canLayAll0 ys = true := by simpa [PyData.canLay0] using cb
          rw [dataLt_tuple, ← first_lk xs ys hal, ← n1, ← n2]
          refine RcLt.tupFirst ⟨_, h1, h2, _, h3⟩ ⟨_, k1, k2, _, k3⟩ (room_here hu) (fun j j1 j2 => ?_) fun j j1 j2 hi hj => ?_
          · have z := eqAt_readsAll xs ys A.in1 s vs.toList vs'.toList _ _ h4 k4 ca' cb' (room_in hu) j (by simpa using j1) (by simpa using j2)
            simpa using z
          · have z := rcLt_lkAll xs ys A.in1 s vs.toList vs'.toList _ _ h4 k4 ca' cb' hal (room_in hu) j (by simpa using j1) (by simpa using j2) hi hj
            simpa using z
    | _ => exact absurd h (by simp [lk])
theorem rcLt_lkAll : ∀ (xs ys : List PyData) (A : Around) (s : Shared) (vs ws : List Value) (as bs : List Addr), ReadsAll s.heap vs xs as → ReadsAll s.heap ws ys bs → PyData.canLayAll0 xs = true → PyData.canLayAll0 ys = true → lkAll xs ys = true →
    A.units + min (PyData.depthAll xs) (PyData.depthAll ys) < cLine → ∀ j (h1 : j < vs.length) (h2 : j < ws.length), (∀ i, i < j → pairEq xs ys i = true) → pairEq xs ys j = false → RcLt A s vs[j] ws[j] (dataLt (xs.getD j .none) (ys.getD j .none))
  | [], _, _, _, _, _, _, _, ra, _, _, _, _, _, j, h1, _, _, _ => by cases ra; exact absurd h1 (Nat.not_lt_zero _)
  | _ :: _, [], _, _, _, _, _, _, _, rb, _, _, _, _, j, _, h2, _, _ => by cases rb; exact absurd h2 (Nat.not_lt_zero _)
  | x :: xs, y :: ys, A, s, _, _, _, _, ra, rb, ca, cb, h, hu, j, h1, h2, hi, hj => by
    rw [PyData.canLayAll0, Bool.and_eq_true] at ca cb
    cases ra with
    | cons r rs =>
      cases rb with
      | cons r' rs' =>
        cases j with
        | zero => exact rcLt_lk x y A s _ _ _ _ r r' ca.1 cb.1 (lk_cons h).1 (room_head hu)
        | succ j =>
          have hx : PyData.eqv x y = true := hi 0 (Nat.succ_pos _)
          exact rcLt_lkAll xs ys A s _ _ _ _ rs rs' ca.2 cb.2 ((lk_cons h).2 hx) (room_tail hu) j (Nat.lt_of_succ_lt_succ h1) (Nat.lt_of_succ_lt_succ h2) (fun i q => hi (i + 1) (Nat.succ_lt_succ q)) hj
end
end PySem.W
namespace L2
open PySem PySem.Spec PyProof.Rows
section
variable {X : Cx}
/-- x < y, tuples of data, comparable up to the first difference -/
def rLtK (K : PySem.W.Frag) : R2 := fun x y H Q => ∃ d e, Dp K H x d ∧ Dp K H y e ∧ SeqAt.shaped d = true ∧ SeqAt.shaped e = true ∧ PySem.W.lk d e = true ∧ Q (.bl (PySem.W.dataLt d e)) H
theorem op_ltK (hu : X.A.units + 64 < cLine) : OpR X (compareOp .Lt) (rLtK X.K) := by
  intro pins s σ H x y v u Q I rx ry h
  obtain ⟨d, e, hd, he, sd, se, lkd, q⟩ := h
  obtain ⟨as, r1⟩ := Dp.reads I d x v hd rx
  obtain ⟨bs, r2⟩ := Dp.reads I e y u he ry
  exact PySem.W.rcLt_lk d e X.A s v u as bs r1 r2 (SeqAt.canLay_of_shaped sd) (SeqAt.canLay_of_shaped se) lkd (SeqAt.room_of_shaped sd hu) _ _ _ _ ⟨.bl _, H, I, rfl, q⟩
end
end L2


namespace PySem.W
open PySem PySem.SeqAt PyProof.Rows
section
variable {prog : Program} {w : World} {A : Around} {s : Shared}
theorem katLex_lk {fin : Bool} {Q : Bool → Shared → Prop} : ∀ (xs ys : List PyData) (i : Nat) (vs ws : List Value) (as bs : List Addr), ReadsAll s.heap vs xs as → ReadsAll s.heap ws ys bs → PyData.canLayAll0 xs = true → PyData.canLayAll0 ys = true → lkAll xs ys = true →
    A.units + min (PyData.depthAll xs) (PyData.depthAll ys) < cLine → fin = decide (xs.length < ys.length) → Q (PyProof.Rows.lexLt itemOrd (keyToksAll xs) (keyToksAll ys)) s → KatLex prog w A false fin Q (vs.zip ws) i s
  | [], ys, i, vs, ws, as, bs, ra, rb, _, _, _, hu, hf, hq => katLex_alike [] ys i vs ws as bs ra rb (by simp [alikeAll]) hu (fun z => by cases z) hf hq
  | x :: xs, [], i, vs, ws, as, bs, ra, rb, _, _, _, hu, hf, hq => katLex_alike (x :: xs) [] i vs ws as bs ra rb (by simp [alikeAll]) hu (fun z => by cases z) hf hq
  | x :: xs, y :: ys, i, _, _, _, _, ra, rb, ca, cb, h, hu, hf, hq => by
    obtain ⟨h1, h2⟩ := lk_cons h
    rw [PyData.canLayAll0, Bool.and_eq_true] at ca cb
    have hf' : fin = decide (xs.length < ys.length) := hf.trans (decide_eq_decide.mpr (by simp only [List.length_cons]; omega))
    cases ra with
    | cons r rs =>
      cases rb with
      | cons r' rs' =>
        rw [List.zip_cons_cons]
        refine kat_cons (eqAt_reads x y A s _ _ _ _ r r' ca.1 cb.1 (room_head hu) prog w _ _ ?_)
        cases hx : PyData.eqv x y with
        | true =>
          rw [lt_all_yes h1 hx] at hq
          exact kat_yes (katLex_lk xs ys (i + 1) _ _ _ _ rs rs' ca.2 cb.2 (h2 hx) (room_tail hu) hf' hq)
        | false =>
          rw [lt_all_no h1 hx] at hq
          refine kat_no ?_
          rw [Bool.false_and]
          exact kat_one _ _ (rcLt_lk x y A s _ _ _ _ r r' ca.1 cb.1 h1 (room_head hu) prog w _ _ hq)
end
end PySem.W
namespace SrtO
open PySem PyProof.Rows Srt PySem.W
theorem swo_data {α : Type} (k : α → PyData) : Swo fun v u => dataLt (k v) (k u) := by
  refine ⟨fun x y h => ?_, fun x y z h1 h2 => ?_⟩
  · rcases bcase (dataLt (k y) (k x)) with q | q
    · have t := lex_trans _ _ _ h q
      rw [lex_irrefl] at t
      cases t
    · exact q
  · rcases bcase (dataLt (k z) (k x)) with q | q
    · rcases lex_negTrans _ (PySem.W.keyToks (k y)) _ q with t | t
      · exact absurd h2 (by show ¬ dataLt (k z) (k y) = false; rw [show dataLt (k z) (k y) = true from t]; simp)
      · exact absurd h1 (by show ¬ dataLt (k y) (k x) = false; rw [show dataLt (k y) (k x) = true from t]; simp)
    · exact q
/-- the value reads as a tuple whose first item is a tuple -/
def Tup2 (h : Heap) (v : Value) (d : PyData) : Prop := (∃ xs ys, d = .tuple (.tuple xs :: ys)) ∧ ∃ as, Reads h v d as
theorem tup2_firsts {h : Heap} {k : Value → PyData} : ∀ {vs : List Value}, (∀ v ∈ vs, Tup2 h v (k v)) → ∃ fs, KatTups h vs fs ∧ fs.length = vs.length ∧ ∀ f ∈ fs, ∃ b o, f = Value.ref b ∧ h.get? b = some o ∧ o.cls = .type "tuple"
  | [], _ => ⟨[], .nil, rfl, fun _ h => nomatch h⟩
  | v :: vs, q => by
    obtain ⟨fs, t1, t2, t3⟩ := tup2_firsts (vs := vs) fun u hu => q u (List.mem_cons_of_mem _ hu)
    obtain ⟨⟨xs, ys, e⟩, as, r⟩ := q v List.mem_cons_self
    rw [e] at r
    cases r with
    | @tuple l o its n _ _ h1 h2 h3 h4 =>
      cases hits : its.toList with
      | nil => rw [hits] at h4; cases h4
      | cons f rest =>
        rw [hits] at h4
        cases h4 with
        | cons r1 r2 =>
          cases r1 with
          | @tuple l' o' its' n' _ _ k1 k2 k3 k4 =>
            refine ⟨.ref l' :: fs, .cons h1 h2 h3 ?_ t1, by rw [List.length_cons, List.length_cons, t2], fun g hg => ?_⟩
            · rw [← Array.getElem?_toList, hits]
              rfl
            · rcases List.mem_cons.mp hg with z | z
              · exact ⟨l', o', z, k1, k2⟩
              · exact t3 g z
section
variable {prog : Program} {w : World} {A : Around} {s : Shared}
theorem data_cmp {vs : List Value} {k : Value → PyData} (hp : ∀ v ∈ vs, Tup2 s.heap v (k v)) (hs : ∀ v ∈ vs, SeqAt.shaped (k v) = true) (hl : ∀ v ∈ vs, ∀ u ∈ vs, lk (k v) (k u) = true) (hu : A.units + 64 < cLine) :
    Cmp prog w A s (tuples' false) (fun p => p.1 ∈ vs) (lt2 fun v u => dataLt (k v) (k u)) := by
  intro p q hm hm'
  have l1 := hl _ hm _ hm'
  have s1 := hs _ hm
  have s2 := hs _ hm'
  obtain ⟨⟨xs, ys, e⟩, as, r⟩ := hp _ hm
  obtain ⟨⟨xs', ys', e'⟩, as', r'⟩ := hp _ hm'
  show wpAny (model prog w) A (keyLt' (tuples' false) p.1 q.1) (fun r s' => s' = s ∧ r = dataLt (k p.1) (k q.1)) (fun _ _ => False) s
  rw [e] at r l1 s1 ⊢
  rw [e'] at r' l1 s2 ⊢
  have rm := SeqAt.room_of_shaped (db := .tuple (.tuple xs' :: ys')) s1 hu
  have c1 : PyData.canLayAll0 (.tuple xs :: ys) = true := by simpa [PyData.canLay0] using SeqAt.canLay_of_shaped s1
  have c2 : PyData.canLayAll0 (.tuple xs' :: ys') = true := by simpa [PyData.canLay0] using SeqAt.canLay_of_shaped s2
  have l2 : lkAll (.tuple xs :: ys) (.tuple xs' :: ys') = true := by simpa [lk] using l1
  generalize p.1 = v at r ⊢
  generalize q.1 = u at r' ⊢
  cases r with
  | @tuple l o its n _ _ h1 h2 h3 h4 =>
    cases r' with
    | @tuple l' o' its' n' _ _ k1 k2 k3 k4 =>
      have n1 : its.size = (PyData.tuple xs :: ys).length := by simpa using SeqAt.ReadsAll.length _ _ _ h4
      have n2 : its'.size = (PyData.tuple xs' :: ys').length := by simpa using SeqAt.ReadsAll.length _ _ _ k4
      refine kat_lt h1 h3 k1 k3 (katLex_lk _ _ 0 _ _ _ _ h4 k4 c1 c2 l2 (by have z := SeqAt.room_in rm; change A.units + 1 + _ < cLine at z; omega) ?_ ⟨rfl, ?_⟩)
      · rw [n1, n2]
      · rw [dataLt_tuple]
theorem data_sortableO {a : Addr} {vs : List Value} {k : Value → PyData} (h0 : 0 < vs.length) (hp : ∀ h' : Heap, (∀ b o, b ≠ a → s.heap.get? b = some o → h'.get? b = some o) → ∀ v ∈ vs, Tup2 h' v (k v)) (hs : ∀ v ∈ vs, SeqAt.shaped (k v) = true) (hl : ∀ v ∈ vs, ∀ u ∈ vs, lk (k v) (k u) = true) (hu : A.units + 64 < cLine) :
    SortableO prog w A s a vs fun v u => dataLt (k v) (k u) := by
  intro h' keep
  obtain ⟨fs, h1, h2, h3⟩ := tup2_firsts (hp h' keep)
  refine ⟨tuples' false, fun Q E hq => ?_, data_cmp (s := { s with heap := h' }) (hp h' keep) hs hl hu⟩
  refine PySem.W.kat_kind (T := .type "tuple") h1 (by omega) (fun f hm => ?_) (by rfl) ?_
  · obtain ⟨b, o, rfl, ho, hc⟩ := h3 f hm
    rw [← hc]
    exact (PySem.W.Looks.ld ho).andThen .now
  · have e : (Value.type "tuple" != Value.type "tuple") = false := by first | decide +kernel | rfl | decide
    rw [e]
    exact hq
end
end SrtO
namespace L2
open PySem PySem.Spec PyProof.Rows
/-- sorted(xs), xs a list of tuples whose first items are tuples (k says of which data) -/
def rSortK (K : PySem.W.Frag) : List V → Hp → VK → Prop := fun vs H Q => ∃ (a : Addr) (xs : List V) (k : V → PyData), vs = [V.ref a] ∧ SqL K H a xs ∧ (∀ x ∈ xs, (∃ t, x = V.ref t) ∧ Dp K H x (k x) ∧ SeqAt.shaped (k x) = true ∧ ∃ r rest, k x = .tuple (.tuple r :: rest)) ∧
  (∀ x ∈ xs, ∀ y ∈ xs, PySem.W.lk (k x) (k y) = true) ∧ ∀ ys p, SrtO.Srtd (fun x y => PySem.W.dataLt (k x) (k y)) ys → ys.Perm xs → H p = none → Q (.ref p) (upd H p (.lst ys))
section
variable {X : Cx}
theorem cr_sortedK (hu : X.A.units + 80 < cLine) : CallR X (.builtin "sorted") (rSortK X.K) := by
  intro pins s σ H vs us Q I r h
  obtain ⟨a, xs, k, rfl, hs, hx, hlk, q⟩ := h
  obtain ⟨its, rv, hl, hz⟩ := I.list hs
  obtain ⟨u, rfl, ru⟩ := vals1 r
  obtain rfl : u = Value.ref a := ru
  obtain ⟨e1, e2⟩ := refs_back rv fun x m => (hx x m).1
  have mem : ∀ v ∈ its, backV v ∈ xs := fun v hv => by rw [e1]; exact List.mem_map.mpr ⟨v, hv, rfl⟩
  refine SrtO.sorted_ord (SrtO.swo_data fun v => k (backV v)) hl.isList (by rw [← rv.length]; exact hz) (fun h2 h₁ b hb kk => ?_) fun out hsd hb => ?_
  · refine SrtO.data_sortableO (s := { s with heap := h₁ }) (k := fun v => k (backV v)) (by omega) (fun h' keep v hv => ?_) (fun v hv => (hx _ (mem v hv)).2.2.1) (fun v hv u hu => hlk _ (mem v hv) _ (mem u hu)) ?_
    · obtain ⟨t, rfl⟩ := e2 v hv
      obtain ⟨_, hd, _, ht⟩ := hx _ (mem _ hv)
      obtain ⟨as, rd⟩ := Dp.reads I _ _ (Value.ref t) hd rfl
      exact ⟨ht, as, PyProof.Rows.Reads.keeps (fun b' o' e => keep b' o' (kk b' o' e).1 (kk b' o' e).2) rd⟩
    · show X.A.units + 1 + 1 + 64 < cLine
      omega
  · have h3 : ∀ u ∈ out, ∃ a, u = Value.ref a := fun u hu => e2 u (hb.perm.mem_iff.mp hu)
    obtain ⟨n, hn⟩ := PyProof.Rows.sortedAll_at s.heap its out.toArray
    have hp : (out.map backV).Perm xs := by
      rw [e1]
      exact hb.perm.map backV
    refine ⟨.ref _, upd H (s.heap.objs.size + 1) (.lst (out.map backV)), I.laid (t' := s.toks) (fun _ _ => PyProof.Rows.sortedAll_old) (Nat.le_succ _) ⟨?_, out, n, vals_back h3, hn⟩, rfl, q _ _ (SrtO.srtd_map hsd) hp (I.hok.fresh (Nat.le_succ _))⟩
    rw [hp.length_eq]
    exact hz
end
end L2


namespace Toy
open PySem PySem.Spec L2 PyProof.Rows PySem.W
/-! ### the order of data: the program's key and the law's rank say one thing -/
def leS (a b : Str) : Bool := !ltCps b.cps.toList a.cps.toList
def skeys (ks : List Str) : List Str := ks.mergeSort leS
def look : List Str → List D → Str → D
  | k :: ks, d :: ds, x => if k = x then d else look ks ds x
  | _, _, _ => .non
def inner : D → List D
  | .lst ds => ds
  | .dct ks ds => (skeys ks).map (look ks ds)
  | _ => []
def cnt : Nat → D → Int
  | 0, _ => 1
  | n + 1, d => 1 + ((inner d).map (cnt n)).sum
def place : D → Int
  | .non => 0
  | .bl false => 1
  | .bl true => 2
  | .int _ => 3
  | .str _ => 4
  | .lst _ => 5
  | .dct _ _ => 6
def pairsP (ks : List Str) (xs : List PyData) : List PyData := List.zipWith (fun k x => PyData.tuple [.str k, x]) ks xs
/-- the parts, one level lower -/
def low (f : D → PyData) (g : Nat → D → PyData) : Nat → List D → List PyData
  | 0, _ => []
  | n + 1, ds => ds.map (g n)
def keyT (inn : List PyData) (c : Int) : D → PyData
  | .int i => .tuple [.int 1, .int 3, .int (if i > 0 then 2 * i - 1 else -2 * i)]
  | .str x => .tuple [.int 1, .int 4, .int x.length, .str x]
  | .dct ks ds => .tuple [.int c, .int 6, .tuple (pairsP (skeys ks) inn)]
  | d => .tuple [.int c, .int (place d), .tuple inn]
def key : Nat → D → PyData
  | 0, d => keyT [] 1 d
  | n + 1, d => keyT ((inner d).map (key n)) (cnt (n + 1) d) d
def rankT (inn : List PyData) (c : Int) : D → PyData
  | .int i => .tuple [.int 1, .int 3, .int (if i < 0 then -i else i), .int (if i < 0 then 1 else 0)]
  | .str x => .tuple [.int 1, .int 4, .int x.length, .str x]
  | .lst ds => .tuple [.int c, .int 5, .tuple inn]
  | .dct ks ds => .tuple [.int c, .int 6, .tuple (pairsP (skeys ks) inn)]
  | d => .tuple [.int 1, .int (place d)]
def rank : Nat → D → PyData
  | 0, d => rankT [] 1 d
  | n + 1, d => rankT ((inner d).map (rank n)) (cnt (n + 1) d) d
/-! two pairs that compare alike -/
def S2 (x y x' y' : PyData) : Prop := lk x y = true ∧ lk x' y' = true ∧ PyData.eqv x y = PyData.eqv x' y' ∧ dataLt x y = dataLt x' y'
def S2L (xs ys xs' ys' : List PyData) : Prop := lkAll xs ys = true ∧ lkAll xs' ys' = true ∧ PyData.eqvAll xs ys = PyData.eqvAll xs' ys' ∧ rowLt xs ys = rowLt xs' ys'
theorem row_cons {x y : PyData} {xs ys : List PyData} (h : lk x y = true) : rowLt (x :: xs) (y :: ys) = if PyData.eqv x y = true then rowLt xs ys else dataLt x y := by
  unfold rowLt
  cases e : PyData.eqv x y with
  | true => rw [if_pos rfl, lt_all_yes h e]
  | false => rw [if_neg Bool.false_ne_true, lt_all_no h e]
theorem S2L.cons {x y x' y' : PyData} {xs ys xs' ys' : List PyData} (h : S2 x y x' y') (t : PyData.eqv x y = true → S2L xs ys xs' ys') : S2L (x :: xs) (y :: ys) (x' :: xs') (y' :: ys') := by
  obtain ⟨h1, h2, h3, h4⟩ := h
  unfold S2L
  rw [row_cons h1, row_cons h2, eqv_all_cons, eqv_all_cons, lkAll, lkAll, h1, h2, ← h3, h4]
  cases e : PyData.eqv x y with
  | false => simp
  | true =>
    obtain ⟨t1, t2, t3, t4⟩ := t e
    rw [t1, t2, t3, t4]
    simp
theorem S2L.nil : S2L [] [] [] [] := by
  refine ⟨by simp [lkAll], by simp [lkAll], rfl, rfl⟩
theorem S2L.short {y y' : PyData} {ys ys' : List PyData} : S2L [] (y :: ys) [] (y' :: ys') := by
  refine ⟨by simp [lkAll], by simp [lkAll], by simp [PyData.eqvAll], ?_⟩
  unfold rowLt
  rw [toks_all_cons, toks_all_cons]
  simp only [keyToksAll]
  rw [lex_diff (O := itemOrd) (by simp), lex_diff (O := itemOrd) (by simp)]
theorem S2L.long {y y' : PyData} {ys ys' : List PyData} : S2L (y :: ys) [] (y' :: ys') [] := by
  refine ⟨by simp [lkAll], by simp [lkAll], by simp [PyData.eqvAll], ?_⟩
  unfold rowLt
  rw [toks_all_cons, toks_all_cons]
  simp only [keyToksAll]
  rw [lex_diff (O := itemOrd) (by simp), lex_diff (O := itemOrd) (by simp)]
theorem S2.tup {xs ys xs' ys' : List PyData} (h : S2L xs ys xs' ys') : S2 (.tuple xs) (.tuple ys) (.tuple xs') (.tuple ys') := by
  obtain ⟨h1, h2, h3, h4⟩ := h
  refine ⟨by simpa [lk] using h1, by simpa [lk] using h2, by simpa [PyData.eqv] using h3, ?_⟩
  rw [dataLt_tuple, dataLt_tuple]
  exact h4
theorem S2.int (i j : Int) : S2 (.int i) (.int j) (.int i) (.int j) := ⟨by simp [lk], by simp [lk], rfl, rfl⟩
theorem S2.str (x y : Str) : S2 (.str x) (.str y) (.str x) (.str y) := ⟨by simp [lk], by simp [lk], rfl, rfl⟩
theorem S2L.same {xs ys : List PyData} (h : lkAll xs ys = true) : S2L xs ys xs ys := ⟨h, h, rfl, rfl⟩
theorem S2L.maps {f g : D → PyData} (h : ∀ a b, S2 (f a) (f b) (g a) (g b)) : ∀ as bs : List D, S2L (as.map f) (bs.map f) (as.map g) (bs.map g)
  | [], [] => S2L.nil
  | [], _ :: _ => S2L.short
  | _ :: _, [] => S2L.long
  | a :: as, b :: bs => S2L.cons (h a b) fun _ => S2L.maps h as bs
theorem S2L.pairs {f g : D → PyData} (h : ∀ a b, S2 (f a) (f b) (g a) (g b)) : ∀ (ks ls : List Str) (as bs : List D), S2L (pairsP ks (as.map f)) (pairsP ls (bs.map f)) (pairsP ks (as.map g)) (pairsP ls (bs.map g))
  | [], [], _, _ => S2L.nil
  | k :: ks, ls, [], bs => by
    cases ls with
    | nil => exact S2L.nil
    | cons l ls =>
      cases bs with
      | nil => exact S2L.nil
      | cons b bs => exact S2L.short
  | [], l :: ls, as, bs => by
    cases bs with
    | nil => exact S2L.nil
    | cons b bs => exact S2L.short
  | k :: ks, [], a :: as, bs => S2L.long
  | k :: ks, l :: ls, a :: as, [] => S2L.long
  | k :: ks, l :: ls, a :: as, b :: bs => S2L.cons (S2.tup (S2L.cons (S2.str k l) fun _ => S2L.cons (h a b) fun _ => S2L.nil)) fun _ => S2L.pairs h ks ls as bs
theorem eqv_int (i j : Int) : PyData.eqv (.int i) (.int j) = decide (i = j) := by
  simp only [PyData.eqv]
  by_cases h : i = j <;> simp [h]
theorem int_tail (i j : Int) : S2L [.int (if i > 0 then 2 * i - 1 else -2 * i)] [.int (if j > 0 then 2 * j - 1 else -2 * j)] [.int (if i < 0 then -i else i), .int (if i < 0 then 1 else 0)] [.int (if j < 0 then -j else j), .int (if j < 0 then 1 else 0)] := by
  have key : ∀ a b c d e f : Int, (decide (a = b) = (decide (c = d) && decide (e = f))) → (decide (a < b) = if c = d then decide (e < f) else decide (c < d)) → S2L [.int a] [.int b] [.int c, .int e] [.int d, .int f] := by
    intro a b c d e f h1 h2
    refine ⟨by simp [lkAll, lk], by simp [lkAll, lk], ?_, ?_⟩
    · rw [eqv_all_cons, eqv_all_cons, eqv_all_cons, eqv_int, eqv_int, eqv_int, h1]
      simp [PyData.eqvAll]
    · rw [row_cons (by simp [lk]), row_cons (by simp [lk]), row_cons (by simp [lk]), eqv_int, eqv_int, eqv_int, dataLt_int, dataLt_int, dataLt_int]
      have z : rowLt [] [] = false := lex_irrefl _
      rw [z]
      by_cases hab : a = b
      · have h1' := h1
        rw [decide_eq_true hab] at h1'
        have : c = d ∧ e = f := by simpa using h1'.symm
        simp [hab, this.1, this.2]
      · by_cases hcd : c = d
        · rw [if_pos hcd] at h2
          by_cases hef : e = f
          · rw [decide_eq_false hab, decide_eq_true hcd, decide_eq_true hef] at h1
            cases h1
          · simp [hab, hcd, hef, h2]
        · rw [if_neg hcd] at h2
          simp [hab, hcd, h2]
  apply key
  · by_cases h1 : i > 0 <;> by_cases h2 : j > 0 <;> by_cases h3 : i < 0 <;> by_cases h4 : j < 0 <;> simp only [h1, h2, h3, h4, if_true, if_false, decide_true, decide_false, Bool.and_true, Bool.and_false, reduceIte] <;> first | omega | (apply Bool.eq_iff_iff.mpr; simp; omega)
  · by_cases h1 : i > 0 <;> by_cases h2 : j > 0 <;> by_cases h3 : i < 0 <;> by_cases h4 : j < 0 <;> simp only [h1, h2, h3, h4, if_true, if_false] <;> first | omega | (split <;> apply Bool.eq_iff_iff.mpr <;> simp <;> omega)
end Toy


namespace Toy
open PySem PySem.Spec L2 PyProof.Rows PySem.W
def innP (f : Nat → D → PyData) : Nat → D → List PyData
  | 0, _ => []
  | n + 1, d => (inner d).map (f n)
def keyTail (n : Nat) : D → List PyData
  | .int i => [.int (if i > 0 then 2 * i - 1 else -2 * i)]
  | .str x => [.int x.length, .str x]
  | .dct ks ds => [.tuple (pairsP (skeys ks) (innP key n (.dct ks ds)))]
  | d => [.tuple (innP key n d)]
def rankTail (n : Nat) : D → List PyData
  | .int i => [.int (if i < 0 then -i else i), .int (if i < 0 then 1 else 0)]
  | .str x => [.int x.length, .str x]
  | .lst ds => [.tuple (innP rank n (.lst ds))]
  | .dct ks ds => [.tuple (pairsP (skeys ks) (innP rank n (.dct ks ds)))]
  | _ => []
theorem cnt_leaf {n : Nat} {d : D} (h : inner d = []) : cnt n d = 1 := by
  cases n with
  | zero => rfl
  | succ n => rw [cnt, h]; rfl
theorem key_form (n : Nat) (d : D) : key n d = .tuple (.int (cnt n d) :: .int (place d) :: keyTail n d) := by
  cases d with
  | int i => rw [cnt_leaf rfl]; cases n <;> rfl
  | str x => rw [cnt_leaf rfl]; cases n <;> rfl
  | non => rw [cnt_leaf rfl]; cases n <;> rfl
  | bl b => rw [cnt_leaf rfl]; cases n <;> cases b <;> rfl
  | lst ds => cases n <;> rfl
  | dct ks ds => cases n <;> rfl
theorem rank_form (n : Nat) (d : D) : rank n d = .tuple (.int (cnt n d) :: .int (place d) :: rankTail n d) := by
  cases d with
  | int i => rw [cnt_leaf rfl]; cases n <;> rfl
  | str x => rw [cnt_leaf rfl]; cases n <;> rfl
  | non => rw [cnt_leaf rfl]; cases n <;> rfl
  | bl b => rw [cnt_leaf rfl]; cases n <;> cases b <;> rfl
  | lst ds => cases n <;> rfl
  | dct ks ds => cases n <;> rfl
theorem place_bl (b : Bool) : place (.bl b) = if b = true then 2 else 1 := by cases b <;> rfl
theorem tails {n : Nat} (ih : ∀ a b, S2L (innP key n a) (innP key n b) (innP rank n a) (innP rank n b)) (ihp : ∀ (ks ls : List Str) a b, S2L (pairsP ks (innP key n a)) (pairsP ls (innP key n b)) (pairsP ks (innP rank n a)) (pairsP ls (innP rank n b))) (a b : D) (h : place a = place b) :
    S2L (keyTail n a) (keyTail n b) (rankTail n a) (rankTail n b) := by
  have em : ∀ d, inner d = [] → innP key n d = [] := fun d e => by cases n with
    | zero => rfl
    | succ n => rw [innP, e]; rfl
  have one : S2L [.tuple []] [.tuple []] [] [] := by
    refine ⟨by simp [lkAll, lk], by simp [lkAll], by simp [PyData.eqvAll, PyData.eqv], ?_⟩
    rw [row_cons (by simp [lk, lkAll])]
    simp [PyData.eqv, PyData.eqvAll]
  cases a with
  | non =>
    cases b with
    | non => simp only [keyTail, rankTail]; rw [em _ rfl]; exact one
    | bl b => rw [place_bl] at h; cases b <;> simp [place] at h
    | _ => simp [place] at h
  | bl c =>
    cases b with
    | bl d => simp only [keyTail, rankTail]; rw [em _ rfl, em _ rfl]; exact one
    | non => rw [place_bl] at h; cases c <;> simp [place] at h
    | int j => rw [place_bl] at h; cases c <;> simp [place] at h
    | str j => rw [place_bl] at h; cases c <;> simp [place] at h
    | lst j => rw [place_bl] at h; cases c <;> simp [place] at h
    | dct j k => rw [place_bl] at h; cases c <;> simp [place] at h
  | int i =>
    cases b with
    | int j => exact int_tail i j
    | bl b => rw [place_bl] at h; cases b <;> simp [place] at h
    | _ => simp [place] at h
  | str x =>
    cases b with
    | str y => exact S2L.cons (S2.int _ _) fun _ => S2L.cons (S2.str _ _) fun _ => S2L.nil
    | bl b => rw [place_bl] at h; cases b <;> simp [place] at h
    | _ => simp [place] at h
  | lst ds =>
    cases b with
    | lst es => exact S2L.cons (S2.tup (ih _ _)) fun _ => S2L.nil
    | bl b => rw [place_bl] at h; cases b <;> simp [place] at h
    | _ => simp [place] at h
  | dct ks ds =>
    cases b with
    | dct ls es => exact S2L.cons (S2.tup (ihp _ _ _ _)) fun _ => S2L.nil
    | bl b => rw [place_bl] at h; cases b <;> simp [place] at h
    | _ => simp [place] at h
theorem same_order : ∀ (n : Nat) (a b : D), S2 (key n a) (key n b) (rank n a) (rank n b)
  | 0, a, b => by
    rw [key_form, key_form, rank_form, rank_form]
    refine S2.tup (S2L.cons (S2.int _ _) fun _ => S2L.cons (S2.int _ _) fun e => tails (n := 0) (fun _ _ => S2L.nil) (fun ks ls a b => ?_) a b ?_)
    · simp only [innP, pairsP, List.zipWith_nil_right]
      exact S2L.nil
    · rw [eqv_int] at e
      exact of_decide_eq_true e
  | n + 1, a, b => by
    rw [key_form, key_form, rank_form, rank_form]
    refine S2.tup (S2L.cons (S2.int _ _) fun _ => S2L.cons (S2.int _ _) fun e => tails (n := n + 1) (fun a b => S2L.maps (same_order n) _ _) (fun ks ls a b => S2L.pairs (same_order n) _ _ _ _) a b ?_)
    rw [eqv_int] at e
    exact of_decide_eq_true e
/-! which data are alike -/
def alk (n : Nat) (a b : D) : Bool := PyData.eqv (rank n a) (rank n b)
theorem alk_form (n : Nat) (a b : D) : alk n a b = (decide (cnt n a = cnt n b) && (decide (place a = place b) && PyData.eqvAll (rankTail n a) (rankTail n b))) := by
  unfold alk
  rw [rank_form, rank_form]
  simp only [PyData.eqv]
  rw [eqv_all_cons, eqv_all_cons, eqv_int, eqv_int]
theorem alk_cnt {n : Nat} {a b : D} (h : alk n a b = true) : cnt n a = cnt n b ∧ place a = place b := by
  rw [alk_form, Bool.and_eq_true, Bool.and_eq_true] at h
  exact ⟨of_decide_eq_true h.1, of_decide_eq_true h.2.1⟩
theorem alk_other {n : Nat} {a b : D} (h : place a ≠ place b) : alk n a b = false := by
  rw [alk_form, decide_eq_false h]
  simp
theorem eqv_maps (n : Nat) : ∀ as bs : List D, PyData.eqvAll (as.map (rank n)) (bs.map (rank n)) = (decide (as.length = bs.length) && (List.zipWith (alk n) as bs).all id)
  | [], [] => by simp [PyData.eqvAll]
  | [], _ :: _ => by simp [PyData.eqvAll]
  | _ :: _, [] => by simp [PyData.eqvAll]
  | a :: as, b :: bs => by
    rw [List.map_cons, List.map_cons, eqv_all_cons, eqv_maps n as bs]
    show (alk n a b && _) = _
    simp only [List.length_cons, List.zipWith_cons_cons, List.all_cons, id]
    rw [show decide (as.length + 1 = bs.length + 1) = decide (as.length = bs.length) from decide_eq_decide.mpr (by omega)]
    cases alk n a b <;> simp
theorem zip_cnt (n : Nat) : ∀ as bs : List D, as.length = bs.length → (List.zipWith (alk n) as bs).all id = true → (as.map (cnt n)).sum = (bs.map (cnt n)).sum
  | [], [], _, _ => rfl
  | [], _ :: _, h, _ => absurd h (by simp)
  | _ :: _, [], h, _ => absurd h (by simp)
  | a :: as, b :: bs, h, q => by
    simp only [List.zipWith_cons_cons, List.all_cons, id, Bool.and_eq_true] at q
    simp only [List.map_cons, List.sum_cons]
    rw [(alk_cnt q.1).1, zip_cnt n as bs (by simpa using h) q.2]
theorem alk_lst (n : Nat) (ds es : List D) : alk (n + 1) (.lst ds) (.lst es) = (decide (ds.length = es.length) && (List.zipWith (alk n) ds es).all id) := by
  rw [alk_form]
  show (_ && (decide (place (.lst ds) = place (.lst es)) && PyData.eqvAll [.tuple (ds.map (rank n))] [.tuple (es.map (rank n))])) = _
  rw [decide_eq_true (show place (.lst ds) = place (.lst es) from rfl), Bool.true_and, eqv_all_cons]
  have e0 : PyData.eqvAll [] [] = true := rfl
  rw [e0, Bool.and_true]
  have e1 : PyData.eqv (.tuple (ds.map (rank n))) (.tuple (es.map (rank n))) = PyData.eqvAll (ds.map (rank n)) (es.map (rank n)) := rfl
  rw [e1, eqv_maps]
  by_cases h : ds.length = es.length
  · rw [decide_eq_true h, Bool.true_and]
    cases q : (List.zipWith (alk n) ds es).all id with
    | false => simp
    | true =>
      have z : cnt (n + 1) (.lst ds) = cnt (n + 1) (.lst es) := by
        show 1 + ((ds.map (cnt n)).sum) = 1 + ((es.map (cnt n)).sum)
        rw [zip_cnt n ds es h q]
      simp [z]
  · rw [decide_eq_false h]
    simp
theorem eqv_pairs (n : Nat) : ∀ (ks ls : List Str) (as bs : List D), ks.length = as.length → ls.length = bs.length → PyData.eqvAll (pairsP ks (as.map (rank n))) (pairsP ls (bs.map (rank n))) = (decide (ks = ls) && (List.zipWith (alk n) as bs).all id)
  | [], [], [], [], _, _ => by simp [PyData.eqvAll, pairsP]
  | [], l :: ls, [], b :: bs, _, _ => by simp [PyData.eqvAll, pairsP]
  | k :: ks, [], a :: as, [], _, _ => by simp [PyData.eqvAll, pairsP]
  | k :: ks, l :: ls, a :: as, b :: bs, h1, h2 => by
    have ih := eqv_pairs n ks ls as bs (by simpa using h1) (by simpa using h2)
    have e : PyData.eqvAll (pairsP (k :: ks) ((a :: as).map (rank n))) (pairsP (l :: ls) ((b :: bs).map (rank n))) = ((decide (k = l) && (alk n a b && true)) && PyData.eqvAll (pairsP ks (as.map (rank n))) (pairsP ls (bs.map (rank n)))) := by
      show PyData.eqvAll (.tuple [.str k, rank n a] :: pairsP ks (as.map (rank n))) (.tuple [.str l, rank n b] :: pairsP ls (bs.map (rank n))) = _
      rw [eqv_all_cons]
      congr 1
    rw [e, ih]
    by_cases h : k = l
    · by_cases h' : ks = ls
      · simp [h, h']
      · simp [h, h']
    · simp [h]
  | [], _, _ :: _, _, h, _ => absurd h (by simp)
  | _ :: _, _, [], _, h, _ => absurd h (by simp)
  | _, [], _, _ :: _, _, h => absurd h (by simp)
  | _, _ :: _, _, [], _, h => absurd h (by simp)
theorem alk_dct (n : Nat) (ks ls : List Str) (ds es : List D) : alk (n + 1) (.dct ks ds) (.dct ls es) = (decide (skeys ks = skeys ls) && (List.zipWith (alk n) (inner (.dct ks ds)) (inner (.dct ls es))).all id) := by
  rw [alk_form]
  show (_ && (decide (place (.dct ks ds) = place (.dct ls es)) && PyData.eqvAll [.tuple (pairsP (skeys ks) ((inner (.dct ks ds)).map (rank n)))] [.tuple (pairsP (skeys ls) ((inner (.dct ls es)).map (rank n)))])) = _
  rw [decide_eq_true (show place (.dct ks ds) = place (.dct ls es) from rfl), Bool.true_and, eqv_all_cons]
  have e0 : PyData.eqvAll [] [] = true := rfl
  rw [e0, Bool.and_true]
  have e1 : PyData.eqv (.tuple (pairsP (skeys ks) ((inner (.dct ks ds)).map (rank n)))) (.tuple (pairsP (skeys ls) ((inner (.dct ls es)).map (rank n)))) = PyData.eqvAll (pairsP (skeys ks) ((inner (.dct ks ds)).map (rank n))) (pairsP (skeys ls) ((inner (.dct ls es)).map (rank n))) := rfl
  have l1 : (skeys ks).length = (inner (.dct ks ds)).length := by simp [inner]
  have l2 : (skeys ls).length = (inner (.dct ls es)).length := by simp [inner]
  rw [e1, eqv_pairs n _ _ _ _ l1 l2]
  by_cases h : skeys ks = skeys ls
  · rw [decide_eq_true h, Bool.true_and]
    cases q : (List.zipWith (alk n) (inner (.dct ks ds)) (inner (.dct ls es))).all id with
    | false => simp
    | true =>
      have z : cnt (n + 1) (.dct ks ds) = cnt (n + 1) (.dct ls es) := by
        show 1 + (((inner (.dct ks ds)).map (cnt n)).sum) = 1 + (((inner (.dct ls es)).map (cnt n)).sum)
        rw [zip_cnt n _ _ (by rw [← l1, ← l2, h]) q]
      simp [z]
  · rw [decide_eq_false h]
    simp
theorem less_cnt {n : Nat} {a b : D} (h : cnt n a < cnt n b) : dataLt (key n a) (key n b) = true := by
  rw [key_form, key_form, dataLt_tuple]
  show rowLt _ _ = true
  rw [row_cons (by simp [lk]), eqv_int, decide_eq_false (by omega), if_neg Bool.false_ne_true, dataLt_int]
  exact decide_eq_true h
end Toy


namespace Toy
open PySem PySem.Spec L2 PyProof.Rows PySem.W
abbrev sSort : Stmt := top 2
abbrev sSteps : Stmt := top 3
abbrev sInner : Stmt := top 4
abbrev sParts : Stmt := top 5
abbrev sAlike : Stmt := top 6
/-! ### the one sorted row of the keys -/
theorem cNeg {a b c : List Nat} (h : ltCps a c = true) : ltCps a b = true ∨ ltCps b c = true := by
  rw [PyProof.Rows.ltCps_eq] at h ⊢
  rw [PyProof.Rows.ltCps_eq]
  exact PyProof.Rows.strKind.negTrans a b c h
theorem cTot {a b : List Nat} (h : ltCps a b = false) (h' : ltCps b a = false) : a = b := by
  rw [PyProof.Rows.ltCps_eq] at h h'
  exact PyProof.Rows.strKind.total a b h h'
theorem cAsy {a b : List Nat} (h : ltCps a b = true) (h' : ltCps b a = true) : False := by
  rw [PyProof.Rows.ltCps_eq] at h h'
  have z := PyProof.Rows.strKind.trans a b a h h'
  rw [PyProof.Rows.strKind.irrefl] at z
  cases z
theorem rising_pair : ∀ (p : Str) (l : List Str), risingS p l = true → (p :: l).Pairwise fun a b => leS a b = true
  | p, [], _ => List.pairwise_singleton _ _
  | p, x :: r, h => by
    have h' : (!ltCps x.cps.toList p.cps.toList && risingS x r) = true := h
    rw [Bool.and_eq_true] at h'
    have ih := rising_pair x r h'.2
    refine List.pairwise_cons.mpr ⟨fun y hy => ?_, ih⟩
    have h1 : ltCps x.cps.toList p.cps.toList = false := by simpa using h'.1
    have hxp : leS p x = true := h'.1
    rcases List.mem_cons.mp hy with e | hy
    · rw [e]; exact hxp
    · have hxy : leS x y = true := (List.pairwise_cons.mp ih).1 y hy
      have h2 : ltCps y.cps.toList x.cps.toList = false := by simpa [leS] using hxy
      show (!ltCps y.cps.toList p.cps.toList) = true
      cases q : ltCps y.cps.toList p.cps.toList with
      | false => rfl
      | true =>
        rcases cNeg (b := x.cps.toList) q with z | z
        · have z' : ltCps y.cps.toList x.cps.toList = true := z
          rw [h2] at z'
          cases z'
        · have z' : ltCps x.cps.toList p.cps.toList = true := z
          rw [h1] at z'
          cases z'
theorem sorted_pair {l : List Str} (h : sortedS l = true) : l.Pairwise fun a b => leS a b = true := by
  cases l with
  | nil => exact .nil
  | cons x r => exact rising_pair x r h
theorem skeys_perm (ks : List Str) : (skeys ks).Perm ks := List.mergeSort_perm _ _
theorem skeys_uniq {ks ys : List Str} (p : ys.Perm ks) (s : sortedS ys = true) : ys = skeys ks := by
  refine List.Perm.eq_of_pairwise (le := fun a b => leS a b = true) (fun a b _ _ h1 h2 => ?_) (sorted_pair s) ?_ (p.trans (skeys_perm ks).symm)
  · have e1 : ltCps b.cps.toList a.cps.toList = false := by simpa [leS] using h1
    have e2 : ltCps a.cps.toList b.cps.toList = false := by simpa [leS] using h2
    exact str_of_cps (cTot e2 e1)
  · refine List.pairwise_mergeSort (fun a b c h1 h2 => ?_) (fun a b => ?_) ks
    · have e1 : ltCps b.cps.toList a.cps.toList = false := by simpa [leS] using h1
      have e2 : ltCps c.cps.toList b.cps.toList = false := by simpa [leS] using h2
      show (!ltCps c.cps.toList a.cps.toList) = true
      cases q : ltCps c.cps.toList a.cps.toList with
      | false => rfl
      | true =>
        rcases cNeg (b := b.cps.toList) q with z | z
        · have z' : ltCps c.cps.toList b.cps.toList = true := z
          rw [e2] at z'
          cases z'
        · have z' : ltCps b.cps.toList a.cps.toList = true := z
          rw [e1] at z'
          cases z'
    · unfold leS
      cases q : ltCps b.cps.toList a.cps.toList with
      | false => simp
      | true =>
        cases q' : ltCps a.cps.toList b.cps.toList with
        | false => simp
        | true =>
          exact (cAsy q q').elim
/-! ### sorts -/
def sortS : D → Str
  | .non => "null"
  | .bl false => "no"
  | .bl true => "yes"
  | .int _ => "number"
  | .str _ => "text"
  | .lst _ => "list"
  | .dct _ _ => "dict"
def tyS : D → String
  | .non => "NoneType"
  | .bl _ => "bool"
  | .int _ => "int"
  | .str _ => "str"
  | .lst _ => "list"
  | .dct _ _ => "dict"
theorem ty_of {K : PySem.W.Frag} {H : Hp} : ∀ {n : Nat} {v : V} {d : D}, Da n H v d → TyX K H v (.type (tyS d)) := by
  intro n v d h
  cases d with
  | non => cases n <;> (simp only [Da] at h; subst h; exact .base .non)
  | bl b => cases n <;> (simp only [Da] at h; subst h; exact .base (.bl b))
  | int i => cases n <;> (simp only [Da] at h; subst h; exact .base (.int i))
  | str x => cases n <;> (simp only [Da] at h; obtain ⟨rfl, _⟩ := h; exact .base (.str x))
  | lst ds =>
    cases n with
    | zero => simp only [Da] at h
    | succ n =>
      simp only [Da] at h
      obtain ⟨a, xs, rfl, h2, _⟩ := h
      exact .base (.lst h2)
  | dct ks ds =>
    cases n with
    | zero => simp only [Da] at h
    | succ n =>
      simp only [Da] at h
      obtain ⟨a, us, rfl, h2, _⟩ := h
      exact .base (.dK h2)
def spSort : Sp := fun vs H Q _ => ∃ (v : V) (n : Nat) (d : D), vs = [v] ∧ Da n H v d ∧ Q (.str (sortS d)) H
section
variable {P : Program} {w : World} {K : PySem.W.Frag} {mg : Str → Option Value} {base : Heap}
theorem scSo : FnScope ["datum"] ["datum"] (defScope sSort) := ⟨rfl, rfl, rfl, by decide +kernel, rfl, by decide +kernel, by decide +kernel⟩
theorem non_iff {n : Nat} {H : Hp} {v : V} {d : D} (h : Da n H v d) : decide (v = .non) = (match d with | .non => true | _ => false) := by
  cases d with
  | non => cases n <;> (simp only [Da] at h; subst h; rfl)
  | bl b => cases n <;> (simp only [Da] at h; subst h; rfl)
  | int i => cases n <;> (simp only [Da] at h; subst h; rfl)
  | str x => cases n <;> (simp only [Da] at h; obtain ⟨rfl, _⟩ := h; rfl)
  | lst ds =>
    cases n with
    | zero => simp only [Da] at h
    | succ n =>
      simp only [Da] at h
      obtain ⟨a, xs, rfl, _⟩ := h
      rfl
  | dct ks ds =>
    cases n with
    | zero => simp only [Da] at h
    | succ n =>
      simp only [Da] at h
      obtain ⟨a, us, rfl, _⟩ := h
      rfl
theorem ok_sort {f : Addr} {fd : FuncData} (F : Fun K "sort_of" "sort_of" sSort f fd) (mI : mg "isinstance" = none) (mB : mg "bool" = none) (mN : mg "int" = none) (mS : mg "str" = none) (mL : mg "list" = none) : FnOk P w K mg base CX0 1 f fd ["datum"] spSort := by
  refine F.ok scSo (fun vs H Q E h => ?_) (fun cdv A outer s H vs Q E hr h => ?_)
  · obtain ⟨v, n, d, rfl, _⟩ := h
    rfl
  · obtain ⟨v, n, d, rfl, hd, q⟩ := h
    refine ⟨_, pss_cons (ps_if (pt_cmpR op_isN (pv 0) pe_non (nomark _)) (pss_one (ps_ret pe_str)) pss_nil)
      (pss_cons (ps_if (pt_val (pe_callB call_isi (by rfl) mI PyProof.Rows.boot_isinstance (pa_cons (pv 0) (pa_cons (pe_bltn (v := .ty "bool") (by rfl) mB (by decide +kernel) rfl) pa_nil)))) (pss_one (ps_ret (pe_ifExp (pt_val (pv 0)) pe_str pe_str))) pss_nil)
      (pss_cons (ps_if (pt_val (pe_callB call_isi (by rfl) mI PyProof.Rows.boot_isinstance (pa_cons (pv 0) (pa_cons (pe_bltn (v := .ty "int") (by rfl) mN (by decide +kernel) rfl) pa_nil)))) (pss_one (ps_ret pe_str)) pss_nil)
      (pss_cons (ps_if (pt_val (pe_callB call_isi (by rfl) mI PyProof.Rows.boot_isinstance (pa_cons (pv 0) (pa_cons (pe_bltn (v := .ty "str") (by rfl) mS (by decide +kernel) rfl) pa_nil)))) (pss_one (ps_ret pe_str)) pss_nil)
      (pss_one (ps_ret (pe_ifExp (pt_val (pe_callB call_isi (by rfl) mI PyProof.Rows.boot_isinstance (pa_cons (pv 0) (pa_cons (pe_bltn (v := .ty "list") (by rfl) mL (by decide +kernel) rfl) pa_nil)))) pe_str pe_str)))))), ?_⟩
    have nn := non_iff hd
    refine ⟨_, rfl, rfl, _, rfl, ?_⟩
    rw [nn]
    cases d with
    | non => exact iteT q
    | bl b =>
      have ty : TyX K H v (.type "bool") := ty_of hd
      have hv : v = .bl b := by cases n <;> simpa only [Da] using hd
      subst hv
      refine iteF ⟨_, rfl, _, _, _, _, true, rfl, .ty _, ty, kit_ty (by decide +kernel), _, rfl, iteT ⟨_, rfl, b, rfl, ?_⟩⟩
      cases b with
      | true => exact iteT q
      | false => exact iteF q
    | int i =>
      have ty : TyX K H v (.type "int") := ty_of hd
      refine iteF ⟨_, rfl, _, _, _, _, false, rfl, .ty _, ty, kit_ty (by decide +kernel), _, rfl, iteF ⟨_, rfl, _, _, _, _, true, rfl, .ty _, ty, kit_ty (by decide +kernel), _, rfl, iteT q⟩⟩
    | str x =>
      have ty : TyX K H v (.type "str") := ty_of hd
      refine iteF ⟨_, rfl, _, _, _, _, false, rfl, .ty _, ty, kit_ty (by decide +kernel), _, rfl, iteF ⟨_, rfl, _, _, _, _, false, rfl, .ty _, ty, kit_ty (by decide +kernel), _, rfl, iteF ⟨_, rfl, _, _, _, _, true, rfl, .ty _, ty, kit_ty (by decide +kernel), _, rfl, iteT q⟩⟩⟩
    | lst ds =>
      have ty : TyX K H v (.type "list") := ty_of hd
      refine iteF ⟨_, rfl, _, _, _, _, false, rfl, .ty _, ty, kit_ty (by decide +kernel), _, rfl, iteF ⟨_, rfl, _, _, _, _, false, rfl, .ty _, ty, kit_ty (by decide +kernel), _, rfl, iteF ⟨_, rfl, _, _, _, _, false, rfl, .ty _, ty, kit_ty (by decide +kernel), _, rfl, iteF ⟨_, rfl, _, _, _, _, true, rfl, .ty _, ty, kit_ty (by decide +kernel), _, rfl, iteT q⟩⟩⟩⟩
    | dct ks ds =>
      have ty : TyX K H v (.type "dict") := ty_of hd
      refine iteF ⟨_, rfl, _, _, _, _, false, rfl, .ty _, ty, kit_ty (by decide +kernel), _, rfl, iteF ⟨_, rfl, _, _, _, _, false, rfl, .ty _, ty, kit_ty (by decide +kernel), _, rfl, iteF ⟨_, rfl, _, _, _, _, false, rfl, .ty _, ty, kit_ty (by decide +kernel), _, rfl, iteF ⟨_, rfl, _, _, _, _, false, rfl, .ty _, ty, kit_ty (by decide +kernel), _, rfl, iteF q⟩⟩⟩⟩
end
end Toy


namespace L2
open PySem PySem.Spec PyProof.Rows
section
variable {X : Cx} {e : Expr} {t1 t2 : TE}
/-- what either rule says of one expression -/
def tEither (t1 t2 : TE) : TE := fun σ H Q => t1 σ H Q ∨ t2 σ H Q
theorem pe_either (h1 : PE X e t1) (h2 : PE X e t2) : PE X e (tEither t1 t2) := ⟨fun pins s σ H Q I h => h.elim (h1.run pins s σ H Q I) (h2.run pins s σ H Q I)⟩
end
end L2
namespace Toy
open PySem PySem.Spec L2 PyProof.Rows PySem.W
def stepsV : D → List V
  | .lst ds => (List.range ds.length).map fun i => V.int (i : Nat)
  | .dct ks _ => (skeys ks).map V.str
  | _ => []
/-- the values of the parts, one level lower -/
def Inn : Nat → Hp → List V → List D → Prop
  | 0, _, us, ds => us = [] ∧ ds = []
  | n + 1, H, us, ds => Paired (fun x d => Da n H x d) us ds
theorem paired_get {α β : Type} {R : α → β → Prop} : ∀ {us : List α} {ds : List β}, Paired R us ds → ∀ (i : Nat) (u : α), us[i]? = some u → ∃ d, ds[i]? = some d ∧ R u d
  | _, _, .nil, i, u, h => by simp at h
  | _, _, .cons r t, 0, u, h => by simp at h; exact ⟨_, rfl, h ▸ r⟩
  | _, _, .cons r t, i + 1, u, h => paired_get t i u h
theorem paired_of {α β : Type} {R : α → β → Prop} : ∀ {us : List α} {ds : List β}, us.length = ds.length → (∀ (i : Nat) (u : α) (d : β), us[i]? = some u → ds[i]? = some d → R u d) → Paired R us ds
  | [], [], _, _ => .nil
  | [], _ :: _, h, _ => absurd h (by simp)
  | _ :: _, [], h, _ => absurd h (by simp)
  | u :: us, d :: ds, h, r => .cons (r 0 u d rfl rfl) (paired_of (by simpa using h) fun i u' d' h1 h2 => r (i + 1) u' d' h1 h2)
theorem look_at {R : V → D → Prop} : ∀ {ks : List Str} {us : List V} {ds : List D}, Paired R us ds → us.length = ks.length → ∀ k ∈ ks, ∃ u, valV (kvOf ks us) (Sum.inr k) = some u ∧ R u (look ks ds k)
  | [], _, _, _, _, k, h => absurd h (by simp)
  | _ :: _, _, _, .nil, h, _, _ => absurd h (by simp)
  | k' :: ks, u :: us, d :: ds, .cons r t, hl, k, hk => by
    by_cases e : k' = k
    · refine ⟨u, valV_pos (by rw [e]), ?_⟩
      rw [look, if_pos e]
      exact r
    · have hk' : k ∈ ks := by
        rcases List.mem_cons.mp hk with z | z
        · exact absurd z.symm e
        · exact z
      obtain ⟨u', h1, h2⟩ := look_at t (by simpa using hl) k hk'
      refine ⟨u', (valV_neg (fun z => e (Sum.inr.inj z))).trans h1, ?_⟩
      rw [look, if_neg e]
      exact h2
def spSteps : Sp := fun vs H Q _ => ∃ (v : V) (n : Nat) (d : D), vs = [v] ∧ Da n H v d ∧ ∀ H' R, Same H H' → H R = none → H' R = some (.lst (stepsV d)) → Q (.ref R) H'
def spInner : Sp := fun vs H Q _ => ∃ (v : V) (n : Nat) (d : D), vs = [v] ∧ Da n H v d ∧ ∀ H' R us, Same H H' → H R = none → H' R = some (.lst us) → us.length ≤ 20 → Inn n H' us (inner d) → Q (.ref R) H'
section
variable {P : Program} {w : World} {K : PySem.W.Frag} {mg : Str → Option Value} {base : Heap}
theorem scSt : FnScope ["datum"] ["datum"] (defScope sSteps) := ⟨rfl, rfl, rfl, by decide +kernel, rfl, by decide +kernel, by decide +kernel⟩
theorem kv_keys {ks : List Str} {us : List V} (h : us.length = ks.length) : (kvOf ks us).map (·.1) = ks.map Sum.inr := by
  unfold kvOf
  rw [List.map_map]
  have z : ((ks.zip us).map Prod.fst).map (Sum.inr : Str → Key) = ks.map Sum.inr := by rw [List.map_fst_zip (by omega)]
  rw [List.map_map] at z
  exact z
theorem rg_nat (n : Nat) : rgV 0 (n : Int) = (List.range n).map fun i => V.int (i : Nat) := by
  unfold rgV
  rw [Int.sub_zero, Int.toNat_natCast]
  refine List.map_congr_left fun i _ => ?_
  rw [Int.zero_add]
theorem ok_steps {f : Addr} {fd : FuncData} (F : Fun K "steps_into" "steps_into" sSteps f fd) (mI : mg "isinstance" = none) (mL : mg "list" = none) (mD : mg "dict" = none) (mR : mg "range" = none) (mLen : mg "len" = none) (mS : mg "sorted" = none) : FnOk P w K mg base CX0 1 f fd ["datum"] spSteps := by
  refine F.ok scSt (fun vs H Q E h => ?_) (fun cdv A outer s H vs Q E hr h => ?_)
  · obtain ⟨v, n, d, rfl, _⟩ := h
    rfl
  · obtain ⟨v, n, d, rfl, hd, q⟩ := h
    refine ⟨_, pss_cons (ps_if (pt_val (pe_callB call_isi (by rfl) mI PyProof.Rows.boot_isinstance (pa_cons (pv 0) (pa_cons (pe_bltn (v := .ty "list") (by rfl) mL (by decide +kernel) rfl) pa_nil))))
        (pss_one (ps_ret (pe_listRg (by rfl) (by rfl) mL (prg_1 (by rfl) mR (pe_callB call_len_seq (by rfl) mLen PySem.boot_len (pa_cons (pv 0) pa_nil)))))) pss_nil)
      (pss_one (ps_ret (pe_ifExp (pt_val (pe_callB call_isi (by rfl) mI PyProof.Rows.boot_isinstance (pa_cons (pv 0) (pa_cons (pe_bltn (v := .ty "dict") (by rfl) mD (by decide +kernel) rfl) pa_nil)))) (pe_callB (call_sortedD rfl) (by rfl) mS (by decide +kernel) (pa_cons (pv 0) pa_nil)) (pe_lst pa_nil)))), ?_⟩
    have lens : ∀ {m : Nat} {us : List V} {ds : List D}, Paired (fun x d => Da m H x d) us ds → us.length = ds.length := fun p => p.length
    cases d with
    | non =>
      have ty : TyX K H v (.type "NoneType") := ty_of hd
      exact ⟨_, rfl, _, _, _, _, false, rfl, .ty _, ty, kit_ty (by decide +kernel), _, rfl, iteF ⟨_, rfl, _, _, _, _, false, rfl, .ty _, ty, kit_ty (by decide +kernel), _, rfl, iteF ⟨Nat.zero_le _, fun R nR => q _ R (same_new (fun _ _ z => z) nR) nR upd_same⟩⟩⟩
    | bl b =>
      have ty : TyX K H v (.type "bool") := ty_of hd
      exact ⟨_, rfl, _, _, _, _, false, rfl, .ty _, ty, kit_ty (by decide +kernel), _, rfl, iteF ⟨_, rfl, _, _, _, _, false, rfl, .ty _, ty, kit_ty (by decide +kernel), _, rfl, iteF ⟨Nat.zero_le _, fun R nR => q _ R (same_new (fun _ _ z => z) nR) nR upd_same⟩⟩⟩
    | int i =>
      have ty : TyX K H v (.type "int") := ty_of hd
      exact ⟨_, rfl, _, _, _, _, false, rfl, .ty _, ty, kit_ty (by decide +kernel), _, rfl, iteF ⟨_, rfl, _, _, _, _, false, rfl, .ty _, ty, kit_ty (by decide +kernel), _, rfl, iteF ⟨Nat.zero_le _, fun R nR => q _ R (same_new (fun _ _ z => z) nR) nR upd_same⟩⟩⟩
    | str x =>
      have ty : TyX K H v (.type "str") := ty_of hd
      exact ⟨_, rfl, _, _, _, _, false, rfl, .ty _, ty, kit_ty (by decide +kernel), _, rfl, iteF ⟨_, rfl, _, _, _, _, false, rfl, .ty _, ty, kit_ty (by decide +kernel), _, rfl, iteF ⟨Nat.zero_le _, fun R nR => q _ R (same_new (fun _ _ z => z) nR) nR upd_same⟩⟩⟩
    | lst ds =>
      have ty : TyX K H v (.type "list") := ty_of hd
      cases n with
      | zero => simp only [Da] at hd
      | succ n =>
        simp only [Da] at hd
        obtain ⟨a, xs, rfl, h2, h3, h4⟩ := hd
        have e := lens h4
        refine ⟨_, rfl, _, _, _, _, true, rfl, .ty _, ty, kit_ty (by decide +kernel), _, rfl, iteT ⟨_, rfl, a, xs, rfl, .inl (SqL.of h2), _, rfl, RgOk.of_le (by omega) (by omega) (by omega) (by omega), fun R nR => q _ R (same_new (fun _ _ z => z) nR) nR ?_⟩⟩
        rw [upd_same, rg_nat, e]
        rfl
    | dct ks ds =>
      have ty : TyX K H v (.type "dict") := ty_of hd
      cases n with
      | zero => simp only [Da] at hd
      | succ n =>
        simp only [Da] at hd
        obtain ⟨a, us, rfl, h2, h3, h4, h5, h6, h7⟩ := hd
        refine ⟨_, rfl, _, _, _, _, false, rfl, .ty _, ty, kit_ty (by decide +kernel), _, rfl, iteF ⟨_, rfl, _, _, _, _, true, rfl, .ty _, ty, kit_ty (by decide +kernel), _, rfl, iteT ⟨_, rfl, a, _, ks, rfl, .inl h2, kv_keys h4, by omega, fun ys R p1 p2 nR => q _ R (same_new (fun _ _ z => z) nR) nR ?_⟩⟩⟩
        rw [upd_same, skeys_uniq p1 p2]
        rfl
end
end Toy


namespace Toy
open PySem PySem.Spec L2 PyProof.Rows PySem.W
theorem Inn.mono {H H' : Hp} (s : Same H H') : ∀ {n : Nat} {us : List V} {ds : List D}, Inn n H us ds → Inn n H' us ds
  | 0, _, _, h => h
  | _ + 1, _, _, h => paired_mono s (Nat.le_refl _) h
theorem Inn.len {H : Hp} : ∀ {n : Nat} {us : List V} {ds : List D}, Inn n H us ds → us.length = ds.length
  | 0, _, _, h => by rw [h.1, h.2]; rfl
  | _ + 1, _, _, h => Paired.length h
/-- datum[step], step by step -/
def SubOk (K : PySem.W.Frag) (H : Hp) (v x u : V) : Prop := ∀ (H2 : Hp) (Q : VK), Same H H2 → Q u H2 → rIxL K v x H2 Q ∨ ∃ a z, v = .ref a ∧ DGet H2 a x (some z) ∧ Q z H2
theorem sub_read {K : PySem.W.Frag} {H : Hp} : ∀ {n : Nat} {v : V} {d : D}, Da n H v d → ∃ us : List V, Inn n H us (inner d) ∧ us.length = (stepsV d).length ∧ us.length ≤ 20 ∧ ∀ (i : Nat) (x u : V), (stepsV d)[i]? = some x → us[i]? = some u → SubOk K H v x u := by
  intro n v d hd
  have none : stepsV d = [] → inner d = [] → ∃ us : List V, Inn n H us (inner d) ∧ us.length = (stepsV d).length ∧ us.length ≤ 20 ∧ ∀ (i : Nat) (x u : V), (stepsV d)[i]? = some x → us[i]? = some u → SubOk K H v x u := fun e1 e2 => by
    refine ⟨[], ?_, by rw [e1], Nat.zero_le _, fun i x u h1 h2 => by simp at h2⟩
    rw [e2]
    cases n with
    | zero => exact ⟨rfl, rfl⟩
    | succ n => exact .nil
  cases d with
  | non => exact none rfl rfl
  | bl b => exact none rfl rfl
  | int i => exact none rfl rfl
  | str x => exact none rfl rfl
  | lst ds =>
    cases n with
    | zero => simp only [Da] at hd
    | succ n =>
      simp only [Da] at hd
      obtain ⟨a, xs, rfl, h2, h3, h4⟩ := hd
      have e : xs.length = ds.length := Paired.length h4
      refine ⟨xs, h4, by simp [stepsV, e], h3, fun i x u h1 h2' H2 Q s q => ?_⟩
      have hi : x = .int (i : Nat) := by
        simp only [stepsV, List.getElem?_map] at h1
        by_cases hl : i < ds.length
        · rw [List.getElem?_range hl] at h1
          exact (Option.some.inj h1).symm
        · rw [List.getElem?_eq_none (by rw [List.length_range]; omega)] at h1
          cases h1
      subst hi
      exact .inl ⟨a, xs, _, u, rfl, rfl, SqL.of (s _ _ h2), atI_nat h2', q⟩
  | dct ks ds =>
    cases n with
    | zero => simp only [Da] at hd
    | succ n =>
      simp only [Da] at hd
      obtain ⟨a, us, rfl, h2, h3, h4, h5, h6, h7⟩ := hd
      have lk := look_at h7 h4
      refine ⟨(skeys ks).map fun k => (valV (kvOf ks us) (Sum.inr k)).getD .non, ?_, by simp [stepsV], by rw [List.length_map, (skeys_perm ks).length_eq]; exact h3, fun i x u h1 h2' H2 Q s q => ?_⟩
      · refine paired_of (by simp [inner]) fun i u d' g1 g2 => ?_
        simp only [inner, List.getElem?_map] at g1 g2
        cases hk : (skeys ks)[i]? with
        | none => rw [hk] at g1; cases g1
        | some k =>
          rw [hk] at g1 g2
          have mk : k ∈ ks := (skeys_perm ks).mem_iff.mp (List.mem_of_getElem? hk)
          obtain ⟨u', e1, e2⟩ := lk k mk
          have g1' := Option.some.inj g1
          have g2' := Option.some.inj g2
          simp only [e1, Option.getD_some] at g1'
          rw [← g1', ← g2']
          exact e2
      · simp only [stepsV, List.getElem?_map] at h1 h2'
        cases hk : (skeys ks)[i]? with
        | none => rw [hk] at h1; cases h1
        | some k =>
          rw [hk] at h1 h2'
          have mk : k ∈ ks := (skeys_perm ks).mem_iff.mp (List.mem_of_getElem? hk)
          obtain ⟨u', e1, e2⟩ := lk k mk
          have h1' := Option.some.inj h1
          have h2'' := Option.some.inj h2'
          simp only [e1, Option.getD_some] at h2''
          subst h2''
          subst h1'
          have z := DGet.k (k := Sum.inr k) (s _ _ h2)
          rw [e1] at z
          exact .inr ⟨a, u', rfl, z, q⟩
def spParts (j : Nat) : Sp := fun vs H Q _ => ∃ (v : V) (n : Nat) (d : D), n < j ∧ vs = [v] ∧ Da n H v d ∧ ∀ H', Same H H' → Q (.int (cnt n d)) H'
section
variable {P : Program} {w : World} {K : PySem.W.Frag} {mg : Str → Option Value} {base : Heap}
theorem scIn : FnScope ["datum", "step"] ["datum"] (defScope sInner) := ⟨rfl, rfl, rfl, by decide +kernel, rfl, by decide +kernel, by decide +kernel⟩
theorem ok_inner {f fS : Addr} {fd fdS : FuncData} (F : Fun K "inner_of" "inner_of" sInner f fd) (GS : FnOk P w K mg base CX0 1 fS fdS ["datum"] spSteps) (mS : mg "steps_into" = some (.ref fS)) (kS : PySem.W.keepIn K (.ref fS) = true) (bS : Binds K fdS ["datum"] []) :
    FnOk P w K mg base CX0 2 f fd ["datum"] spInner := by
  refine F.ok scIn (fun vs H Q E h => ?_) (fun cdv A outer s H vs Q E hr h => ?_)
  · obtain ⟨v, n, d, rfl, _⟩ := h
    rfl
  · obtain ⟨v, n, d, rfl, hd, q⟩ := h
    have hu := hu_of hr
    refine ⟨_, pss_one (ps_ret (pe_lc (own := [("step", 1)]) (g := gName 1) (te := tEither (tOp (rIxL K) (tVar 0) (tVar 1)) (tDGet (tVar 0) (tVar 1))) (by rfl) scIn.nd (pi_list (pe_call GS hr (by rfl) mS kS bS .nil pass0 (pa_cons (pv 0) pa_nil)))
            (blkOk_by (own := [("step", 1)]) (N := ["datum", "step"]) (sc := defScope sInner) (by decide +kernel)) (fun _ _ _ _ _ => pg_name (i := 1) scIn.nd rfl (Or.inl rfl)) (fun _ _ _ _ _ => pts_nil)
            (fun _ _ _ _ _ => pe_either (pe_ix ix_list (pv 0) (pv 1) (fun _ _ => rfl)) (pe_dget hu (pv 0) (pv 1) (fun _ _ => rfl))))), ?_⟩
    obtain ⟨us, inn, lus, l20, sub⟩ := sub_read (K := K) hd
    refine ⟨_, rfl, v, n, d, rfl, hd, fun H1 R s1 nR hR => ⟨R, rfl, ⟨_, SqL.of hR⟩, fun D nD => ?_⟩⟩
    have nRD : R ≠ D := ne_of_none hR nD
    refine lc_list (K := K) (a := R) (xs := stepsV d) (fun i H' => Same H1 H' ∧ H' D = some (.lst (us.take i))) ⟨same_new (fun _ _ z => z) nD, by rw [upd_same]; rfl⟩ ?_ ?_ ?_
    · rintro i H' _ ⟨s2, _⟩
      exact SqL.of (s2 _ _ hR)
    · rintro i x H' hx ⟨s2, hD⟩
      have hi : i < us.length := by
        rcases Nat.lt_or_ge i us.length with z | z
        · exact z
        · rw [List.getElem?_eq_none (by omega)] at hx
          cases hx
      refine ⟨rfl, ?_⟩
      have fin : ∃ acc, H' D = some (.lst acc) ∧ acc.length < sizeLine ∧ Same H1 (upd H' D (.lst (acc ++ [us[i]]))) ∧ (upd H' D (.lst (acc ++ [us[i]]))) D = some (.lst (us.take (i + 1))) := by
        refine ⟨_, hD, small1000 (by rw [List.length_take]; omega), fun b o e => ?_, ?_⟩
        · rw [upd_ne (ne_of_none e nD)]
          exact s2 _ _ e
        · rw [upd_same, List.take_add_one, List.getElem?_eq_getElem hi]
          rfl
      rcases sub i x us[i] hx (List.getElem?_eq_getElem hi) H' (fun y H4 => ∃ acc, H4 D = some (.lst acc) ∧ acc.length < sizeLine ∧ Same H1 (upd H4 D (.lst (acc ++ [y]))) ∧ (upd H4 D (.lst (acc ++ [y]))) D = some (.lst (us.take (i + 1)))) (s1.trans s2) fin with z | z
      · exact .inl ⟨_, rfl, _, rfl, z⟩
      · exact .inr ⟨_, rfl, _, rfl, z⟩
    · rintro H' ⟨s2, hD⟩
      rw [← lus, List.take_length] at hD
      exact q H' D us (s1.trans s2) (by
        by_cases z : H D = none
        · exact z
        · obtain ⟨o, ho⟩ : ∃ o, H D = some o := by
            cases e : H D with
            | none => exact absurd e z
            | some o => exact ⟨o, rfl⟩
          rw [s1 _ _ ho] at nD
          cases nD) hD l20 (inn.mono (s1.trans s2))
end
end Toy


namespace Toy
open PySem PySem.Spec L2 PyProof.Rows PySem.W
theorem fresh_of {H H1 : Hp} {p : Addr} (s : Same H H1) (n : H1 p = none) : H p = none := by
  cases e : H p with
  | none => rfl
  | some o =>
    rw [s _ _ e] at n
    cases n
section
variable {P : Program} {w : World} {K : PySem.W.Frag} {mg : Str → Option Value} {base : Heap}
theorem scPa : FnScope ["datum", "part"] ["datum"] (defScope sParts) := ⟨rfl, rfl, rfl, by decide +kernel, rfl, by decide +kernel, by decide +kernel⟩
theorem ok_parts {f fI : Addr} {fd fdI : FuncData} (F : Fun K "parts_of" "parts_of" sParts f fd) (GI : FnOk P w K mg base CX0 2 fI fdI ["datum"] spInner) (mI : mg "inner_of" = some (.ref fI)) (kI : PySem.W.keepIn K (.ref fI) = true) (bI : Binds K fdI ["datum"] [])
    (mF : mg "parts_of" = some (.ref f)) (kF : PySem.W.keepIn K (.ref f) = true) (bF : Binds K fd ["datum"] []) (mS : mg "sum" = none) : ∀ j : Nat, FnOk P w K mg base CX0 (j + 3) f fd ["datum"] (spParts j) := by
  intro j
  induction j with
  | zero => exact F.ok (k := 2) scPa (fun vs H Q E h => by obtain ⟨v, n, d, h0, _⟩ := h; exact absurd h0 (Nat.not_lt_zero _)) (fun cdv A outer s H vs Q E hr h => by obtain ⟨v, n, d, h0, _⟩ := h; exact absurd h0 (Nat.not_lt_zero _))
  | succ j ih =>
    refine F.ok (k := j + 3) scPa (fun vs H Q E h => ?_) (fun cdv A outer s H vs Q E hr h => ?_)
    · obtain ⟨v, n, d, _, rfl, _⟩ := h
      rfl
    · obtain ⟨v, n, d, hnj, rfl, hd, q⟩ := h
      have hr2 : Room 2 _ := hr.mono (show 2 ≤ j + 3 by omega)
      refine ⟨_, pss_one (ps_ret (pe_op op_add pe_int (pe_callB (cr_sum rfl) (by rfl) mS (by decide +kernel) (pa_cons (pe_lc (own := [("part", 1)]) (g := gName 1) (by rfl) scPa.nd (pi_list (pe_call GI hr2 (by rfl) mI kI bI .nil pass0 (pa_cons (pv 0) pa_nil)))
            (blkOk_by (own := [("part", 1)]) (N := ["datum", "part"]) (sc := defScope sParts) (by decide +kernel)) (fun _ _ _ _ _ => pg_name (i := 1) scPa.nd rfl (Or.inl rfl)) (fun _ _ _ _ _ => pts_nil)
            (fun _ _ _ _ _ => pe_call ih hr (by rfl) mF kF bF .nil pass0 (pa_cons (pv 1) pa_nil))) pa_nil)))), ?_⟩
      refine ⟨_, rfl, v, n, d, rfl, hd, fun H1 R us s1 nR hR l20 inn => ⟨R, rfl, ⟨_, SqL.of hR⟩, fun D nD => ?_⟩⟩
      have lus := inn.len
      have fin : ∀ H', Same H1 H' → H' D = some (.lst (((inner d).map fun z => cnt (n - 1) z).map V.int)) → cnt n d = 1 + ((inner d).map fun z => cnt (n - 1) z).sum →
          ∃ (a : Addr) (ns : List Int), [V.ref D] = [V.ref a] ∧ SqL K H' a (ns.map V.int) ∧ ∃ i j, V.int 1 = .int i ∧ V.int ns.sum = .int j ∧ Q (.int (i + j)) H' := fun H' s2 h e => ⟨D, _, rfl, SqL.of h, _, _, rfl, rfl, by rw [← e]; exact q H' (s1.trans s2)⟩
      refine lc_list (K := K) (a := R) (xs := us) (fun i H' => Same H1 H' ∧ H' D = some (.lst ((((inner d).take i).map fun z => cnt (n - 1) z).map V.int))) ⟨same_new (fun _ _ z => z) nD, by rw [upd_same]; rfl⟩ ?_ ?_ ?_
      · rintro i H' _ ⟨s2, _⟩
        exact SqL.of (s2 _ _ hR)
      · rintro i x H' hx ⟨s2, hD⟩
        cases n with
        | zero =>
          rw [inn.1] at hx
          simp at hx
        | succ n =>
          obtain ⟨d', hd', hxd⟩ := paired_get (show Paired (fun x d => Da n H1 x d) us (inner d) from inn) i x hx
          refine ⟨rfl, _, rfl, x, n, d', by omega, rfl, hxd.mono s2 (Nat.le_refl _), fun H'' s3 => ⟨_, s3 _ _ hD, small1000 (by rw [List.length_map, List.length_map, List.length_take]; omega), fun b o e => ?_, ?_⟩⟩
          · rw [upd_ne (ne_of_none e nD)]
            exact s3 _ _ (s2 _ _ e)
          · rw [upd_same, List.take_add_one, hd']
            simp
      · rintro H' ⟨s2, hD⟩
        rw [lus, List.take_length] at hD
        refine fin H' s2 hD ?_
        cases n with
        | zero =>
          rw [inn.2]
          rfl
        | succ n => rfl
end
end Toy


namespace Toy
open PySem PySem.Spec L2 PyProof.Rows PySem.W
/-! ### alike -/
def leafPy : D → PyData
  | .bl b => .bool b
  | .int i => .int i
  | .str x => .str x
  | _ => .none
theorem leaf_dp {K : PySem.W.Frag} {H : Hp} : ∀ {n : Nat} {v : V} {d : D}, Da n H v d → place d < 5 → Dp K H v (leafPy d) ∧ SeqAt.shaped (leafPy d) = true := by
  intro n v d h hp
  cases d with
  | non => cases n <;> (simp only [Da] at h; subst h; exact ⟨.non, by decide +kernel⟩)
  | bl b => cases n <;> (simp only [Da] at h; subst h; exact ⟨.bl b, by simp [leafPy, SeqAt.shaped, PyData.canLay0, PyData.depth]⟩)
  | int i => cases n <;> (simp only [Da] at h; subst h; exact ⟨.int i, by simp [leafPy, SeqAt.shaped, PyData.canLay0, PyData.depth]⟩)
  | str x => cases n <;> (simp only [Da] at h; obtain ⟨rfl, hx⟩ := h; exact ⟨.str x, by simp [leafPy, SeqAt.shaped, PyData.canLay0, PyData.depth, hx]⟩)
  | lst ds => exact absurd hp (by simp [place])
  | dct ks ds => exact absurd hp (by simp [place])
theorem leaf_alk {n : Nat} {a b : D} (h : place a = place b) (hp : place a < 5) : PyData.eqv (leafPy a) (leafPy b) = alk n a b := by
  rw [alk_form, decide_eq_true h, Bool.true_and]
  cases a with
  | non =>
    cases b with
    | non => rw [cnt_leaf rfl]; simp [leafPy, rankTail, PyData.eqv, PyData.eqvAll]
    | bl b => rw [place_bl] at h; cases b <;> simp [place] at h
    | _ => simp [place] at h
  | bl c =>
    cases b with
    | bl d =>
      rw [cnt_leaf rfl, cnt_leaf rfl]
      rw [place_bl, place_bl] at h
      cases c <;> cases d <;> first | (simp [leafPy, rankTail, PyData.eqv, PyData.eqvAll]; done) | simp at h
    | non => rw [place_bl] at h; cases c <;> simp [place] at h
    | int j => rw [place_bl] at h; cases c <;> simp [place] at h
    | str j => rw [place_bl] at h; cases c <;> simp [place] at h
    | lst j => rw [place_bl] at h; cases c <;> simp [place] at h
    | dct j k => rw [place_bl] at h; cases c <;> simp [place] at h
  | int i =>
    cases b with
    | int j =>
      rw [cnt_leaf rfl, cnt_leaf rfl]
      simp only [leafPy, rankTail]
      rw [eqv_all_cons, eqv_all_cons, eqv_int, eqv_int, eqv_int]
      have e0 : PyData.eqvAll [] [] = true := rfl
      rw [e0]
      simp only [decide_true, Bool.true_and, Bool.and_true]
      apply Bool.eq_iff_iff.mpr
      simp only [Bool.and_eq_true, decide_eq_true_eq]
      constructor
      · intro z
        rw [z]
        exact ⟨rfl, rfl⟩
      · rintro ⟨z1, z2⟩
        by_cases h1 : i < 0 <;> by_cases h2 : j < 0 <;> simp only [h1, h2, if_true, if_false] at z1 z2 <;> omega
    | bl b => rw [place_bl] at h; cases b <;> simp [place] at h
    | _ => simp [place] at h
  | str x =>
    cases b with
    | str y =>
      rw [cnt_leaf rfl, cnt_leaf rfl]
      simp only [leafPy, rankTail]
      rw [eqv_all_cons, eqv_all_cons, eqv_int]
      have e0 : PyData.eqvAll [] [] = true := rfl
      rw [e0]
      simp only [decide_true, Bool.true_and, Bool.and_true]
      simp only [PyData.eqv]
      by_cases z : x = y
      · subst z
        simp
      · simp [z]
    | bl b => rw [place_bl] at h; cases b <;> simp [place] at h
    | _ => simp [place] at h
  | lst ds => exact absurd hp (by simp [place])
  | dct ks ds => exact absurd hp (by simp [place])
def placeS : Int → Str
  | 0 => "null"
  | 1 => "no"
  | 2 => "yes"
  | 3 => "number"
  | 4 => "text"
  | 5 => "list"
  | _ => "dict"
theorem sort_place (d : D) : sortS d = placeS (place d) := by
  cases d with
  | bl b => cases b <;> rfl
  | _ => rfl
theorem place_le (d : D) : 0 ≤ place d ∧ place d ≤ 6 := by
  cases d with
  | bl b => cases b <;> simp [place]
  | _ => simp [place]
theorem sort_eq (a b : D) : decide (sortS a = sortS b) = decide (place a = place b) := by
  have key : ∀ i j : Int, 0 ≤ i ∧ i ≤ 6 → 0 ≤ j ∧ j ≤ 6 → (placeS i = placeS j ↔ i = j) := by
    intro i j hi hj
    have ei : i = 0 ∨ i = 1 ∨ i = 2 ∨ i = 3 ∨ i = 4 ∨ i = 5 ∨ i = 6 := by omega
    have ej : j = 0 ∨ j = 1 ∨ j = 2 ∨ j = 3 ∨ j = 4 ∨ j = 5 ∨ j = 6 := by omega
    rcases ei with rfl | rfl | rfl | rfl | rfl | rfl | rfl <;> rcases ej with rfl | rfl | rfl | rfl | rfl | rfl | rfl <;> decide +kernel
  rw [sort_place, sort_place]
  exact decide_eq_decide.mpr (key _ _ (place_le a) (place_le b))
/-! rows of steps -/
def stepsP : D → List PyData
  | .lst ds => (List.range ds.length).map fun i => PyData.int (i : Nat)
  | .dct ks _ => (skeys ks).map PyData.str
  | _ => []
theorem dpInts {K : PySem.W.Frag} {H : Hp} : ∀ l : List Nat, DpAll K H (l.map fun i => V.int (i : Nat)) (l.map fun i => PyData.int (i : Nat))
  | [] => .nil
  | i :: l => .cons (.int _) (dpInts l)
theorem steps_dp {K : PySem.W.Frag} {H : Hp} (d : D) : DpAll K H (stepsV d) (stepsP d) := by
  cases d with
  | lst ds => exact dpInts _
  | dct ks ds => exact dpStrs _
  | _ => exact .nil
theorem layInts : ∀ l : List Nat, PyData.canLayAll0 (l.map fun i => PyData.int (i : Nat)) = true
  | [] => by simp [PyData.canLayAll0]
  | i :: l => by
    simp only [List.map_cons, PyData.canLayAll0, PyData.canLay0]
    rw [layInts l]
    rfl
theorem depthInts : ∀ l : List Nat, PyData.depthAll (l.map fun i => PyData.int (i : Nat)) ≤ 1
  | [] => by simp [PyData.depthAll]
  | i :: l => by
    have := depthInts l
    simp only [List.map_cons, PyData.depthAll, PyData.depth]
    omega
theorem shapedInts (l : List Nat) : SeqAt.shaped (.list (l.map fun i => PyData.int (i : Nat))) = true := by
  unfold SeqAt.shaped
  have z := depthInts l
  rw [show (PyData.list (l.map fun i => PyData.int (i : Nat))).canLay0 = true by simp only [PyData.canLay0]; exact layInts l, Bool.true_and]
  exact decide_eq_true (by simp only [PyData.depth]; omega)
theorem steps_shaped {n : Nat} {H : Hp} {v : V} {d : D} (h : Da n H v d) : SeqAt.shaped (.list (stepsP d)) = true := by
  cases d with
  | lst ds => exact shapedInts _
  | dct ks ds =>
    cases n with
    | zero => simp only [Da] at h
    | succ n =>
      simp only [Da] at h
      obtain ⟨a, us, _, _, _, _, _, hok, _⟩ := h
      exact shapedStrs fun k hk => hok k ((skeys_perm ks).mem_iff.mp hk)
  | _ => exact shapedInts []
theorem eqv_strs : ∀ ks ls : List Str, PyData.eqvAll (ks.map PyData.str) (ls.map PyData.str) = decide (ks = ls)
  | [], [] => by simp [PyData.eqvAll]
  | [], _ :: _ => by simp [PyData.eqvAll]
  | _ :: _, [] => by simp [PyData.eqvAll]
  | k :: ks, l :: ls => by
    rw [List.map_cons, List.map_cons, eqv_all_cons, eqv_strs ks ls]
    simp only [PyData.eqv]
    by_cases h : k = l <;> by_cases h' : ks = ls <;> simp [h, h']
theorem eqv_ints : ∀ ks ls : List Nat, PyData.eqvAll (ks.map fun i => PyData.int (i : Nat)) (ls.map fun i => PyData.int (i : Nat)) = decide (ks = ls)
  | [], [] => by simp [PyData.eqvAll]
  | [], _ :: _ => by simp [PyData.eqvAll]
  | _ :: _, [] => by simp [PyData.eqvAll]
  | k :: ks, l :: ls => by
    rw [List.map_cons, List.map_cons, eqv_all_cons, eqv_ints ks ls, eqv_int]
    by_cases h : k = l
    · by_cases h' : ks = ls <;> simp [h, h']
    · have hz : ¬ ((k : Int) = (l : Int)) := by omega
      simp [h, hz]
theorem range_eq (m n : Nat) : decide (List.range m = List.range n) = decide (m = n) := by
  refine decide_eq_decide.mpr ⟨fun h => ?_, fun h => by rw [h]⟩
  have z := congrArg List.length h
  simpa using z
/-- alike of lists, of dicts: the steps, and step by step -/
theorem alk_steps {n : Nat} {a b : D} (h : place a = place b) (hp : ¬ place a < 5) : alk (n + 1) a b = (PyData.eqv (.list (stepsP a)) (.list (stepsP b)) && (List.zipWith (alk n) (inner a) (inner b)).all id) := by
  cases a with
  | lst ds =>
    cases b with
    | lst es =>
      rw [alk_lst]
      show _ = (PyData.eqvAll (stepsP (.lst ds)) (stepsP (.lst es)) && _)
      simp only [stepsP]
      rw [eqv_ints, range_eq]
      rfl
    | bl b => rw [place_bl] at h; cases b <;> simp [place] at h
    | _ => simp [place] at h
  | dct ks ds =>
    cases b with
    | dct ls es =>
      rw [alk_dct]
      show _ = (PyData.eqvAll (stepsP (.dct ks ds)) (stepsP (.dct ls es)) && _)
      simp only [stepsP]
      rw [eqv_strs]
    | bl b => rw [place_bl] at h; cases b <;> simp [place] at h
    | _ => simp [place] at h
  | bl b => exact absurd (by rw [place_bl]; cases b <;> simp) hp
  | non => exact absurd (by simp [place]) hp
  | int i => exact absurd (by simp [place]) hp
  | str x => exact absurd (by simp [place]) hp
end Toy


namespace Toy
open PySem PySem.Spec L2 PyProof.Rows PySem.W
def spAlike (j : Nat) : Sp := fun vs H Q _ => ∃ (v u : V) (n : Nat) (d e : D), n < j ∧ vs = [v, u] ∧ Da n H v d ∧ Da n H u e ∧ ∀ H', Same H H' → Q (.bl (alk n d e)) H'
theorem steps_same {a b : D} (h : place a = place b) (hp : ¬ place a < 5) (e : PyData.eqv (.list (stepsP a)) (.list (stepsP b)) = true) : stepsV a = stepsV b := by
  cases a with
  | lst ds =>
    cases b with
    | lst es =>
      have z : PyData.eqvAll (stepsP (.lst ds)) (stepsP (.lst es)) = true := e
      simp only [stepsP] at z
      rw [eqv_ints, range_eq] at z
      simp only [stepsV, of_decide_eq_true z]
    | bl b => rw [place_bl] at h; cases b <;> simp [place] at h
    | _ => simp [place] at h
  | dct ks ds =>
    cases b with
    | dct ls es =>
      have z : PyData.eqvAll (stepsP (.dct ks ds)) (stepsP (.dct ls es)) = true := e
      simp only [stepsP] at z
      rw [eqv_strs] at z
      simp only [stepsV, of_decide_eq_true z]
    | bl b => rw [place_bl] at h; cases b <;> simp [place] at h
    | _ => simp [place] at h
  | bl b => exact absurd (by rw [place_bl]; cases b <;> simp) hp
  | non => exact absurd (by simp [place]) hp
  | int i => exact absurd (by simp [place]) hp
  | str x => exact absurd (by simp [place]) hp
/-- what the call of one pair of parts wants -/
def AlkQ (j m i : Nat) (D : Addr) (H3 : Hp) (d e : Toy.D) : List V → Hp → Prop := fun vs H4 => ∃ (v' u' : V) (n' : Nat) (a b : Toy.D), n' < j ∧ vs = [v', u'] ∧ Da n' H4 v' a ∧ Da n' H4 u' b ∧ ∀ H'', Same H4 H'' → ∃ acc, H'' D = some (.lst acc) ∧ acc.length < sizeLine ∧ Same H3 (upd H'' D (.lst (acc ++ [.bl (alk n' a b)]))) ∧
              (upd H'' D (.lst (acc ++ [.bl (alk n' a b)]))) D = some (.lst (((List.zipWith (alk m) (inner d) (inner e)).take (i + 1)).map V.bl))
section
variable {P : Program} {w : World} {K : PySem.W.Frag} {mg : Str → Option Value} {base : Heap}
abbrev NA : List Str := ["one", "other", "sort", "steps", "step"]
theorem scAl : FnScope NA ["one", "other"] (defScope sAlike) := ⟨rfl, rfl, rfl, by decide +kernel, rfl, by decide +kernel, by decide +kernel⟩
theorem ok_alike {f fS fT : Addr} {fd fdS fdT : FuncData} (F : Fun K "alike" "alike" sAlike f fd)
    (GS : FnOk P w K mg base CX0 1 fS fdS ["datum"] spSort) (mS : mg "sort_of" = some (.ref fS)) (kS : PySem.W.keepIn K (.ref fS) = true) (bS : Binds K fdS ["datum"] [])
    (GT : FnOk P w K mg base CX0 1 fT fdT ["datum"] spSteps) (mT : mg "steps_into" = some (.ref fT)) (kT : PySem.W.keepIn K (.ref fT) = true) (bT : Binds K fdT ["datum"] [])
    (mF : mg "alike" = some (.ref f)) (kF : PySem.W.keepIn K (.ref f) = true) (bF : Binds K fd ["one", "other"] []) (mA : mg "all" = none) : ∀ j : Nat, FnOk P w K mg base CX0 (j + 6) f fd ["one", "other"] (spAlike j) := by
  intro j
  induction j with
  | zero => exact F.ok (k := 5) scAl (fun vs H Q E h => by obtain ⟨v, u, n, d, e, h0, _⟩ := h; exact absurd h0 (Nat.not_lt_zero _)) (fun cdv A outer s H vs Q E hr h => by obtain ⟨v, u, n, d, e, h0, _⟩ := h; exact absurd h0 (Nat.not_lt_zero _))
  | succ j ih =>
    refine F.ok (k := j + 6) scAl (fun vs H Q E h => ?_) (fun cdv A outer s H vs Q E hr h => ?_)
    · obtain ⟨v, u, n, d, e, _, rfl, _⟩ := h
      rfl
    · obtain ⟨v, u, n, d, e, hnj, rfl, hd, he, q⟩ := h
      have hr1 : Room 1 _ := hr.mono (show 1 ≤ j + 6 by omega)
      have hu := hu_of hr
      refine ⟨_, pss_cons (ps_set (i := 2) scAl.nd rfl (Or.inl rfl) (pe_call GS hr1 (by rfl) mS kS bS .nil pass0 (pa_cons (pv 0) pa_nil)))
        (pss_cons (ps_if (pt_cmpR op_ne (pv 2) (pe_call GS hr1 (by rfl) mS kS bS .nil pass0 (pa_cons (pv 1) pa_nil)) (nomark _)) (pss_one (ps_ret pe_bl)) pss_nil)
        (pss_cons (ps_if (pt_cmpR op_notIn_seq (pv 2) (pe_tup (pa_cons pe_str (pa_cons pe_str pa_nil))) (by rfl)) (pss_one (ps_ret (pe_cmpR (op_eqD hr1.units) (pv 0) (pv 1) (nomark _)))) pss_nil)
        (pss_cons (ps_set (i := 3) scAl.nd rfl (Or.inl rfl) (pe_call GT hr1 (by rfl) mT kT bT .nil pass0 (pa_cons (pv 0) pa_nil)))
        (pss_one (ps_ret (pe_and (pe_cmpR (op_eqD hr1.units) (pv 3) (pe_call GT hr1 (by rfl) mT kT bT .nil pass0 (pa_cons (pv 1) pa_nil)) (nomark _))
          (pe_one (pe_callB (cr_all rfl) (by rfl) mA (by decide +kernel) (pa_cons (pe_lc (own := [("step", 4)]) (g := gName 4) (te := tCall (spAlike j) [] E0 (tCons (tEither (tOp (rIxL K) (tVar 0) (tVar 4)) (tDGet (tVar 0) (tVar 4))) (tCons (tEither (tOp (rIxL K) (tVar 1) (tVar 4)) (tDGet (tVar 1) (tVar 4))) tNil))) (by rfl) scAl.nd (pi_list (pv 3))
            (blkOk_by (own := [("step", 4)]) (N := NA) (sc := defScope sAlike) (by decide +kernel)) (fun _ _ _ _ _ => pg_name (i := 4) scAl.nd rfl (Or.inl rfl)) (fun _ _ _ _ _ => pts_nil)
            (fun _ _ _ _ _ => pe_call ih hr (by rfl) mF kF bF .nil pass0 (pa_cons (pe_either (pe_ix ix_list (pv 0) (pv 4) (fun _ _ => rfl)) (pe_dget hu (pv 0) (pv 4) (fun _ _ => rfl))) (pa_cons (pe_either (pe_ix ix_list (pv 1) (pv 4) (fun _ _ => rfl)) (pe_dget hu (pv 1) (pv 4) (fun _ _ => rfl))) pa_nil)))) pa_nil))))))))), ?_⟩
      refine ⟨_, rfl, v, n, d, rfl, hd, ?_⟩
      refine ⟨_, rfl, _, rfl, u, n, e, rfl, he, ?_⟩
      refine ⟨rfl, _, rfl, ?_⟩
      have es : decide (V.str (sortS d) = V.str (sortS e)) = decide (place d = place e) := by
        rw [← sort_eq]
        exact decide_eq_decide.mpr ⟨V.str.inj, fun z => by rw [z]⟩
      rw [es]
      by_cases hp : place d = place e
      case neg =>
        rw [decide_eq_false hp]
        have z := q H (fun _ _ z => z)
        rw [alk_other hp] at z
        exact iteT z
      rw [decide_eq_true hp]
      refine iteF ⟨_, rfl, few (by show 2 ≤ 1000; decide), fun t nt => ⟨t, _, rfl, .inr (SqT.of upd_same), rfl, rfl, _, rfl, ?_⟩⟩
      have s1 : Same H (upd H t (.tup [.str "list", .str "dict"])) := same_new (fun _ _ z => z) nt
      generalize upd H t (.tup [.str "list", .str "dict"]) = H1 at s1 ⊢
      have inn : (!inV (V.str (sortS d)) [V.str "list", V.str "dict"]) = decide (place d < 5) := by
        rw [sort_place]
        have r := place_le d
        generalize place d = i at r
        have ei : i = 0 ∨ i = 1 ∨ i = 2 ∨ i = 3 ∨ i = 4 ∨ i = 5 ∨ i = 6 := by omega
        rcases ei with rfl | rfl | rfl | rfl | rfl | rfl | rfl <;> decide +kernel
      rw [if_pos rfl, inn]
      have hd1 := hd.mono s1 (Nat.le_refl _)
      have he1 := he.mono s1 (Nat.le_refl _)
      by_cases h5 : place d < 5
      · rw [decide_eq_true h5]
        obtain ⟨d1, d2⟩ := leaf_dp (K := K) hd1 h5
        obtain ⟨e1, e2⟩ := leaf_dp (K := K) he1 (hp ▸ h5)
        refine iteT ⟨_, rfl, _, rfl, _, _, d1, e1, d2, e2, ?_⟩
        rw [leaf_alk hp h5]
        exact q H1 s1
      rw [decide_eq_false h5]
      obtain ⟨m, rfl⟩ : ∃ m, n = m + 1 := by
        cases n with
        | zero =>
          cases d with
          | lst ds => simp only [Da] at hd
          | dct ks ds => simp only [Da] at hd
          | bl b => exact absurd (by rw [place_bl]; cases b <;> simp) h5
          | non => exact absurd (by simp [place]) h5
          | int i => exact absurd (by simp [place]) h5
          | str x => exact absurd (by simp [place]) h5
        | succ m => exact ⟨m, rfl⟩
      obtain ⟨us1, in1, lu1, l20, sub1⟩ := sub_read (K := K) hd
      obtain ⟨us2, in2, lu2, l20', sub2⟩ := sub_read (K := K) he
      refine iteF ⟨_, rfl, v, m + 1, d, rfl, hd1, fun H2 R s2 nR hR => ?_⟩
      refine ⟨_, rfl, _, rfl, u, m + 1, e, rfl, he1.mono s2 (Nat.le_refl _), fun H3 R' s3 nR' hR' => ⟨.list (stepsP d), .list (stepsP e), .lst (SqL.of (s3 _ _ hR)) (steps_dp d), .lst (SqL.of hR') (steps_dp e), steps_shaped hd, steps_shaped he, _, rfl, ?_⟩⟩
      have ak := alk_steps (n := m) hp h5
      cases hc : PyData.eqv (.list (stepsP d)) (.list (stepsP e)) with
      | false =>
        rw [hc, Bool.false_and] at ak
        have z := q H3 ((s1.trans s2).trans s3)
        rw [ak] at z
        exact iteF z
      | true =>
        rw [hc, Bool.true_and] at ak
        have same := steps_same hp h5 hc
        have l12 : (inner d).length = (inner e).length := by rw [← in1.len, ← in2.len, lu1, lu2, same]
        refine iteT ⟨_, rfl, R, rfl, ⟨_, SqL.of (s3 _ _ hR)⟩, fun D nD => ?_⟩
        refine lc_list (K := K) (a := R) (xs := stepsV d) (fun i H' => Same H3 H' ∧ H' D = some (.lst (((List.zipWith (alk m) (inner d) (inner e)).take i).map V.bl))) ⟨same_new (fun _ _ z => z) nD, by rw [upd_same]; rfl⟩ ?_ ?_ ?_
        · rintro i H' _ ⟨s4, _⟩
          exact SqL.of (s4 _ _ (s3 _ _ hR))
        · rintro i x H' hx ⟨s4, hD⟩
          have sH : Same H H' := ((s1.trans s2).trans s3).trans s4
          have hi : i < (stepsV d).length := by
            rcases Nat.lt_or_ge i (stepsV d).length with z | z
            · exact z
            · rw [List.getElem?_eq_none (by omega)] at hx
              cases hx
          have i1 : i < us1.length := by omega
          have i2 : i < us2.length := by rw [lu2, ← same]; exact hi
          obtain ⟨d', g1, r1⟩ := paired_get (show Paired (fun x z => Da m H x z) us1 (inner d) from in1) i us1[i] (List.getElem?_eq_getElem i1)
          obtain ⟨e', g2, r2⟩ := paired_get (show Paired (fun x z => Da m H x z) us2 (inner e) from in2) i us2[i] (List.getElem?_eq_getElem i2)
          refine ⟨rfl, ?_⟩
          have fin : AlkQ j m i D H3 d e [us1[i], us2[i]] H' := by
            refine ⟨_, _, m, d', e', by omega, rfl, r1.mono sH (Nat.le_refl _), r2.mono sH (Nat.le_refl _), fun H'' s5 => ⟨_, s5 _ _ hD, small1000 (by rw [List.length_map, List.length_take]; omega), fun b o z => ?_, ?_⟩⟩
            · rw [upd_ne (ne_of_none z nD)]
              exact s5 _ _ (s4 _ _ z)
            · rw [upd_same, List.take_add_one, show (List.zipWith (alk m) (inner d) (inner e))[i]? = some (alk m d' e') by rw [List.getElem?_zipWith, g1, g2]]
              simp
          have step2 : tEither (tOp (rIxL K) (tVar 1) (tVar 4)) (tDGet (tVar 1) (tVar 4)) [some v, some u, some (.str (sortS d)), some (.ref R), some x] H' fun y H4 => AlkQ j m i D H3 d e [us1[i], y] H4 := by
            rcases sub2 i x us2[i] (same ▸ hx) (List.getElem?_eq_getElem i2) H' (fun y H4 => AlkQ j m i D H3 d e [us1[i], y] H4) sH fin with z | z
            · exact .inl ⟨_, rfl, _, rfl, z⟩
            · exact .inr ⟨_, rfl, _, rfl, z⟩
          rcases sub1 i x us1[i] hx (List.getElem?_eq_getElem i1) H' (fun x1 H4 => tEither (tOp (rIxL K) (tVar 1) (tVar 4)) (tDGet (tVar 1) (tVar 4)) [some v, some u, some (.str (sortS d)), some (.ref R), some x] H4 fun y H5 => AlkQ j m i D H3 d e [x1, y] H5) sH step2 with z | z
          · exact .inl ⟨_, rfl, _, rfl, z⟩
          · exact .inr ⟨_, rfl, _, rfl, z⟩
        · rintro H' ⟨s4, hD⟩
          have lz : (List.zipWith (alk m) (inner d) (inner e)).length = (stepsV d).length := by rw [List.length_zipWith, ← l12, Nat.min_self, ← in1.len, lu1]
          rw [← lz, List.take_length] at hD
          have z := q H' (((s1.trans s2).trans s3).trans s4)
          rw [ak] at z
          exact ⟨D, _, rfl, SqL.of hD, z⟩
end
end Toy


namespace Toy
open PySem PySem.Spec L2 PyProof.Rows PySem.W
abbrev sLSort : Stmt := top 16
abbrev sLKeys : Stmt := top 17
def spLSort : Sp := fun vs H Q _ => ∃ (v : V) (n : Nat) (d : D), vs = [v] ∧ Da n H v d ∧ ∀ H', Same H H' → Q (.str (sortS d)) H'
section
variable {P : Program} {w : World} {K : PySem.W.Frag} {mg : Str → Option Value} {base : Heap}
theorem kit_none {t : Value} : PySem.W.kitAny K t [] = some false := rfl
theorem kit_2 {t a b : Value} {x y r : Bool} (h1 : PySem.W.kitOne K t a = some x) (h2 : PySem.W.kitOne K t b = some y) (hr : r = (x || y)) : PySem.W.kitAny K t [a, b] = some r := by
  subst hr
  refine kitAny_cons h1 (fun e => ?_) (fun e => by rw [e]; rfl)
  rw [e]
  refine kitAny_cons h2 (fun e2 => ?_) (fun e2 => by rw [e2]; rfl)
  rw [e2]
  exact kit_none
theorem scLS : FnScope ["_law_datum_here"] ["_law_datum_here"] (defScope sLSort) := ⟨rfl, rfl, rfl, by decide +kernel, rfl, by decide +kernel, by decide +kernel⟩
theorem scLK : FnScope ["_law_datum_here"] ["_law_datum_here"] (defScope sLKeys) := ⟨rfl, rfl, rfl, by decide +kernel, rfl, by decide +kernel, by decide +kernel⟩
theorem ok_lsort {f : Addr} {fd : FuncData} (F : Fun K "_law_sort" "_law_sort" sLSort f fd) (mI : mg "isinstance" = none) (mB : mg "bool" = none) (mN : mg "int" = none) (mS : mg "str" = none) (mL : mg "list" = none) : FnOk P w K mg base CX0 1 f fd ["_law_datum_here"] spLSort := by
  refine F.ok scLS (fun vs H Q E h => ?_) (fun cdv A outer s H vs Q E hr h => ?_)
  · obtain ⟨v, n, d, rfl, _⟩ := h
    rfl
  · obtain ⟨v, n, d, rfl, hd, q⟩ := h
    refine ⟨_, pss_cons (ps_if (pt_cmpR op_isN (pv 0) pe_non (nomark _)) (pss_one (ps_ret pe_str)) pss_nil)
      (pss_cons (ps_if (pt_val (pe_callB call_isi (by rfl) mI PyProof.Rows.boot_isinstance (pa_cons (pv 0) (pa_cons (pe_bltn (v := .ty "bool") (by rfl) mB (by decide +kernel) rfl) pa_nil)))) (pss_one (ps_ret (pe_ifExp (pt_val (pv 0)) pe_str pe_str))) pss_nil)
      (pss_cons (ps_if (pt_val (pe_callB call_isiT (by rfl) mI PyProof.Rows.boot_isinstance (pa_cons (pv 0) (pa_cons (pe_tup (pa_cons (pe_bltn (v := .ty "int") (by rfl) mN (by decide +kernel) rfl) (pa_cons (pe_bltn (v := .ty "str") (by rfl) mS (by decide +kernel) rfl) pa_nil))) pa_nil)))) 
          (pss_one (ps_ret (pe_ifExp (pt_val (pe_callB call_isi (by rfl) mI PyProof.Rows.boot_isinstance (pa_cons (pv 0) (pa_cons (pe_bltn (v := .ty "int") (by rfl) mN (by decide +kernel) rfl) pa_nil)))) pe_str pe_str))) pss_nil)
      (pss_one (ps_ret (pe_ifExp (pt_val (pe_callB call_isi (by rfl) mI PyProof.Rows.boot_isinstance (pa_cons (pv 0) (pa_cons (pe_bltn (v := .ty "list") (by rfl) mL (by decide +kernel) rfl) pa_nil)))) pe_str pe_str))))), ?_⟩
    have nn := non_iff hd
    refine ⟨_, rfl, rfl, _, rfl, ?_⟩
    rw [nn]
    have s0 : Same H H := fun _ _ z => z
    cases d with
    | non => exact iteT (q H s0)
    | bl b =>
      have ty : TyX K H v (.type "bool") := ty_of hd
      have hv : v = .bl b := by cases n <;> simpa only [Da] using hd
      subst hv
      refine iteF ⟨_, rfl, _, _, _, _, true, rfl, .ty _, ty, kit_ty (by decide +kernel), _, rfl, iteT ⟨_, rfl, b, rfl, ?_⟩⟩
      cases b with
      | true => exact iteT (q H s0)
      | false => exact iteF (q H s0)
    | int i =>
      have ty : TyX K H v (.type "int") := ty_of hd
      refine iteF ⟨_, rfl, _, _, _, _, false, rfl, .ty _, ty, kit_ty (by decide +kernel), _, rfl, iteF ⟨_, rfl, few (by show 2 ≤ 1000; decide), fun t nt => ?_⟩⟩
      have s1 := same_new (u := .tup [.ty "int", .ty "str"]) s0 nt
      have ty1 : TyX K (upd H t (.tup [.ty "int", .ty "str"])) v (.type "int") := ty_of (hd.mono s1 (Nat.le_refl _))
      exact ⟨_, t, _, _, [.type "int", .type "str"], true, rfl, upd_same, .cons (.ty _) (.cons (.ty _) .nil), ty1, kit_2 (x := true) (y := false) (kit_ty (by decide +kernel)) (kit_ty (by decide +kernel)) rfl, _, rfl, iteT ⟨_, rfl, _, _, _, _, true, rfl, .ty _, ty1, kit_ty (by decide +kernel), _, rfl, iteT (q _ s1)⟩⟩
    | str x =>
      have ty : TyX K H v (.type "str") := ty_of hd
      refine iteF ⟨_, rfl, _, _, _, _, false, rfl, .ty _, ty, kit_ty (by decide +kernel), _, rfl, iteF ⟨_, rfl, few (by show 2 ≤ 1000; decide), fun t nt => ?_⟩⟩
      have s1 := same_new (u := .tup [.ty "int", .ty "str"]) s0 nt
      have ty1 : TyX K (upd H t (.tup [.ty "int", .ty "str"])) v (.type "str") := ty_of (hd.mono s1 (Nat.le_refl _))
      exact ⟨_, t, _, _, [.type "int", .type "str"], true, rfl, upd_same, .cons (.ty _) (.cons (.ty _) .nil), ty1, kit_2 (x := false) (y := true) (kit_ty (by decide +kernel)) (kit_ty (by decide +kernel)) rfl, _, rfl, iteT ⟨_, rfl, _, _, _, _, false, rfl, .ty _, ty1, kit_ty (by decide +kernel), _, rfl, iteF (q _ s1)⟩⟩
    | lst ds =>
      have ty : TyX K H v (.type "list") := ty_of hd
      refine iteF ⟨_, rfl, _, _, _, _, false, rfl, .ty _, ty, kit_ty (by decide +kernel), _, rfl, iteF ⟨_, rfl, few (by show 2 ≤ 1000; decide), fun t nt => ?_⟩⟩
      have s1 := same_new (u := .tup [.ty "int", .ty "str"]) s0 nt
      have ty1 : TyX K (upd H t (.tup [.ty "int", .ty "str"])) v (.type "list") := ty_of (hd.mono s1 (Nat.le_refl _))
      exact ⟨_, t, _, _, [.type "int", .type "str"], false, rfl, upd_same, .cons (.ty _) (.cons (.ty _) .nil), ty1, kit_2 (x := false) (y := false) (kit_ty (by decide +kernel)) (kit_ty (by decide +kernel)) rfl, _, rfl, iteF ⟨_, rfl, _, _, _, _, true, rfl, .ty _, ty1, kit_ty (by decide +kernel), _, rfl, iteT (q _ s1)⟩⟩
    | dct ks ds =>
      have ty : TyX K H v (.type "dict") := ty_of hd
      refine iteF ⟨_, rfl, _, _, _, _, false, rfl, .ty _, ty, kit_ty (by decide +kernel), _, rfl, iteF ⟨_, rfl, few (by show 2 ≤ 1000; decide), fun t nt => ?_⟩⟩
      have s1 := same_new (u := .tup [.ty "int", .ty "str"]) s0 nt
      have ty1 : TyX K (upd H t (.tup [.ty "int", .ty "str"])) v (.type "dict") := ty_of (hd.mono s1 (Nat.le_refl _))
      exact ⟨_, t, _, _, [.type "int", .type "str"], false, rfl, upd_same, .cons (.ty _) (.cons (.ty _) .nil), ty1, kit_2 (x := false) (y := false) (kit_ty (by decide +kernel)) (kit_ty (by decide +kernel)) rfl, _, rfl, iteF ⟨_, rfl, _, _, _, _, false, rfl, .ty _, ty1, kit_ty (by decide +kernel), _, rfl, iteF (q _ s1)⟩⟩
theorem ok_lkeys {f : Addr} {fd : FuncData} (F : Fun K "_law_keys" "_law_keys" sLKeys f fd) (mI : mg "isinstance" = none) (mL : mg "list" = none) (mD : mg "dict" = none) (mR : mg "range" = none) (mLen : mg "len" = none) (mS : mg "sorted" = none) : FnOk P w K mg base CX0 1 f fd ["_law_datum_here"] spSteps := by
  refine F.ok scLK (fun vs H Q E h => ?_) (fun cdv A outer s H vs Q E hr h => ?_)
  · obtain ⟨v, n, d, rfl, _⟩ := h
    rfl
  · obtain ⟨v, n, d, rfl, hd, q⟩ := h
    refine ⟨_, pss_cons (ps_if (pt_val (pe_callB call_isi (by rfl) mI PyProof.Rows.boot_isinstance (pa_cons (pv 0) (pa_cons (pe_bltn (v := .ty "dict") (by rfl) mD (by decide +kernel) rfl) pa_nil))))
        (pss_one (ps_ret (pe_callB (call_sortedD rfl) (by rfl) mS (by decide +kernel) (pa_cons (pv 0) pa_nil)))) pss_nil)
      (pss_one (ps_ret (pe_ifExp (pt_val (pe_callB call_isi (by rfl) mI PyProof.Rows.boot_isinstance (pa_cons (pv 0) (pa_cons (pe_bltn (v := .ty "list") (by rfl) mL (by decide +kernel) rfl) pa_nil)))) (pe_listRg (by rfl) (by rfl) mL (prg_1 (by rfl) mR (pe_callB call_len_seq (by rfl) mLen PySem.boot_len (pa_cons (pv 0) pa_nil)))) (pe_lst pa_nil)))), ?_⟩
    have lens : ∀ {m : Nat} {us : List V} {ds : List D}, Paired (fun x d => Da m H x d) us ds → us.length = ds.length := fun p => p.length
    cases d with
    | non =>
      have ty : TyX K H v (.type "NoneType") := ty_of hd
      exact ⟨_, rfl, _, _, _, _, false, rfl, .ty _, ty, kit_ty (by decide +kernel), _, rfl, iteF ⟨_, rfl, _, _, _, _, false, rfl, .ty _, ty, kit_ty (by decide +kernel), _, rfl, iteF ⟨Nat.zero_le _, fun R nR => q _ R (same_new (fun _ _ z => z) nR) nR upd_same⟩⟩⟩
    | bl b =>
      have ty : TyX K H v (.type "bool") := ty_of hd
      exact ⟨_, rfl, _, _, _, _, false, rfl, .ty _, ty, kit_ty (by decide +kernel), _, rfl, iteF ⟨_, rfl, _, _, _, _, false, rfl, .ty _, ty, kit_ty (by decide +kernel), _, rfl, iteF ⟨Nat.zero_le _, fun R nR => q _ R (same_new (fun _ _ z => z) nR) nR upd_same⟩⟩⟩
    | int i =>
      have ty : TyX K H v (.type "int") := ty_of hd
      exact ⟨_, rfl, _, _, _, _, false, rfl, .ty _, ty, kit_ty (by decide +kernel), _, rfl, iteF ⟨_, rfl, _, _, _, _, false, rfl, .ty _, ty, kit_ty (by decide +kernel), _, rfl, iteF ⟨Nat.zero_le _, fun R nR => q _ R (same_new (fun _ _ z => z) nR) nR upd_same⟩⟩⟩
    | str x =>
      have ty : TyX K H v (.type "str") := ty_of hd
      exact ⟨_, rfl, _, _, _, _, false, rfl, .ty _, ty, kit_ty (by decide +kernel), _, rfl, iteF ⟨_, rfl, _, _, _, _, false, rfl, .ty _, ty, kit_ty (by decide +kernel), _, rfl, iteF ⟨Nat.zero_le _, fun R nR => q _ R (same_new (fun _ _ z => z) nR) nR upd_same⟩⟩⟩
    | lst ds =>
      have ty : TyX K H v (.type "list") := ty_of hd
      cases n with
      | zero => simp only [Da] at hd
      | succ n =>
        simp only [Da] at hd
        obtain ⟨a, xs, rfl, h2, h3, h4⟩ := hd
        have e := lens h4
        refine ⟨_, rfl, _, _, _, _, false, rfl, .ty _, ty, kit_ty (by decide +kernel), _, rfl, iteF ⟨_, rfl, _, _, _, _, true, rfl, .ty _, ty, kit_ty (by decide +kernel), _, rfl, iteT ⟨_, rfl, a, xs, rfl, .inl (SqL.of h2), _, rfl, RgOk.of_le (by omega) (by omega) (by omega) (by omega), fun R nR => q _ R (same_new (fun _ _ z => z) nR) nR ?_⟩⟩⟩
        rw [upd_same, rg_nat, e]
        rfl
    | dct ks ds =>
      have ty : TyX K H v (.type "dict") := ty_of hd
      cases n with
      | zero => simp only [Da] at hd
      | succ n =>
        simp only [Da] at hd
        obtain ⟨a, us, rfl, h2, h3, h4, h5, h6, h7⟩ := hd
        refine ⟨_, rfl, _, _, _, _, true, rfl, .ty _, ty, kit_ty (by decide +kernel), _, rfl, iteT ⟨_, rfl, a, _, ks, rfl, .inl h2, kv_keys h4, by omega, fun ys R p1 p2 nR => q _ R (same_new (fun _ _ z => z) nR) nR ?_⟩⟩
        rw [upd_same, skeys_uniq p1 p2]
        rfl
end
end Toy


namespace Toy
open PySem PySem.Spec L2 PyProof.Rows PySem.W
abbrev sTurn : Stmt := top 19
abbrev NT : List Str := ["_law_datum_here", "_law_key", "_law_part"]
/-- behind the call stands some datum, of new lists and dicts and of the leaves -/
def spTurn (j : Nat) : Sp := fun vs H Q _ => ∃ (v : V) (n : Nat) (d : D), n < j ∧ vs = [v] ∧ Da n H v d ∧ ∀ H' v' d', Same H H' → Da n (newH H H') v' d' → Q v' H'
section
variable {P : Program} {w : World} {K : PySem.W.Frag} {mg : Str → Option Value} {base : Heap}
theorem scTu : FnScope NT ["_law_datum_here"] (defScope sTurn) := ⟨rfl, rfl, rfl, by decide +kernel, rfl, by decide +kernel, by decide +kernel⟩
theorem ok_turn {f : Addr} {fd : FuncData} (F : Fun K "_law_turned" "_law_turned" sTurn f fd) (mF : mg "_law_turned" = some (.ref f)) (kF : PySem.W.keepIn K (.ref f) = true) (bF : Binds K fd ["_law_datum_here"] []) (mI : mg "isinstance" = none) (mL : mg "list" = none) (mD : mg "dict" = none) (mS : mg "sorted" = none) :
    ∀ j : Nat, FnOk P w K mg base CX0 (j + 3) f fd ["_law_datum_here"] (spTurn j) := by
  intro j
  induction j with
  | zero => exact F.ok (k := 2) scTu (fun vs H Q E h => by obtain ⟨v, n, d, h0, _⟩ := h; exact absurd h0 (Nat.not_lt_zero _)) (fun cdv A outer s H vs Q E hr h => by obtain ⟨v, n, d, h0, _⟩ := h; exact absurd h0 (Nat.not_lt_zero _))
  | succ j ih =>
    refine F.ok (k := j + 3) scTu (fun vs H Q E h => ?_) (fun cdv A outer s H vs Q E hr h => ?_)
    · obtain ⟨v, n, d, _, rfl, _⟩ := h
      rfl
    · obtain ⟨v, n, d, hnj, rfl, hd, q⟩ := h
      have hu := hu_of hr
      refine ⟨_, pss_cons (ps_if (pt_val (pe_callB call_isi (by rfl) mI PyProof.Rows.boot_isinstance (pa_cons (pv 0) (pa_cons (pe_bltn (v := .ty "dict") (by rfl) mD (by decide +kernel) rfl) pa_nil))))
          (pss_one (ps_ret (pe_callTy (call_dictP rfl) (by rfl) mD (by decide +kernel) (pa_cons (pe_lc (own := [("_law_key", 1)]) (g := gName 1) (by rfl) scTu.nd (pi_list (pe_revL (pe_callB (call_sortedD rfl) (by rfl) mS (by decide +kernel) (pa_cons (pv 0) pa_nil))))
            (blkOk_by (own := [("_law_key", 1)]) (N := NT) (sc := defScope sTurn) (by decide +kernel)) (fun _ _ _ _ _ => pg_name (i := 1) scTu.nd rfl (Or.inl rfl)) (fun _ _ _ _ _ => pts_nil)
            (fun _ _ _ _ _ => pe_tup (pa_cons (pv 1) (pa_cons (pe_call ih hr (by rfl) mF kF bF .nil pass0 (pa_cons (pe_dget hu (pv 0) (pv 1) (fun _ _ => rfl)) pa_nil)) pa_nil)))) pa_nil)))) pss_nil)
        (pss_one (ps_ret (pe_ifExp (pt_val (pe_callB call_isi (by rfl) mI PyProof.Rows.boot_isinstance (pa_cons (pv 0) (pa_cons (pe_bltn (v := .ty "list") (by rfl) mL (by decide +kernel) rfl) pa_nil)))) (pe_lc (own := [("_law_part", 2)]) (g := gName 2) (by rfl) scTu.nd (pi_list (pv 0))
            (blkOk_by (own := [("_law_part", 2)]) (N := NT) (sc := defScope sTurn) (by decide +kernel)) (fun _ _ _ _ _ => pg_name (i := 2) scTu.nd rfl (Or.inl rfl)) (fun _ _ _ _ _ => pts_nil)
            (fun _ _ _ _ _ => pe_call ih hr (by rfl) mF kF bF .nil pass0 (pa_cons (pv 2) pa_nil))) (pv 0)))), ?_⟩
      have s0 : Same H H := fun _ _ z => z
      cases d with
      | non =>
        have ty : TyX K H v (.type "NoneType") := ty_of hd
        exact ⟨_, rfl, _, _, _, _, false, rfl, .ty _, ty, kit_ty (by decide +kernel), _, rfl, iteF ⟨_, rfl, _, _, _, _, false, rfl, .ty _, ty, kit_ty (by decide +kernel), _, rfl, iteF ⟨_, rfl, q H v .non s0 (by cases n <;> simpa only [Da] using hd)⟩⟩⟩
      | bl b =>
        have ty : TyX K H v (.type "bool") := ty_of hd
        exact ⟨_, rfl, _, _, _, _, false, rfl, .ty _, ty, kit_ty (by decide +kernel), _, rfl, iteF ⟨_, rfl, _, _, _, _, false, rfl, .ty _, ty, kit_ty (by decide +kernel), _, rfl, iteF ⟨_, rfl, q H v (.bl b) s0 (by cases n <;> simpa only [Da] using hd)⟩⟩⟩
      | int i =>
        have ty : TyX K H v (.type "int") := ty_of hd
        exact ⟨_, rfl, _, _, _, _, false, rfl, .ty _, ty, kit_ty (by decide +kernel), _, rfl, iteF ⟨_, rfl, _, _, _, _, false, rfl, .ty _, ty, kit_ty (by decide +kernel), _, rfl, iteF ⟨_, rfl, q H v (.int i) s0 (by cases n <;> simpa only [Da] using hd)⟩⟩⟩
      | str x =>
        have ty : TyX K H v (.type "str") := ty_of hd
        exact ⟨_, rfl, _, _, _, _, false, rfl, .ty _, ty, kit_ty (by decide +kernel), _, rfl, iteF ⟨_, rfl, _, _, _, _, false, rfl, .ty _, ty, kit_ty (by decide +kernel), _, rfl, iteF ⟨_, rfl, q H v (.str x) s0 (by cases n <;> simpa only [Da] using hd)⟩⟩⟩
      | lst ds =>
        have ty : TyX K H v (.type "list") := ty_of hd
        cases n with
        | zero => simp only [Da] at hd
        | succ k =>
          simp only [Da] at hd
          obtain ⟨a, xs, rfl, h2, h3, h4⟩ := hd
          refine ⟨_, rfl, _, _, _, _, false, rfl, .ty _, ty, kit_ty (by decide +kernel), _, rfl, iteF ⟨_, rfl, _, _, _, _, true, rfl, .ty _, ty, kit_ty (by decide +kernel), _, rfl, iteT ⟨_, rfl, a, rfl, ⟨_, SqL.of h2⟩, fun D nD => ?_⟩⟩⟩
          have naD : a ≠ D := ne_of_none h2 nD
          refine lc_list (K := K) (a := a) (xs := xs) (fun i H' => ∃ acc es, H' D = some (.lst acc) ∧ acc.length = i ∧ Same H H' ∧ Dom (upd H D (.lst [])) H' ∧ Paired (fun x z => Da k (newH (upd H D (.lst [])) H') x z) acc es)
            ⟨[], [], upd_same, rfl, same_new s0 nD, Dom.refl, .nil⟩ ?_ ?_ ?_
          · rintro i H' _ ⟨acc, es, _, _, s3, _⟩
            exact SqL.of (s3 _ _ h2)
          · rintro i x H3 hx ⟨acc, es, hD3, lacc, s3, dom3, pr⟩
            obtain ⟨dx, _, rx⟩ := paired_get h4 i x hx
            have hi : i < xs.length := by
              rcases Nat.lt_or_ge i xs.length with z | z
              · exact z
              · rw [List.getElem?_eq_none z] at hx
                cases hx
            refine ⟨rfl, _, rfl, x, k, dx, by omega, rfl, rx.mono s3 (Nat.le_refl _), fun H4 v dt s4 q4 => ?_⟩
            have hD4 : H4 D = some (.lst acc) := s4 _ _ hD3
            refine ⟨acc, hD4, small1000 (by omega), acc ++ [v], es ++ [dt], upd_same, by rw [List.length_append, lacc]; rfl, ?_, ?_, ?_⟩
            · intro b o ho
              rw [upd_ne (ne_of_none ho nD)]
              exact s4 _ _ (s3 _ _ ho)
            · exact Dom.upd (dom3.trans (Dom.same s4))
            · have keepD : ∀ b o, H3 b = none → H4 b = some o → (upd H4 D (.lst (acc ++ [v]))) b = some o := fun b o h1 h2 => by
                rw [upd_ne (fun z => by rw [z, hD3] at h1; cases h1)]
                exact h2
              refine Paired.snoc (paired_mono (new_le Dom.refl fun b o h1 h2 => ?_) (Nat.le_refl _) pr) (q4.mono (new_le dom3 keepD) (Nat.le_refl _))
              have hbD : b ≠ D := fun z => by rw [z, upd_same] at h1; cases h1
              rw [upd_ne hbD]
              exact s4 _ _ h2
          · rintro H3 ⟨acc, es, hD3, lacc, s3, dom3, pr⟩
            refine q H3 (.ref D) (.lst es) s3 ?_
            simp only [Da]
            exact ⟨D, acc, rfl, newH_some.mpr ⟨nD, hD3⟩, by omega, paired_mono (new_le (Dom.upd Dom.refl) fun b o _ h => h) (Nat.le_refl _) pr⟩
      | dct ks ds =>
        have ty : TyX K H v (.type "dict") := ty_of hd
        cases n with
        | zero => simp only [Da] at hd
        | succ k =>
          simp only [Da] at hd
          obtain ⟨a, us0, rfl, h2, h3, h4, h5, h6, h7⟩ := hd
          refine ⟨_, rfl, _, _, _, _, true, rfl, .ty _, ty, kit_ty (by decide +kernel), _, rfl, iteT ⟨_, rfl, a, _, ks, rfl, .inl h2, kv_keys h4, by omega, fun ys R0 p1 p2 nR0 => ⟨R0, _, rfl, SqL.of upd_same, fun S nS => ?_⟩⟩⟩
          rw [← List.map_reverse]
          generalize hrk : ys.reverse = rk
          have perm : rk.Perm ks := by rw [← hrk]; exact (List.reverse_perm ys).trans p1
          have lrk : rk.length ≤ 20 := by rw [perm.length_eq]; exact h3
          have ndrk : rk.Nodup := perm.nodup_iff.mpr h5
          have okrk : ∀ z ∈ rk, PyData.strOk z = true := fun z hz => h6 z (perm.mem_iff.mp hz)
          have lk := look_at h7 h4
          have sS : Same H (upd (upd H R0 (.lst (ys.map V.str))) S (.lst (rk.map V.str))) := same_new (same_new s0 nR0) nS
          generalize hHS : upd (upd H R0 (.lst (ys.map V.str))) S (.lst (rk.map V.str)) = HS at sS ⊢
          have hS : HS S = some (.lst (rk.map V.str)) := by rw [← hHS]; exact upd_same
          refine ⟨S, rfl, ⟨_, SqL.of hS⟩, fun D nD => ?_⟩
          have domD : Dom H (upd HS D (.lst [])) := Dom.upd (Dom.same sS)
          refine lc_list (K := K) (a := S) (xs := rk.map V.str) (fun i H' => ∃ (ts : List Addr) (us : List V) (es : List Toy.D), H' D = some (.lst (ts.map V.ref)) ∧ us.length = i ∧ ts.length = i ∧ Same HS H' ∧ Dom (upd HS D (.lst [])) H' ∧ Paired (fun t kv => H' t = some (.tup [kV kv.1, kv.2])) ts (kvOf (rk.take i) us) ∧ Paired (fun x z => Da k (newH (upd HS D (.lst [])) H') x z) us es)
            ⟨[], [], [], upd_same, rfl, rfl, same_new (fun _ _ z => z) nD, Dom.refl, by simp [kvOf]; exact .nil, .nil⟩ ?_ ?_ ?_
          · rintro i H' _ ⟨ts, us, es, _, _, _, s4, _⟩
            exact SqL.of (s4 _ _ hS)
          · rintro i x H4 hx ⟨ts, us, es, hD4, lus, lts, s4, dom4, pt, pr⟩
            obtain ⟨key, hk1, rfl⟩ : ∃ key, rk[i]? = some key ∧ V.str key = x := by simpa using hx
            have hi : i < rk.length := by
              rcases Nat.lt_or_ge i rk.length with z | z
              · exact z
              · rw [List.getElem?_eq_none z] at hk1
                cases hk1
            obtain ⟨u0, e1, e2⟩ := lk key (perm.mem_iff.mp (List.mem_of_getElem? hk1))
            have dg : DGet H4 a (.str key) (some u0) := by
              have z := DGet.k (k := Sum.inr key) (s4 _ _ (sS _ _ h2))
              rw [e1] at z
              exact z
            refine ⟨rfl, _, rfl, _, rfl, _, rfl, a, u0, rfl, dg, u0, k, _, by omega, rfl, e2.mono (sS.trans s4) (Nat.le_refl _), fun H5 v dt s5 q5 => ⟨few (by show 2 ≤ 1000; decide), fun T nT => ?_⟩⟩
            have hD5 : H5 D = some (.lst (ts.map V.ref)) := s5 _ _ hD4
            have nDT : D ≠ T := ne_of_none hD5 nT
            have keep : ∀ b o, b ≠ D → H4 b = some o → (upd (upd H5 T (.tup [.str key, v])) D (.lst (ts.map V.ref ++ [.ref T]))) b = some o := fun b o h2 h3 => by
              have z := s5 _ _ h3
              rw [upd_ne h2, upd_ne (ne_of_none z nT)]
              exact z
            refine ⟨ts.map V.ref, (upd_ne nDT).trans hD5, small1000 (by rw [List.length_map]; omega), ts ++ [T], us ++ [v], es ++ [dt], by rw [upd_same, List.map_append]; rfl, by rw [List.length_append, lus]; rfl, by rw [List.length_append, lts]; rfl, ?_, ?_, ?_, ?_⟩
            · intro b o ho
              exact keep b o (ne_of_none ho nD) (s4 _ _ ho)
            · exact Dom.upd (Dom.upd (dom4.trans (Dom.same s5)))
            · have ek : kvOf (rk.take (i + 1)) (us ++ [v]) = kvOf (rk.take i) us ++ [(Sum.inr key, v)] := by
                unfold kvOf
                rw [List.take_add_one, hk1, Option.toList_some, List.zip_append (by rw [List.length_take, lus]; omega), List.map_append]
                rfl
              rw [ek]
              refine Paired.snoc (L2.Paired.mapP pt fun t kv ht => ?_) ?_
              · refine keep t _ ?_ ht
                intro z
                rw [z, hD4] at ht
                cases ht
              · exact (upd_ne nDT.symm).trans upd_same
            · have n1 : ∀ b o, H4 b = none → H5 b = some o → (upd (upd H5 T (.tup [.str key, v])) D (.lst (ts.map V.ref ++ [.ref T]))) b = some o := fun b o h1 h2 => by
                rw [upd_ne (fun z => by rw [z, hD4] at h1; cases h1), upd_ne (ne_of_none h2 nT)]
                exact h2
              refine Paired.snoc (paired_mono (new_le Dom.refl fun b o h1 h2 => ?_) (Nat.le_refl _) pr) (q5.mono (new_le dom4 n1) (Nat.le_refl _))
              refine keep b o ?_ h2
              intro z
              rw [z, upd_same] at h1
              cases h1
          · rintro H4 ⟨ts, us, es, hD4, lus, lts, s4, dom4, pt, pr⟩
            rw [List.length_map] at lus lts pt
            rw [List.take_length] at pt
            refine ⟨D, ts, kvOf rk us, rfl, SqL.of hD4, L2.Paired.mapP pt fun t kv ht => SqT.of ht, fun e ne => ?_⟩
            have em2 : mergeK [] (kvOf rk us) = kvOf rk us := by
              refine merge_new _ [] ?_
              rw [List.nil_append, kv_keys (by omega)]
              exact List.Pairwise.map _ (fun a b h z => h (Sum.inr.inj z)) ndrk
            rw [em2]
            refine q _ (.ref e) (.dct rk es) (same_new (sS.trans s4) ne) ?_
            simp only [Da]
            refine ⟨e, us, rfl, newH_some.mpr ⟨domD _ (dom4 _ ne), upd_same⟩, by omega, lus, ndrk, okrk, paired_mono (new_le domD fun b o h1 h2 => ?_) (Nat.le_refl _) pr⟩
            rw [upd_ne (ne_of_none h2 ne)]
            exact h2
end
end Toy


/-! a zip whose last tuple still lives: the next one is a tuple of its own -/
namespace PySem
open Sem (wp)
section
variable {prog : Program} {w : World} {A : Around} {E : Value → Shared → Prop} {s : Shared}
theorem alive_rule {a : Addr} {o : Obj} {Q : Option Obj → Shared → Prop} (ho : s.heap.get? a = some o) (h : Q (some o) s) : wpAny (model prog w) A (loadIfAlive a) Q E s := fun Γ p _ => by
  show Sem.wp _ Γ (.loadIfAlive a .pure) _ _ p s
  rw [Sem.wp_loadIfAlive, ho]
  exact h
abbrev ZipAt (h : Heap) (z TI TO T : Addr) (b : Bool) : Prop := h.get? z = some { cls := .type "zip", dict := none, data := .fields #[rawInt T, .bool b, .bool false, .ref TI, .ref TO], slots := #[] }
/-- h' keeps all of h but at z, and is as large -/
def ButAt (z : Addr) (h h' : Heap) : Prop := (∀ c o, c ≠ z → h.get? c = some o → h'.get? c = some o) ∧ h'.objs.size = h.objs.size
theorem owned_lives {z TI TO T : Addr} {b : Bool} {oT : Obj} {Q : Bool → Shared → Prop} (hz : ZipAt s.heap z TI TO T b) (hT : s.heap.get? T = some oT)
    (h : ∀ h', ZipAt h' z TI TO T true → ButAt z s.heap h' → Q false { s with heap := h' }) : wpAny (model prog w) A (Builtin.SmallTypes.ownedTupleIsFree (.ref z)) Q E s := by
  unfold Builtin.SmallTypes.ownedTupleIsFree
  refine wpAny_bind (wpAny_field hz rfl (x := rawInt T) rfl ?_)
  show wpAny _ _ (loadIfAlive ((T : Int)).toNat >>= _) _ _ _
  rw [Int.toNat_natCast]
  refine wpAny_bind (alive_rule hT ?_)
  simp only [Option.isNone_some, Bool.false_eq_true, if_false]
  refine wpAny_bind ?_
  refine wpAny_field hz rfl (x := .bool b) rfl ?_
  cases b with
  | true => exact wpAny_pure (h s.heap hz ⟨fun _ _ _ e => e, rfl⟩)
  | false =>
    show wpAny _ _ (setField (.ref z) 1 (.bool true) >>= _) _ _ _
    refine wpAny_bind (wpAny_setField_rec hz (by simp) fun h' hz' hs => wpAny_pure (h h' hz' ⟨fun c o n e => hs.extBut c o n e, hs.1⟩))
theorem zip_more {z TI TO T i1 i2 l1 l2 : Addr} {b0 : Bool} {oT : Obj} {k1 k2 : Nat} {xs ys : Array Value} {x y : Value} {Q : Value → Shared → Prop} (D : ZipApart z TI TO i1 i2 l1 l2) (hz : ZipAt s.heap z TI TO T b0) (hTz : s.heap.get? T = some oT)
    (hTI : IsPair s.heap TI (.ref i1) (.ref i2)) (h1 : s.heap.IsListIter i1 l1 k1) (h2 : s.heap.IsListIter i2 l2 k2) (hl1 : s.heap.IsList l1 xs) (hl2 : s.heap.IsList l2 ys) (hx : xs[k1]? = some x) (hy : ys[k2]? = some y)
    (hQ : ∀ h', ZipAt h' z TI TO T true → h'.IsListIter i1 l1 (k1 + 1) → h'.IsListIter i2 l2 (k2 + 1) → IsPair h' s.heap.objs.size x y → h'.objs.size = s.heap.objs.size + 1 →
      (∀ c o, c ≠ z → c ≠ i1 → c ≠ i2 → s.heap.get? c = some o → h'.get? c = some o) → Q (.ref s.heap.objs.size) { s with heap := h' }) :
    wpAny (model prog w) A (Builtin.«zip.__next__» ⟨[.ref z], []⟩) (fun fin s' => ∃ v, fin = .done (.ret v) ∧ Q v s') E s := by
  show wpAny _ _ (field (.ref z) 2 >>= _) _ _ _
  refine wpAny_bind (wpAny_field hz rfl (x := .bool false) rfl ?_)
  show wpAny _ _ (field (.ref z) 3 >>= _) _ _ _
  refine wpAny_bind (wpAny_field hz rfl (x := .ref TI) rfl ?_)
  refine wpAny_bind (wpAny_seqItems hTI rfl ?_)
  show wpAny _ _ (Builtin.SmallTypes.ownedTupleIsFree (.ref z) >>= _) _ _ _
  refine wpAny_bind (owned_lives hz hTz fun g1 gz1 b1 => ?_)
  simp only [Bool.false_eq_true, if_false]
  refine wpAny_bind ?_
  rw [← Array.forIn_toList]
  simp only [List.forIn_cons, List.forIn_nil]
  have up1 : ∀ c o, c ≠ z → s.heap.get? c = some o → g1.get? c = some o := b1.1
  refine wpAny_bind (wpAny_bind (wpAny_holding ?_))
  show wpAny _ _ (Builtin.SmallTypes.nextOf (.ref i1) >>= _) _ _ _
  refine wpAny_bind (wpAny_nextOf_list_item (h1.at fun o e => up1 _ o D.i1z e) (hl1.at fun o e => up1 _ o D.l1z e) hx fun g2 j1 b2 => wpAny_pure ?_)
  refine wpAny_pure ?_
  refine wpAny_bind (wpAny_bind (wpAny_holding ?_))
  show wpAny _ _ (Builtin.SmallTypes.nextOf (.ref i2) >>= _) _ _ _
  refine wpAny_bind (wpAny_nextOf_list_item ((h2.at fun o e => up1 _ o D.i2z e).extBut b2.extBut D.i12.symm) ((hl2.at fun o e => up1 _ o D.l2z e).extBut b2.extBut D.l2i1) hy fun g3 j2 b3 => wpAny_pure ?_)
  refine wpAny_pure (wpAny_pure ?_)
  refine wpAny_bind (wpAny_newTuple ?_ (by show 2 ≤ sizeLine; decide))
  have size : g3.objs.size = s.heap.objs.size := by rw [b3.1, b2.1]; exact b1.2
  have up3 : ∀ c o, c ≠ z → c ≠ i1 → c ≠ i2 → s.heap.get? c = some o → g3.get? c = some o := fun c o c1 c2 c3 e => b3.extBut _ _ c3 (b2.extBut _ _ c2 (up1 _ _ c1 e))
  have gz3 : ZipAt g3 z TI TO T true := b3.extBut _ _ D.i2z.symm (b2.extBut _ _ D.i1z.symm gz1)
  have j13 : g3.IsListIter i1 l1 (k1 + 1) := j1.extBut b3.extBut D.i12
  refine wpAny_pure ⟨_, rfl, ?_⟩
  show Q (.ref g3.objs.size) { s with heap := g3.push { cls := .type "tuple", data := .seq #[x, y] } }
  have push : ∀ c o, g3.get? c = some o → (g3.push { cls := .type "tuple", data := .seq #[x, y] }).get? c = some o := fun c o e => Heap.get?_push_of_some _ e
  have new : IsPair (g3.push { cls := .type "tuple", data := .seq #[x, y] }) g3.objs.size x y := Heap.get?_push_size _ rfl
  have big : (g3.push { cls := .type "tuple", data := .seq #[x, y] }).objs.size = s.heap.objs.size + 1 := by rw [Heap.size_push, size]
  rw [size] at new ⊢
  exact hQ _ (push _ _ gz3) (j13.at fun o e => push _ o e) (j2.at fun o e => push _ o e) new big fun c o c1 c2 c3 e => push _ _ (up3 c o c1 c2 c3 e)
theorem zip_more_end {z TI TO T i1 i2 l1 l2 : Addr} {b0 : Bool} {oT : Obj} {k1 k2 : Nat} {xs ys : Array Value} {Q : Fin → Shared → Prop} (hh : A.handled = none) (D : ZipApart z TI TO i1 i2 l1 l2) (hz : ZipAt s.heap z TI TO T b0) (hTz : s.heap.get? T = some oT)
    (hTI : IsPair s.heap TI (.ref i1) (.ref i2)) (h1 : s.heap.IsListIter i1 l1 k1) (h2 : s.heap.IsListIter i2 l2 k2) (hl1 : s.heap.IsList l1 xs) (hl2 : s.heap.IsList l2 ys) (hx : xs[k1]? = none)
    (hE : ∀ h' e, (∀ c o, c ≠ z → c ≠ i1 → c ≠ i2 → s.heap.get? c = some o → h'.get? c = some o) → (∃ o, h'.get? e = some o ∧ o.cls = .type "StopIteration") → E (.ref e) { s with heap := h' }) :
    wpAny (model prog w) A (Builtin.«zip.__next__» ⟨[.ref z], []⟩) Q E s := by
  show wpAny _ _ (field (.ref z) 2 >>= _) _ _ _
  refine wpAny_bind (wpAny_field hz rfl (x := .bool false) rfl ?_)
  show wpAny _ _ (field (.ref z) 3 >>= _) _ _ _
  refine wpAny_bind (wpAny_field hz rfl (x := .ref TI) rfl ?_)
  refine wpAny_bind (wpAny_seqItems hTI rfl ?_)
  show wpAny _ _ (Builtin.SmallTypes.ownedTupleIsFree (.ref z) >>= _) _ _ _
  refine wpAny_bind (owned_lives hz hTz fun g1 gz1 b1 => ?_)
  simp only [Bool.false_eq_true, if_false]
  refine wpAny_bind ?_
  rw [← Array.forIn_toList]
  simp only [List.forIn_cons, List.forIn_nil]
  have up1 : ∀ c o, c ≠ z → s.heap.get? c = some o → g1.get? c = some o := b1.1
  refine wpAny_bind (wpAny_bind (wpAny_holding ?_))
  show wpAny _ _ (Builtin.SmallTypes.nextOf (.ref i1) >>= _) _ _ _
  exact wpAny_bind (wpAny_nextOf_list_end hh (h1.at fun o e => up1 _ o D.i1z e) (hl1.at fun o e => up1 _ o D.l1z e) hx fun g2 e b2 he => hE g2 e (fun c o c1 c2 c3 q => b2 _ _ c2 (up1 _ _ c1 q)) he)
theorem pyNext_more {z TI TO T i1 i2 l1 l2 : Addr} {b0 : Bool} {oT : Obj} {k1 k2 : Nat} {xs ys : Array Value} {x y : Value} {Q : Option Value → Shared → Prop} (D : ZipApart z TI TO i1 i2 l1 l2) (hz : ZipAt s.heap z TI TO T b0) (hTz : s.heap.get? T = some oT)
    (hTI : IsPair s.heap TI (.ref i1) (.ref i2)) (h1 : s.heap.IsListIter i1 l1 k1) (h2 : s.heap.IsListIter i2 l2 k2) (hl1 : s.heap.IsList l1 xs) (hl2 : s.heap.IsList l2 ys) (hx : xs[k1]? = some x) (hy : ys[k2]? = some y)
    (hQ : ∀ h', ZipAt h' z TI TO T true → h'.IsListIter i1 l1 (k1 + 1) → h'.IsListIter i2 l2 (k2 + 1) → IsPair h' s.heap.objs.size x y → h'.objs.size = s.heap.objs.size + 1 →
      (∀ c o, c ≠ z → c ≠ i1 → c ≠ i2 → s.heap.get? c = some o → h'.get? c = some o) → Q (some (.ref s.heap.objs.size)) { s with heap := h' }) :
    wpAny (model prog w) A (pyNext (.ref z)) Q E s := by
  have ty : s.TypeIs (.ref z) "zip" := ⟨_, hz, rfl⟩
  unfold pyNext
  refine wpAny_bind (wpAny_attempt (wpAny_callSpecial?_slot (name := Str.ofString "__next__") ty F.slot_zip_next (wpAny_call_entry F.slot_zip_next ty F.entry_zip_next ?_ (F.args_zip_next_1 _))))
  exact zip_more D hz hTz hTI h1 h2 hl1 hl2 hx hy fun h' a1 a2 a3 a4 a5 a6 => wpAny_pure (hQ h' a1 a2 a3 a4 a5 a6)
theorem pyNext_more_end {z TI TO T i1 i2 l1 l2 : Addr} {b0 : Bool} {oT : Obj} {k1 k2 : Nat} {xs ys : Array Value} {Q : Option Value → Shared → Prop} (hh : A.handled = none) (D : ZipApart z TI TO i1 i2 l1 l2) (hz : ZipAt s.heap z TI TO T b0) (hTz : s.heap.get? T = some oT)
    (hTI : IsPair s.heap TI (.ref i1) (.ref i2)) (h1 : s.heap.IsListIter i1 l1 k1) (h2 : s.heap.IsListIter i2 l2 k2) (hl1 : s.heap.IsList l1 xs) (hl2 : s.heap.IsList l2 ys) (hx : xs[k1]? = none)
    (hQ : ∀ h', (∀ c o, c ≠ z → c ≠ i1 → c ≠ i2 → s.heap.get? c = some o → h'.get? c = some o) → Q none { s with heap := h' }) : wpAny (model prog w) A (pyNext (.ref z)) Q E s := by
  have ty : s.TypeIs (.ref z) "zip" := ⟨_, hz, rfl⟩
  unfold pyNext
  refine wpAny_bind (wpAny_attempt (wpAny_callSpecial?_slot (name := Str.ofString "__next__") ty F.slot_zip_next (wpAny_call_entry F.slot_zip_next ty F.entry_zip_next ?_ (F.args_zip_next_1 _))))
  refine zip_more_end hh D hz hTz hTI h1 h2 hl1 hl2 hx fun h' e kp he => ?_
  obtain ⟨o, ho, hc⟩ := he
  exact wpAny_bind (wpAny_isInstance (T := "StopIteration") (b := true) ⟨o, ho, hc⟩ isSubtype_stop (wpAny_pure (hQ _ kp)))
end
end PySem


/-! all that a zip of two lists gives, put behind a list -/
namespace PySem
open Sem (wp)
/-- the tuples that came so far: all new behind n0, one behind the other -/
def Got (h : Heap) (n0 : Nat) (bad : List Addr) (xs ys acc : Array Value) (i : Nat) : Prop := acc.size = i ∧ (∀ (j : Nat) (v : Value), acc[j]? = some v → ∃ (T : Addr) (x y : Value), v = .ref T ∧ n0 ≤ T ∧ T ∉ bad ∧ xs[j]? = some x ∧ ys[j]? = some y ∧ IsPair h T x y) ∧
  ∀ (j k : Nat) (T U : Addr), j < k → acc[j]? = some (.ref T) → acc[k]? = some (.ref U) → T < U
theorem Got.keep {h h' : Heap} {n0 : Nat} {bad : List Addr} {xs ys acc : Array Value} {i : Nat} (g : Got h n0 bad xs ys acc i) (k : ∀ c o, c ∉ bad → h.get? c = some o → h'.get? c = some o) : Got h' n0 bad xs ys acc i := ⟨g.1, fun j v e => by
  obtain ⟨T, x, y, h1, h0, h2, h3, h4, h5⟩ := g.2.1 j v e
  exact ⟨T, x, y, h1, h0, h2, h3, h4, k _ _ h2 h5⟩, g.2.2⟩
theorem Got.push {h : Heap} {n0 : Nat} {bad : List Addr} {xs ys acc : Array Value} {i : Nat} {T : Addr} {x y : Value} (g : Got h n0 bad xs ys acc i) (n : T ∉ bad) (h0 : n0 ≤ T) (hx : xs[i]? = some x) (hy : ys[i]? = some y) (hT : IsPair h T x y) (hl : ∀ (j : Nat) (U : Addr), acc[j]? = some (.ref U) → U < T) : Got h n0 bad xs ys (acc.push (.ref T)) (i + 1) := by
  refine ⟨by rw [Array.size_push, g.1], fun j v e => ?_, fun j k A B hjk e1 e2 => ?_⟩
  · rw [Array.getElem?_push] at e
    split at e
    · rename_i q
      rw [g.1] at q
      cases e
      subst q
      exact ⟨T, x, y, rfl, h0, n, hx, hy, hT⟩
    · exact g.2.1 j v e
  · have hk : k < (acc.push (.ref T)).size := (Array.getElem?_eq_some_iff.mp e2).1
    rw [Array.size_push] at hk
    have e1' : acc[j]? = some (.ref A) := by
      rw [Array.getElem?_push, if_neg (by omega)] at e1
      exact e1
    rw [Array.getElem?_push] at e2
    split at e2
    · cases e2
      exact hl j A e1'
    · exact g.2.2 j k A B hjk e1' e2
theorem Got.low {h : Heap} {n0 : Nat} {bad : List Addr} {xs ys acc : Array Value} {i : Nat} (g : Got h n0 bad xs ys acc i) (j : Nat) (U : Addr) (e : acc[j]? = some (.ref U)) : U < h.objs.size := by
  obtain ⟨T, x, y, h1, _, _, _, _, h5⟩ := g.2.1 j _ e
  cases h1
  exact Heap.lt_size h5
/-- the zip as it stands ahead of a pull -/
def ZipGo (h : Heap) (z TI TO i1 i2 : Addr) : Prop := IsZip h z TI TO .none ∨ ∃ T b oT, ZipAt h z TI TO T b ∧ h.get? T = some oT ∧ T ≠ z ∧ T ≠ TO ∧ T ≠ i1 ∧ T ≠ i2
structure ZipSt (h : Heap) (z TI TO i1 i2 l1 l2 : Addr) (xs ys : Array Value) (i : Nat) : Prop where
  go : ZipGo h z TI TO i1 i2
  ti : IsPair h TI (.ref i1) (.ref i2)
  to : ∃ a b, IsPair h TO a b
  j1 : h.IsListIter i1 l1 i
  j2 : h.IsListIter i2 l2 i
  s1 : h.IsList l1 xs
  s2 : h.IsList l2 ys
section
variable {prog : Program} {w : World} {A : Around} {E : Value → Shared → Prop} {s : Shared} {z TI TO i1 i2 l1 l2 : Addr} {xs ys : Array Value} {i : Nat}
theorem zip_lts (D : ZipApart z TI TO i1 i2 l1 l2) (st : ZipSt s.heap z TI TO i1 i2 l1 l2 xs ys i) : z < s.heap.objs.size ∧ TO < s.heap.objs.size ∧ i1 < s.heap.objs.size ∧ i2 < s.heap.objs.size := by
  obtain ⟨go, _, ⟨a, b, to⟩, ⟨o1, e1, _⟩, ⟨o2, e2, _⟩, _, _⟩ := st
  refine ⟨?_, Heap.lt_size to, Heap.lt_size e1, Heap.lt_size e2⟩
  rcases go with q | ⟨T, b, oT, q, _⟩
  · exact Heap.lt_size q
  · exact Heap.lt_size q
theorem zip_pull {Q : Option Value → Shared → Prop} {x y : Value} (D : ZipApart z TI TO i1 i2 l1 l2) (st : ZipSt s.heap z TI TO i1 i2 l1 l2 xs ys i) (hx : xs[i]? = some x) (hy : ys[i]? = some y)
    (hQ : ∀ h', ZipSt h' z TI TO i1 i2 l1 l2 xs ys (i + 1) → IsPair h' s.heap.objs.size x y → h'.objs.size = s.heap.objs.size + 1 → (∀ c o, c ≠ z → c ≠ TO → c ≠ i1 → c ≠ i2 → s.heap.get? c = some o → h'.get? c = some o) → Q (some (.ref s.heap.objs.size)) { s with heap := h' }) :
    wpAny (model prog w) A (pyNext (.ref z)) Q E s := by
  obtain ⟨lz, lTO, li1, li2⟩ := zip_lts D st
  obtain ⟨go, ti, ⟨a, b, to⟩, j1, j2, s1, s2⟩ := st
  rcases go with q | ⟨T, b0, oT, q, hT, n1, n2, n3, n4⟩
  · refine wpAny_pyNext_zip_item D q ti to j1 j2 s1 s2 hx hy fun h' a1 a2 a3 a4 a5 a6 kp => ?_
    exact hQ h' ⟨.inr ⟨s.heap.objs.size, false, _, a1, a5, Nat.ne_of_gt lz, Nat.ne_of_gt lTO, Nat.ne_of_gt li1, Nat.ne_of_gt li2⟩, kp _ _ D.TIz D.TITO D.TIi1 D.TIi2 ti, ⟨_, _, a2⟩, a3, a4, s1.at fun o e => kp _ o D.l1z D.l1TO D.l1i1 D.l1i2 e, s2.at fun o e => kp _ o D.l2z D.l2TO D.l2i1 D.l2i2 e⟩ a5 a6 kp
  · refine pyNext_more D q hT ti j1 j2 s1 s2 hx hy fun h' a1 a2 a3 a4 a5 kp => ?_
    exact hQ h' ⟨.inr ⟨T, true, oT, a1, kp _ _ n1 n3 n4 hT, n1, n2, n3, n4⟩, kp _ _ D.TIz D.TIi1 D.TIi2 ti, ⟨a, b, kp _ _ D.TOz D.TOi1 D.TOi2 to⟩, a2, a3, s1.at fun o e => kp _ o D.l1z D.l1i1 D.l1i2 e, s2.at fun o e => kp _ o D.l2z D.l2i1 D.l2i2 e⟩ a4 a5 fun c o c1 _ c3 c4 e => kp c o c1 c3 c4 e
theorem zip_stop {Q : Option Value → Shared → Prop} (hh : A.handled = none) (D : ZipApart z TI TO i1 i2 l1 l2) (st : ZipSt s.heap z TI TO i1 i2 l1 l2 xs ys i) (hx : xs[i]? = none)
    (hQ : ∀ h', (∀ c o, c ≠ z → c ≠ TO → c ≠ i1 → c ≠ i2 → s.heap.get? c = some o → h'.get? c = some o) → Q none { s with heap := h' }) : wpAny (model prog w) A (pyNext (.ref z)) Q E s := by
  obtain ⟨go, ti, ⟨a, b, to⟩, j1, j2, s1, s2⟩ := st
  rcases go with q | ⟨T, b0, oT, q, hT, n1, n2, n3, n4⟩
  · exact wpAny_pyNext_zip_end hh D q ti to j1 j2 s1 s2 (.inl hx) hQ
  · exact pyNext_more_end hh D q hT ti j1 j2 s1 s2 hx fun h' kp => hQ h' fun c o c1 _ c3 c4 e => kp c o c1 c3 c4 e
theorem ZipSt.keep {h h' : Heap} {S : Addr} (st : ZipSt h z TI TO i1 i2 l1 l2 xs ys i) (nS : S ∉ [z, TI, TO, i1, i2, l1, l2]) (k : ∀ c o, c ≠ S → h.get? c = some o → h'.get? c = some o) (hS : ∃ o, h'.get? S = some o) : ZipSt h' z TI TO i1 i2 l1 l2 xs ys i := by
  simp only [List.mem_cons, List.not_mem_nil, or_false, not_or] at nS
  obtain ⟨m1, m2, m3, m4, m5, m6, m7⟩ := nS
  obtain ⟨go, ti, ⟨a, b, to⟩, j1, j2, s1, s2⟩ := st
  refine ⟨?_, k _ _ (Ne.symm m2) ti, ⟨a, b, k _ _ (Ne.symm m3) to⟩, j1.at fun o e => k _ o (Ne.symm m4) e, j2.at fun o e => k _ o (Ne.symm m5) e, s1.at fun o e => k _ o (Ne.symm m6) e, s2.at fun o e => k _ o (Ne.symm m7) e⟩
  rcases go with q | ⟨T, b0, oT, q, hT, n⟩
  · exact .inl (k _ _ (Ne.symm m1) q)
  · by_cases e : T = S
    · obtain ⟨o, ho⟩ := hS
      exact .inr ⟨T, b0, o, k _ _ (Ne.symm m1) q, e ▸ ho, n⟩
    · exact .inr ⟨T, b0, oT, k _ _ (Ne.symm m1) q, k _ _ e hT, n⟩
theorem zip_loop {R : Result → Shared → Prop} (hh : A.in1.handled = none) (D : ZipApart z TI TO i1 i2 l1 l2) (hlen : xs.size = ys.size) (hn : xs.size ≤ sizeLine) (S : Addr) (nS : S ∉ [z, TI, TO, i1, i2, l1, l2]) (res : Value) (n0 : Nat) :
    ∀ (k i : Nat) (s : Shared) (acc : Array Value) (c : Nat), xs.size - i = k → i ≤ xs.size → ZipSt s.heap z TI TO i1 i2 l1 l2 xs ys i → s.heap.get? S = some { cls := .type "list", dict := none, data := .seq acc c, slots := #[] } → n0 ≤ s.heap.objs.size → Got s.heap n0 [z, TO, i1, i2, S] xs ys acc i →
    (∀ h' acc' c', (∀ c o, c ∉ [z, TO, i1, i2, S] → s.heap.get? c = some o → h'.get? c = some o) → h'.get? S = some { cls := .type "list", dict := none, data := .seq acc' c', slots := #[] } → Got h' n0 [z, TO, i1, i2, S] xs ys acc' xs.size → R (.ok (.ret res)) { s with heap := h' }) →
    codeAny (model prog w) A (.builtin "list.extend.loop" ⟨[.ref S, .ref z, res], []⟩) R s := by
  have nS' := nS
  simp only [List.mem_cons, List.not_mem_nil, or_false, not_or] at nS'
  obtain ⟨m1, m2, m3, m4, m5, m6, m7⟩ := nS'
  have four : ∀ c : Addr, c ∉ [z, TO, i1, i2, S] → c ≠ z ∧ c ≠ TO ∧ c ≠ i1 ∧ c ≠ i2 ∧ c ≠ S := fun c hc => by
    simpa only [List.mem_cons, List.not_mem_nil, or_false, not_or] using hc
  intro k
  induction k with
  | zero =>
    intro i s acc c hk hi st hS hn0 got hR
    obtain rfl : i = xs.size := by omega
    refine codeAny_builtin F.entry_extend_loop ?_
    rw [Around.under_plainId F.plain_extend_loop _]
    show wpAny _ A.in1 (pyNext (.ref z) >>= _) _ _ s
    refine wpAny_bind (zip_stop hh D st (by simp) fun h' kp => ?_)
    have kp' : ∀ c o, c ∉ [z, TO, i1, i2, S] → s.heap.get? c = some o → h'.get? c = some o := fun c o hc e => by
      obtain ⟨c1, c2, c3, c4, _⟩ := four c hc
      exact kp c o c1 c2 c3 c4 e
    exact wpAny_pure (hR h' acc c kp' (kp _ _ m1 m3 m4 m5 hS) (got.keep kp'))
  | succ k ih =>
    intro i s acc c hk hi st hS hn0 got hR
    have ix : i < xs.size := by omega
    have iy : i < ys.size := by omega
    refine codeAny_builtin F.entry_extend_loop ?_
    rw [Around.under_plainId F.plain_extend_loop _]
    show wpAny _ A.in1 (pyNext (.ref z) >>= _) _ _ s
    obtain ⟨lz, lTO, li1, li2⟩ := zip_lts D st
    have lS := Heap.lt_size hS
    refine wpAny_bind (zip_pull D st (Array.getElem?_eq_getElem ix) (Array.getElem?_eq_getElem iy) fun h' st' hT size kp => ?_)
    have kp' : ∀ c o, c ∉ [z, TO, i1, i2, S] → s.heap.get? c = some o → h'.get? c = some o := fun c o hc e => by
      obtain ⟨c1, c2, c3, c4, _⟩ := four c hc
      exact kp c o c1 c2 c3 c4 e
    have hS' := kp _ _ m1 m3 m4 m5 hS
    have nT : s.heap.objs.size ∉ [z, TO, i1, i2, S] := by
      simp only [List.mem_cons, List.not_mem_nil, or_false, not_or]
      exact ⟨Nat.ne_of_gt lz, Nat.ne_of_gt lTO, Nat.ne_of_gt li1, Nat.ne_of_gt li2, Nat.ne_of_gt lS⟩
    have got' := (got.keep kp').push nT hn0 (Array.getElem?_eq_getElem ix) (Array.getElem?_eq_getElem iy) hT got.low
    show wpAny _ A.in1 (updateSeq S (·.push (.ref s.heap.objs.size)) >>= _) _ _ _
    refine wpAny_bind ?_
    refine wpAny_updateSeq hS' rfl (wpAny_pure ⟨plainId_quiet F.plain_extend_loop _, ?_⟩) (by rw [got.1]; omega) (by show (acc.push (.ref s.heap.objs.size)).size ≤ sizeLine + 1; rw [Array.size_push, got.1]; omega)
    have up : ∀ b o, b ≠ S → h'.get? b = some o → (h'.update S (Obj.mapSeq (·.push (.ref s.heap.objs.size)))).get? b = some o := fun b o hb e => (Heap.get?_update_other _ _ (fun h : S = b => hb h.symm)).trans e
    refine ih (i + 1) { s with heap := h'.update S (Obj.mapSeq (·.push (.ref s.heap.objs.size))) } (acc.push (.ref s.heap.objs.size)) _ (by omega) ix (st'.keep nS up ⟨_, Heap.get?_update_self _ hS' rfl⟩) (Heap.get?_update_self _ hS' rfl) (Nat.le_trans hn0 (Nat.le_of_lt (Heap.lt_size (up _ _ (Nat.ne_of_gt lS) hT)))) (got'.keep fun b o hb e => up b o (four b hb).2.2.2.2 e) fun h'' acc'' c'' kp'' hS'' got'' => ?_
    exact hR h'' acc'' c'' (fun b o hb e => kp'' b o hb (up b o (four b hb).2.2.2.2 (kp' b o hb e))) hS'' got''
end
end PySem


/-! tuple(zip(xs, ys)) of two lists of one length -/
namespace PySem
open Sem (wp)
theorem zip_no_len : typeLookup (.type "zip") "__len__" = pure none := by rw [typeLookup_type, builtinLookup_eq_fast]; kernel_rfl
theorem zip_no_hint : typeLookup (.type "zip") "__length_hint__" = pure none := by rw [typeLookup_type, builtinLookup_eq_fast]; kernel_rfl
section
variable {prog : Program} {w : World} {A : Around} {E : Value → Shared → Prop} {s : Shared} {z TI TO i1 i2 l1 l2 : Addr} {xs ys : Array Value} {i : Nat}
theorem ZipSt.iter {h : Heap} (st : ZipSt h z TI TO i1 i2 l1 l2 xs ys i) : ∃ f0 f1, h.get? z = some { cls := .type "zip", dict := none, data := .fields #[f0, f1, .bool false, .ref TI, .ref TO], slots := #[] } := by
  rcases st.go with q | ⟨T, b, _, q, _⟩
  · exact ⟨_, _, q⟩
  · exact ⟨_, _, q⟩
theorem collect_zip {Q : List Value → Shared → Prop} (hh : A.handled = none) (D : ZipApart z TI TO i1 i2 l1 l2) (hlen : xs.size = ys.size) (hn : xs.size ≤ sizeLine) (hz0 : IsZip s.heap z TI TO .none) (st : ZipSt s.heap z TI TO i1 i2 l1 l2 xs ys 0)
    (hQ : ∀ h' acc, (∀ c o, c ≠ z → c ≠ TO → c ≠ i1 → c ≠ i2 → s.heap.get? c = some o → h'.get? c = some o) → s.heap.objs.size ≤ h'.objs.size → Got h' s.heap.objs.size [z, TO, i1, i2, s.heap.objs.size] xs ys acc xs.size → Q acc.toList { s with heap := h' }) :
    wpAny (model prog w) A (collect (.ref z)) Q E s := by
  have old : ∀ c o, s.heap.get? c = some o → c ≠ s.heap.objs.size := fun c o e => Nat.ne_of_lt (Heap.lt_size e)
  have nS : s.heap.objs.size ∉ [z, TI, TO, i1, i2, l1, l2] := by
    obtain ⟨lz, lTO, li1, li2⟩ := zip_lts D st
    obtain ⟨_, ti, _, _, _, ⟨o1, e1, _⟩, ⟨o2, e2, _⟩⟩ := st
    simp only [List.mem_cons, List.not_mem_nil, or_false, not_or]
    exact ⟨Nat.ne_of_gt lz, (old _ _ ti).symm, Nat.ne_of_gt lTO, Nat.ne_of_gt li1, Nat.ne_of_gt li2, (old _ _ e1).symm, (old _ _ e2).symm⟩
  have nz : s.heap.objs.size ≠ z := fun e => nS (by rw [e]; exact List.mem_cons_self)
  unfold collect
  refine wpAny_bind (wpAny_runValue (codeAny_builtin F.entry_proto_collect ?_))
  rw [Around.under_plainId F.plain_proto_collect _]
  show wpAny _ A.in1 (newList [] >>= fun l => again (.builtin "list.__iadd__" ⟨[l, .ref z], []⟩)) _ _ s
  refine wpAny_bind (wpAny_newObj_type ?_)
  refine wpAny_pure ⟨plainId_quiet F.plain_list_iadd _, codeAny_builtin F.entry_list_iadd ?_⟩
  rw [Around.under_plainId F.plain_list_iadd _]
  have up : ∀ c o, s.heap.get? c = some o → (s.heap.push { cls := .type "list", data := .seq ([] : List Value).toArray }).get? c = some o := fun c o e => Heap.get?_push_of_some _ e
  have at1 : (s.heap.push { cls := .type "list", data := .seq ([] : List Value).toArray }).get? s.heap.objs.size = some { cls := .type "list", data := .seq ([] : List Value).toArray } := Heap.get?_push_size _ rfl
  have st1 := st.keep nS (fun c o _ e => up c o e) ⟨_, at1⟩
  have ty : (Shared.mk (s.heap.push { cls := .type "list", data := .seq ([] : List Value).toArray }) s.gens s.drawn s.toks s.os).TypeIs (.ref z) "zip" := ⟨_, up _ _ hz0, rfl⟩
  show wpAny _ A.in1 (Builtin.List.listExtendWith (.ref s.heap.objs.size) (.ref z) (.ref s.heap.objs.size)) _ _ _
  unfold Builtin.List.listExtendWith
  refine wpAny_bind (wpAny_typeOf ty ?_)
  have n1 : Builtin.List.listSameRef (.ref s.heap.objs.size) (.ref z) = false := by simp [Builtin.List.listSameRef, nz]
  have n2 : (Value.type "zip" == Value.type "list") = false := by decide
  have n3 : (Value.type "zip" == Value.type "tuple") = false := by decide
  simp only [n1, n2, n3, Bool.or_false, Bool.false_eq_true, if_false]
  refine wpAny_bind (wpAny_pyIter_zip (up _ _ hz0) ?_)
  refine wpAny_bind (wpAny_holding ?_)
  unfold Builtin.List.listLengthHint
  refine wpAny_bind (wpAny_specialOf ty zip_no_len ?_)
  show wpAny _ A.in1 (specialOf (Value.ref z) (Str.ofString "__length_hint__") >>= _) _ _ _
  refine wpAny_bind (wpAny_specialOf ty zip_no_hint ?_)
  refine wpAny_pure ?_
  show wpAny _ A.in1 (rule "list.extend.makes-room" >>= fun _ => Builtin.List.listTouch (.ref s.heap.objs.size) >>= fun _ =>
    again (.builtin "list.extend.loop" ⟨[.ref s.heap.objs.size, .ref z, .ref s.heap.objs.size], []⟩)) _ _ _
  refine wpAny_bind (wpAny_rule ?_)
  refine wpAny_bind ?_
  show wpAny _ A.in1 (updateSeq s.heap.objs.size (·.push .none) >>= fun _ => updateSeq s.heap.objs.size (·.pop)) _ _ _
  refine wpAny_bind (wpAny_updateSeq at1 rfl ?_)
  have at2 := Heap.get?_update_self (Obj.mapSeq (·.push Value.none)) at1 rfl
  refine wpAny_updateSeq at2 rfl ?_
  have at3 := Heap.get?_update_self (Obj.mapSeq (·.pop)) at2 rfl
  have oth : ∀ b o, b ≠ s.heap.objs.size → (s.heap.push { cls := .type "list", data := .seq ([] : List Value).toArray }).get? b = some o →
      (((s.heap.push { cls := .type "list", data := .seq ([] : List Value).toArray }).update s.heap.objs.size (Obj.mapSeq (·.push Value.none))).update s.heap.objs.size (Obj.mapSeq (·.pop))).get? b = some o :=
    fun b o hb e => (Heap.get?_update_other _ _ (Ne.symm hb)).trans ((Heap.get?_update_other _ _ (Ne.symm hb)).trans e)
  refine wpAny_pure ⟨plainId_quiet F.plain_extend_loop _, zip_loop (i := 0) (s := { s with heap := (((s.heap.push { cls := .type "list", data := .seq ([] : List Value).toArray }).update s.heap.objs.size (Obj.mapSeq (·.push Value.none))).update s.heap.objs.size (Obj.mapSeq (·.pop))) })
    hh D hlen hn s.heap.objs.size nS _ s.heap.objs.size xs.size #[] _ rfl (Nat.zero_le _) (st1.keep nS oth ⟨_, at3⟩) at3 (Nat.le_of_lt (Heap.lt_size at3)) ⟨rfl, (fun j v e => by simp at e), fun j k T U _ e => by simp at e⟩ fun h' acc' c' kp hS got => ?_⟩
  show wpAny _ A (load s.heap.objs.size >>= _) _ _ _
  refine wpAny_bind (wpAny_load hS ?_)
  refine wpAny_pure (hQ h' acc' (fun c o c1 c2 c3 c4 e => kp c o ?_ (oth c o (old c o e) (up c o e))) (Nat.le_of_lt (Heap.lt_size hS)) got)
  simp only [List.mem_cons, List.not_mem_nil, or_false, not_or]
  exact ⟨c1, c2, c3, c4, old c o e⟩
theorem extend_zip {R : Result → Shared → Prop} (hh : A.in1.handled = none) (D : ZipApart z TI TO i1 i2 l1 l2) (hlen : xs.size = ys.size) (hn : xs.size ≤ sizeLine) (hz0 : IsZip s.heap z TI TO .none) (st : ZipSt s.heap z TI TO i1 i2 l1 l2 xs ys 0) (S : Addr) (nS : S ∉ [z, TI, TO, i1, i2, l1, l2]) (c0 : Nat)
    (hS : s.heap.get? S = some { cls := .type "list", data := .seq #[] c0 }) (n0 : Nat) (hn0 : n0 ≤ s.heap.objs.size) (res : Value)
    (hR : ∀ h' acc c', (∀ c o, c ∉ [z, TO, i1, i2, S] → s.heap.get? c = some o → h'.get? c = some o) → h'.get? S = some { cls := .type "list", dict := none, data := .seq acc c', slots := #[] } → Got h' n0 [z, TO, i1, i2, S] xs ys acc xs.size → R (.ok (.ret res)) { s with heap := h' }) :
    wpAny (model prog w) A.in1 (Builtin.List.listExtendWith (.ref S) (.ref z) res)
      (fun fin s' => match fin with | .done f => R (.ok f) s' | .again c' => c'.quiet = true ∧ codeAny (model prog w) A c' R s') (fun e s' => R (.error e) s') s := by
  have nz : S ≠ z := fun e => nS (by rw [e]; exact List.mem_cons_self)
  have ty : s.TypeIs (.ref z) "zip" := ⟨_, hz0, rfl⟩
  unfold Builtin.List.listExtendWith
  refine wpAny_bind (wpAny_typeOf ty ?_)
  have n1 : Builtin.List.listSameRef (.ref S) (.ref z) = false := by simp [Builtin.List.listSameRef, nz]
  have n2 : (Value.type "zip" == Value.type "list") = false := by decide
  have n3 : (Value.type "zip" == Value.type "tuple") = false := by decide
  simp only [n1, n2, n3, Bool.or_false, Bool.false_eq_true, if_false]
  refine wpAny_bind (wpAny_pyIter_zip hz0 ?_)
  refine wpAny_bind (wpAny_holding ?_)
  unfold Builtin.List.listLengthHint
  refine wpAny_bind (wpAny_specialOf ty zip_no_len ?_)
  show wpAny _ A.in1 (specialOf (Value.ref z) (Str.ofString "__length_hint__") >>= _) _ _ _
  refine wpAny_bind (wpAny_specialOf ty zip_no_hint ?_)
  refine wpAny_pure ?_
  show wpAny _ A.in1 (rule "list.extend.makes-room" >>= fun _ => Builtin.List.listTouch (.ref S) >>= fun _ =>
    again (.builtin "list.extend.loop" ⟨[.ref S, .ref z, res], []⟩)) _ _ _
  refine wpAny_bind (wpAny_rule ?_)
  refine wpAny_bind ?_
  show wpAny _ A.in1 (updateSeq S (·.push .none) >>= fun _ => updateSeq S (·.pop)) _ _ _
  refine wpAny_bind (wpAny_updateSeq hS rfl ?_)
  have at2 := Heap.get?_update_self (Obj.mapSeq (·.push Value.none)) hS rfl
  refine wpAny_updateSeq at2 rfl ?_
  have at3 := Heap.get?_update_self (Obj.mapSeq (·.pop)) at2 rfl
  have oth : ∀ b o, b ≠ S → s.heap.get? b = some o → ((s.heap.update S (Obj.mapSeq (·.push Value.none))).update S (Obj.mapSeq (·.pop))).get? b = some o :=
    fun b o hb e => (Heap.get?_update_other _ _ (Ne.symm hb)).trans ((Heap.get?_update_other _ _ (Ne.symm hb)).trans e)
  have big : s.heap.objs.size ≤ ((s.heap.update S (Obj.mapSeq (·.push Value.none))).update S (Obj.mapSeq (·.pop))).objs.size := by
    simp [Heap.size_update]
  refine wpAny_pure ⟨plainId_quiet F.plain_extend_loop _, zip_loop (i := 0) (s := { s with heap := ((s.heap.update S (Obj.mapSeq (·.push Value.none))).update S (Obj.mapSeq (·.pop))) })
    hh D hlen hn S nS res n0 xs.size #[] _ rfl (Nat.zero_le _) (st.keep nS oth ⟨_, at3⟩) at3 (Nat.le_trans hn0 big) ⟨rfl, (fun j v e => by simp at e), fun j k T U _ e => by simp at e⟩ fun h' acc' c' kp hS got => ?_⟩
  exact hR h' acc' c' (fun c o hc e => kp c o hc (oth c o (fun q => hc (by simp [q])) e)) hS got
theorem list_init_zip {R : Result → Shared → Prop} (hh : A.in1.handled = none) (D : ZipApart z TI TO i1 i2 l1 l2) (hlen : xs.size = ys.size) (hn : xs.size ≤ sizeLine) (hz0 : IsZip s.heap z TI TO .none) (st : ZipSt s.heap z TI TO i1 i2 l1 l2 xs ys 0) (S : Addr) (nS : S ∉ [z, TI, TO, i1, i2, l1, l2])
    (hS : s.heap.get? S = some { cls := .type "list", data := .seq #[] }) (n0 : Nat) (hn0 : n0 ≤ s.heap.objs.size)
    (hR : ∀ h' acc c', (∀ c o, c ∉ [z, TO, i1, i2, S] → s.heap.get? c = some o → h'.get? c = some o) → h'.get? S = some { cls := .type "list", dict := none, data := .seq acc c', slots := #[] } → Got h' n0 [z, TO, i1, i2, S] xs ys acc xs.size → R (.ok (.ret .none)) { s with heap := h' }) :
    wpAny (model prog w) A.in1 (Builtin.«list.__init__» ⟨[.ref S, .ref z], []⟩)
      (fun fin s' => match fin with | .done f => R (.ok f) s' | .again c' => c'.quiet = true ∧ codeAny (model prog w) A c' R s') (fun e s' => R (.error e) s') s := by
  have nz : S ≠ z := fun e => nS (by rw [e]; exact List.mem_cons_self)
  show wpAny _ _ (do let old ← Builtin.List.listItems (.ref S); Builtin.List.listUpdate (.ref S) (fun _ => #[]); letGo old.toList.reverse; Builtin.List.listExtendWith (.ref S) (.ref z) .none) _ _ s
  refine wpAny_bind ?_
  unfold Builtin.List.listItems
  refine wpAny_bind (wpAny_seqItems hS rfl (wpAny_pure ?_))
  show wpAny _ _ (updateSeq S (fun _ => #[]) >>= fun _ => letGo (#[] : Array Value).toList.reverse >>= fun _ => Builtin.List.listExtendWith (.ref S) (.ref z) .none) _ _ s
  refine wpAny_bind (wpAny_updateSeq hS rfl ?_)
  have hS₂ := Heap.get?_update_self (Obj.mapSeq (fun _ => (#[] : Array Value))) hS rfl
  have oth : ∀ b o, b ≠ S → s.heap.get? b = some o → (s.heap.update S (Obj.mapSeq (fun _ => (#[] : Array Value)))).get? b = some o :=
    fun b o hb e => (Heap.get?_update_other _ _ (Ne.symm hb)).trans e
  refine wpAny_bind (wpAny_letGo ?_)
  have big : s.heap.objs.size ≤ (s.heap.update S (Obj.mapSeq (fun _ => (#[] : Array Value)))).objs.size := by
    simp [Heap.size_update]
  refine extend_zip (s := { s with heap := s.heap.update S (Obj.mapSeq (fun _ => (#[] : Array Value))) }) hh D hlen hn (oth z _ nz.symm hz0) (st.keep nS oth ⟨_, hS₂⟩) S nS _ hS₂ n0 (Nat.le_trans hn0 big) .none fun h' acc c' kp hS' got => ?_
  exact hR h' acc c' (fun c o hc e => kp c o hc (oth c o (fun q => hc (by simp [q])) e)) hS' got
end
end PySem


namespace PySem
open Sem (wp)
open AutoSeq1 (wpAny_loadPart')
section
variable {prog : Program} {w : World} {A : Around} {E : Value → Shared → Prop} {s : Shared} {z TI TO i1 i2 l1 l2 : Addr} {xs ys : Array Value}
theorem code_tuple_zip {Q₁ : Value → Shared → Prop} (hh : A.handled = none) (D : ZipApart z TI TO i1 i2 l1 l2) (hlen : xs.size = ys.size) (hn : xs.size ≤ sizeLine) (hz0 : IsZip s.heap z TI TO .none) (st : ZipSt s.heap z TI TO i1 i2 l1 l2 xs ys 0)
    (hQ : ∀ h' acc, (∀ c o, c ≠ z → c ≠ TO → c ≠ i1 → c ≠ i2 → s.heap.get? c = some o → h'.get? c = some o) → s.heap.objs.size ≤ h'.objs.size → Got h' s.heap.objs.size [z, TO, i1, i2, s.heap.objs.size] xs ys acc xs.size → Q₁ (.ref h'.objs.size) { s with heap := h'.push { cls := .type "tuple", data := .seq acc } }) :
    codeAny (model prog w) A (.call (.builtin "tuple.__new__") ⟨[.type "tuple", .ref z], []⟩) (wants Q₁ E) s := by
  refine codeAny_of_tree ?_
  show wpAny _ A.in1 (do checkBuiltinCall "tuple.__new__" ⟨[.type "tuple", .ref z], []⟩; again (.builtin "tuple.__new__" ⟨[.type "tuple", .ref z], []⟩)) _ _ s
  refine wpAny_bind (wpAny_of_eq (F.newCall_tuple_1 _) (wpAny_pure ⟨plainId_quiet F.plain_tuple_new _, codeAny_builtin F.entry_tuple_new ?_⟩))
  rw [Around.under_plainId F.plain_tuple_new _]
  have subs := sub_tuple_self
  have inits := init_tuple_lookup
  have mades := madeHere_tuple
  have ty : s.TypeIs (.ref z) "zip" := ⟨_, hz0, rfl⟩
  wp_walk using wpAny_typeOf ty, collect_zip (A := A.in1) hh D hlen hn hz0 st
  intro h' acc kp big got
  show wpAny _ _ (Builtin.Tuple.tupleExact acc.toList.toArray >>= fun v => ret v) _ _ _
  unfold Builtin.Tuple.tupleExact
  refine wpAny_bind (wpAny_newObj_type ?_ (by show acc.toList.toArray.size ≤ sizeLine; simp only [Array.toArray_toList]; rw [got.1]; exact hn))
  refine wpAny_pure ?_
  have e : acc.toList.toArray = acc := by simp
  rw [e]
  exact hQ h' acc kp big got
theorem call_tuple_zip {Q : Value → Shared → Prop} (hh : A.handled = none) (D : ZipApart z TI TO i1 i2 l1 l2) (hlen : xs.size = ys.size) (hn : xs.size ≤ sizeLine) (hz0 : IsZip s.heap z TI TO .none) (st : ZipSt s.heap z TI TO i1 i2 l1 l2 xs ys 0)
    (hQ : ∀ h' acc, (∀ c o, c ≠ z → c ≠ TO → c ≠ i1 → c ≠ i2 → s.heap.get? c = some o → h'.get? c = some o) → s.heap.objs.size ≤ h'.objs.size → Got h' s.heap.objs.size [z, TO, i1, i2, s.heap.objs.size] xs ys acc xs.size → Q (.ref h'.objs.size) { s with heap := h'.push { cls := .type "tuple", data := .seq acc } }) :
    wpAny (model prog w) A (call (.type "tuple") [.ref z]) Q E s := by
  refine callType_codes (Q₁ := fun obj s₁ => s₁.TypeIs obj "tuple" ∧ Q obj s₁) F.called_tuple (F.typeCall_tuple_1 _) F.entry_object_init
    (code_tuple_zip hh D hlen hn hz0 st fun h' acc kp big got => ⟨⟨_, Heap.get?_push_size _ rfl, rfl⟩, hQ h' acc kp big got⟩) fun obj s₁ h₁ => ?_
  exact ⟨h₁.1, F.args_object_init_2 obj _, object_init_meets F.called_tuple.init.lookup F.called_tuple.made (by decide) prog w A.in1 _ s₁ ⟨h₁.1, rfl, h₁.2⟩⟩
theorem call_list_zip {Q : Value → Shared → Prop} (hh : A.handled = none) (D : ZipApart z TI TO i1 i2 l1 l2) (hlen : xs.size = ys.size) (hn : xs.size ≤ sizeLine) (hz0 : IsZip s.heap z TI TO .none) (st : ZipSt s.heap z TI TO i1 i2 l1 l2 xs ys 0)
    (hQ : ∀ h' acc c', (∀ c o, c ≠ z → c ≠ TO → c ≠ i1 → c ≠ i2 → s.heap.get? c = some o → h'.get? c = some o) → h'.get? s.heap.objs.size = some { cls := .type "list", dict := none, data := .seq acc c', slots := #[] } → Got h' s.heap.objs.size [z, TO, i1, i2, s.heap.objs.size] xs ys acc xs.size → Q (.ref s.heap.objs.size) { s with heap := h' }) :
    wpAny (model prog w) A (call (.type "list") [.ref z]) Q E s := by
  have old : ∀ c o, s.heap.get? c = some o → c ≠ s.heap.objs.size := fun c o e => Nat.ne_of_lt (Heap.lt_size e)
  have nS : s.heap.objs.size ∉ [z, TI, TO, i1, i2, l1, l2] := by
    obtain ⟨lz, lTO, li1, li2⟩ := zip_lts D st
    obtain ⟨_, ti, _, _, _, ⟨o1, e1, _⟩, ⟨o2, e2, _⟩⟩ := st
    simp only [List.mem_cons, List.not_mem_nil, or_false, not_or]
    exact ⟨Nat.ne_of_gt lz, (old _ _ ti).symm, Nat.ne_of_gt lTO, Nat.ne_of_gt li1, Nat.ne_of_gt li2, (old _ _ e1).symm, (old _ _ e2).symm⟩
  refine callType_codes (Q₁ := fun obj s₁ => obj = .ref s.heap.objs.size ∧ s₁ = { s with heap := s.heap.push { cls := .type "list", data := .seq #[] } }) F.called_list (F.typeCall_list_1 _) F.entry_list_init
    (code_list_new _ ⟨rfl, rfl⟩) fun obj s₁ h₁ => ?_
  obtain ⟨rfl, rfl⟩ := h₁
  have hS : (s.heap.push { cls := .type "list", data := .seq #[] }).get? s.heap.objs.size = some { cls := .type "list", data := .seq #[] } := Heap.get?_push_size _ rfl
  have up : ∀ c o, s.heap.get? c = some o → (s.heap.push { cls := .type "list", data := .seq #[] }).get? c = some o := fun c o e => Heap.get?_push_of_some _ e
  refine ⟨⟨_, hS, rfl⟩, F.args_list_init_2 _ _, list_init_zip (A := A.in1) (s := { s with heap := s.heap.push { cls := .type "list", data := .seq #[] } }) hh D hlen hn (up _ _ hz0) (st.keep nS (fun c o _ e => up c o e) ⟨_, hS⟩) s.heap.objs.size nS hS s.heap.objs.size (Nat.le_of_lt (Heap.lt_size hS)) fun h' acc c' kp hS' got => ?_⟩
  refine ⟨rfl, hQ h' acc c' (fun c o c1 c2 c3 c4 e => kp c o ?_ (up c o e)) hS' got⟩
  simp only [List.mem_cons, List.not_mem_nil, or_false, not_or]
  exact ⟨c1, c2, c3, c4, old c o e⟩
end
end PySem


namespace L2
open PySem PySem.Spec PyProof.Rows
/-! tuple(zip(xs, ys)), list(zip(xs, ys)), in the hand layer: the pairs are new, and tracked -/
def layT : List (Addr × (V × V)) → Hp → Hp
  | [], H => H
  | p :: r, H => layT r (upd H p.1 (.tup [p.2.1, p.2.2]))
theorem layT_out : ∀ (l : List (Addr × (V × V))) (H : Hp) (c : Addr), c ∉ l.map (·.1) → layT l H c = H c
  | [], _, _, _ => rfl
  | p :: r, H, c, h => by
    simp only [List.map_cons, List.mem_cons, not_or] at h
    show layT r (upd H p.1 (.tup [p.2.1, p.2.2])) c = H c
    rw [layT_out r _ c h.2, upd_ne h.1]
theorem layT_in : ∀ (l : List (Addr × (V × V))) (H : Hp), (l.map (·.1)).Nodup → ∀ p ∈ l, layT l H p.1 = some (.tup [p.2.1, p.2.2])
  | [], _, _, _, h => nomatch h
  | q :: r, H, nd, p, h => by
    rw [List.map_cons, List.nodup_cons] at nd
    show layT r (upd H q.1 (.tup [q.2.1, q.2.2])) p.1 = _
    rcases List.mem_cons.mp h with e | e
    · rw [e, layT_out r _ _ nd.1, upd_same]
    · exact layT_in r _ nd.2 p e
/-- the pairs of xs and ys stand in H2 at ts, all new -/
def ZipNew (H1 H2 : Hp) (xs ys : List V) (ts : List Addr) : Prop := Same H1 H2 ∧ Paired (fun (T : Addr) (p : V × V) => H1 T = none ∧ H2 T = some (.tup [p.1, p.2])) ts (xs.zip ys)
def rZipT (K : PySem.W.Frag) (vs : List V) (H1 : Hp) (Q : VK) : Prop := ∃ (a b : Addr) (xs ys : List V), vs = [.ref a, .ref b] ∧ SqL K H1 a xs ∧ SqL K H1 b ys ∧ xs.length = ys.length ∧ xs.length ≤ 1000 ∧
  ∀ H2 ts t, ZipNew H1 H2 xs ys ts → H1 t = none → H2 t = some (.tup (ts.map V.ref)) → Q (.ref t) H2
def rZipL (K : PySem.W.Frag) (vs : List V) (H1 : Hp) (Q : VK) : Prop := ∃ (a b : Addr) (xs ys : List V), vs = [.ref a, .ref b] ∧ SqL K H1 a xs ∧ SqL K H1 b ys ∧ xs.length = ys.length ∧ xs.length ≤ 1000 ∧
  ∀ H2 ts t, ZipNew H1 H2 xs ys ts → H1 t = none → H2 t = some (.lst (ts.map V.ref)) → Q (.ref t) H2
def tTupZip (K : PySem.W.Frag) (ta : TA) : TE := fun σ H Q => ta σ H fun vs H1 => rZipT K vs H1 Q
def tLstZip (K : PySem.W.Frag) (ta : TA) : TE := fun σ H Q => ta σ H fun vs H1 => rZipL K vs H1 Q
theorem refsZ : ∀ (l : List Value), (∀ v ∈ l, ∃ T : Addr, v = .ref T) → ∃ ts : List Addr, l = ts.map Value.ref
  | [], _ => ⟨[], rfl⟩
  | v :: l, h => by
    obtain ⟨T, rfl⟩ := h v List.mem_cons_self
    obtain ⟨ts, e⟩ := refsZ l fun u hu => h u (List.mem_cons_of_mem _ hu)
    exact ⟨T :: ts, by rw [e]; rfl⟩
theorem valsZ : ∀ ts : List Addr, Vals (ts.map V.ref) (ts.map Value.ref)
  | [] => .nil
  | t :: ts => .cons rfl (valsZ ts)
theorem zipped_map {ts : List Addr} {ps : List (V × V)} (h : ts.length = ps.length) : (ts.zip ps).map (·.1) = ts := List.map_fst_zip (Nat.le_of_eq h)
section
variable {X : Cx} {pins : List (Addr × Obj)} {σ : St} {H1 : Hp} {s1 : Shared}
/-- behind a zip that was told whole: the pairs are tracked -/
theorem track_zip (I1 : Inv X pins σ H1 s1) {xs ys : List V} {its its2 : List Value} (rv : Vals xs its) (rv2 : Vals ys its2) (hl : xs.length = ys.length) (hn : xs.length ≤ 1000) {h3 : Heap} {n0 : Nat} {bad : List Addr} {acc : Array Value} {t : Addr} {u : List Addr → HO}
    (n1 : s1.heap.objs.size ≤ n0) (got : Got h3 n0 bad its.toArray its2.toArray acc xs.length) (k : ∀ b o, s1.heap.get? b = some o → h3.get? b = some o) (ht : s1.heap.objs.size ≤ t) (htb : ∀ (j : Nat) (T : Addr), acc[j]? = some (.ref T) → T ≠ t)
    (hu : ∀ (ts : List Addr) (H2 : Hp), acc.toList = ts.map Value.ref → ts.length = xs.length → ObjOk X.prog X.w H2 h3 t (u ts)) :
    ∃ (ts : List Addr) (H2 : Hp), Inv X pins σ H2 { s1 with heap := h3 } ∧ ZipNew H1 H2 xs ys ts ∧ H1 t = none ∧ H2 t = some (u ts) := by
  obtain ⟨g1, g2, g3⟩ := got
  have at_ : ∀ (j : Nat) (v : Value), acc.toList[j]? = some v → acc[j]? = some v := fun j v e => by rw [← Array.getElem?_toList]; exact e
  obtain ⟨ts, ets⟩ := refsZ acc.toList fun v hv => by
    obtain ⟨j, hj⟩ := List.mem_iff_getElem?.mp hv
    obtain ⟨T, _, _, e, _⟩ := g2 j v (at_ j v hj)
    exact ⟨T, e⟩
  have lts : ts.length = xs.length := by
    have z : acc.toList.length = ts.length := by rw [ets, List.length_map]
    rw [← z, Array.length_toList, g1]
  have lz : (xs.zip ys).length = xs.length := by rw [List.length_zip]; omega
  have acc_at : ∀ (j : Nat) (T : Addr), ts[j]? = some T → acc[j]? = some (.ref T) := fun j T e => at_ j _ (by rw [ets, List.getElem?_map, e]; rfl)
  have nd : ts.Nodup := by
    rw [List.Nodup, List.pairwise_iff_getElem]
    intro i j hi hj hij
    exact Nat.ne_of_lt (g3 i j _ _ hij (acc_at i _ (List.getElem?_eq_getElem hi)) (acc_at j _ (List.getElem?_eq_getElem hj)))
  have emap : (ts.zip (xs.zip ys)).map (·.1) = ts := zipped_map (by rw [lz, lts])
  have big : ∀ T ∈ ts, s1.heap.objs.size ≤ T ∧ T ≠ t := fun T hT => by
    obtain ⟨j, hj⟩ := List.mem_iff_getElem?.mp hT
    obtain ⟨T', _, _, e, h0, _⟩ := g2 j _ (acc_at j T hj)
    cases e
    exact ⟨Nat.le_trans n1 h0, htb j T (acc_at j T hj)⟩
  have out1 : ∀ c, c ∉ ts → layT (ts.zip (xs.zip ys)) H1 c = H1 c := fun c hc => layT_out _ _ c (by rw [emap]; exact hc)
  have in1 : ∀ p ∈ ts.zip (xs.zip ys), layT (ts.zip (xs.zip ys)) H1 p.1 = some (.tup [p.2.1, p.2.2]) := layT_in _ _ (by rw [emap]; exact nd)
  have old : ∀ c, c < s1.heap.objs.size → c ∉ ts ∧ c ≠ t := fun c hc => ⟨fun hm => Nat.lt_irrefl _ (Nat.lt_of_lt_of_le hc (big c hm).1), fun e => Nat.lt_irrefl _ (Nat.lt_of_lt_of_le hc (e ▸ ht))⟩
  have keep1 : ∀ c, c < s1.heap.objs.size → upd (layT (ts.zip (xs.zip ys)) H1) t (u ts) c = H1 c := fun c hc => by
    rw [upd_ne (old c hc).2, out1 c (old c hc).1]
  have tracked : ∀ c o, H1 c = some o → c < s1.heap.objs.size := fun c o e => I1.hok.lt e
  have same : ∀ c o, H1 c = some o → upd (layT (ts.zip (xs.zip ys)) H1) t (u ts) c = some o := fun c o e => (keep1 c (tracked c o e)).trans e
  refine ⟨ts, upd (layT (ts.zip (xs.zip ys)) H1) t (u ts), ?_, ⟨same, ?_⟩, I1.hok.fresh ht, upd_same⟩
  · refine I1.un (t' := s1.toks) ⟨fun b o q _ _ _ => k b o q, fun b o q _ _ _ => ⟨o.slots, k b o q⟩, fun b o q n _ => (keep1 b (Heap.lt_size q)).trans n, fun b o q _ => ⟨o, k b o q⟩, fun b xs q => same b _ q, fun b o u q => same b _ q, fun b ps q => ⟨#[], by rw [same b _ q]; simp⟩⟩ fun c o e => ?_
    by_cases hc : c = t
    · subst hc
      rw [upd_same] at e
      cases e
      exact hu ts _ ets lts
    · rw [upd_ne hc] at e
      by_cases hm : c ∈ ts
      · obtain ⟨j, hj⟩ := List.mem_iff_getElem?.mp hm
        have hjl : j < ts.length := (List.getElem?_eq_some_iff.mp hj).1
        obtain ⟨T', x, y, e1, _, _, hx, hy, hp⟩ := g2 j _ (acc_at j c hj)
        cases e1
        have mx : xs[j]? = some xs[j] := List.getElem?_eq_getElem (by omega)
        have my : ys[j]? = some ys[j] := List.getElem?_eq_getElem (by omega)
        have mz : (c, (xs[j], ys[j])) ∈ ts.zip (xs.zip ys) := by
          refine List.mem_iff_getElem?.mpr ⟨j, ?_⟩
          rw [List.getElem?_zip_eq_some, List.getElem?_zip_eq_some]
          exact ⟨hj, mx, my⟩
        rw [in1 _ mz] at e
        cases e
        obtain ⟨u1, hu1, ru1⟩ := rv.get mx
        obtain ⟨u2, hu2, ru2⟩ := rv2.get my
        have ex : u1 = x := by
          have : its.toArray[j]? = some u1 := by simpa using hu1
          rw [hx] at this
          exact (Option.some.inj this).symm
        have ey : u2 = y := by
          have : its2.toArray[j]? = some u2 := by simpa using hu2
          rw [hy] at this
          exact (Option.some.inj this).symm
        exact ⟨by show 2 ≤ sizeLine; decide, [x, y], .cons (ex ▸ ru1) (.cons (ey ▸ ru2) .nil), ⟨_, hp, rfl, _, rfl⟩⟩
      · rw [out1 c hm] at e
        exact (I1.hok c o e).stay (fun b v _ q => k b v q) (fun b q => same b _ q) fun b xs q => same b _ q
  · have pw : ∀ (l : List Addr) (ps : List (V × V)), l.length = ps.length → (∀ p ∈ l.zip ps, H1 p.1 = none ∧ upd (layT (ts.zip (xs.zip ys)) H1) t (u ts) p.1 = some (.tup [p.2.1, p.2.2])) →
        Paired (fun (T : Addr) (p : V × V) => H1 T = none ∧ upd (layT (ts.zip (xs.zip ys)) H1) t (u ts) T = some (.tup [p.1, p.2])) l ps := by
      intro l
      induction l with
      | nil => intro ps hl _; cases ps with
        | nil => exact .nil
        | cons p ps => simp at hl
      | cons T l ih => intro ps hl h; cases ps with
        | nil => simp at hl
        | cons p ps => exact .cons (h (T, p) (by simp)) (ih ps (by simpa using hl) fun q hq => h q (by simp [hq]))
    refine pw ts (xs.zip ys) (by rw [lz, lts]) fun p hp => ?_
    have hT : p.1 ∈ ts := by
      have := List.mem_map_of_mem (f := fun x : Addr × (V × V) => x.1) hp
      rw [emap] at this
      exact this
    refine ⟨I1.hok.fresh (big _ hT).1, ?_⟩
    rw [upd_ne (big _ hT).2]
    exact in1 p hp
variable {e e2 : Expr} {ta : TA} {p p2 q pos : Pos}
theorem pe_tupZip (hc : X.calm = true) (hg : Gl X "tuple") (hm : X.mg "tuple" = none) (hg2 : Gl X "zip") (hm2 : X.mg "zip" = none) (ha : PA X [e, e2] ta)
    (hs : starEach [e, e2] X.env = (false, eval e X.env) :: starEach [e2] X.env := by rfl) (hpl : (backTo q (starEach [e2] X.env)).any (·.1) = false := by rfl)
    (na : starEach [.Call (.Name "zip" p2) [e, e2] [] q] X.env = (false, eval (.Call (.Name "zip" p2) [e, e2] [] q) X.env) :: starEach [] X.env := by rfl) :
    PE X (.Call (.Name "tuple" p) [.Call (.Name "zip" p2) [e, e2] [] q] [] pos) (tTupZip X.K ta) := by
  refine ⟨fun pins s σ H Q I h => ?_⟩
  refine Call_ (ld_blt I hg hm boot_tuple (PyProof.Rows.callWith_type1 (PyProof.Rows.args_cons ?_ na) na rfl))
  refine Call_ (ld_blt I hg2 hm2 PyProof.Rows.boot_zip (PyProof.Rows.callWith_type1 (thn (ha.run q pins s σ H _ I h) fun us s1 ⟨vs, H1, I1, r1, q1⟩ => ?_) hs hpl))
  obtain ⟨a, b, xs, ys, ex, hqx, hqy, hl, hn, fin⟩ := q1
  subst ex
  cases r1 with
  | cons r rr =>
    cases rr with
    | cons r' rr =>
      cases rr
      cases r
      cases r'
      obtain ⟨its, rv, p1, _⟩ := I1.list hqx
      obtain ⟨its2, rv2, p2, _⟩ := I1.list hqy
      have lx := rv.length
      have ly := rv2.length
      refine call_zip_2 p1.isList p2.isList fun h' hz hTI hTO h1 h2 hsz hk => PyProof.Rows.args_nil ?_
      have st : ZipSt h' (s1.heap.objs.size + 4) (s1.heap.objs.size + 2) (s1.heap.objs.size + 3) s1.heap.objs.size (s1.heap.objs.size + 1) a b its.toArray its2.toArray 0 := ⟨.inl hz, hTI, ⟨_, _, hTO⟩, h1, h2, p1.isList.at fun o e => hk _ o e, p2.isList.at fun o e => hk _ o e⟩
      refine call_tuple_zip (s := { s1 with heap := h' }) (I1.ok.hd hc) (PySem.W.ktu_apart s1.heap.objs.size a b p1.lt p2.lt) (by simp; omega) (by simp; exact Nat.le_of_lt (small1000 (by omega))) hz st fun h3 acc kp big got => ?_
      have size3 : its.toArray.size = xs.length := by simp; omega
      rw [size3] at got
      have far : ∀ b o, s1.heap.get? b = some o → h3.get? b = some o := fun b o e => by
        have lt := Heap.lt_size e
        exact kp b o (Nat.ne_of_lt (Nat.lt_of_lt_of_le lt (Nat.le_add_right _ _))) (Nat.ne_of_lt (Nat.lt_of_lt_of_le lt (Nat.le_add_right _ _))) (Nat.ne_of_lt lt) (Nat.ne_of_lt (Nat.lt_of_lt_of_le lt (Nat.le_add_right _ _))) (hk b o e)
      have push : ∀ b o, h3.get? b = some o → (h3.push { cls := .type "tuple", data := .seq acc }).get? b = some o := fun b o e => Heap.get?_push_of_some _ e
      have got' : Got (h3.push { cls := .type "tuple", data := .seq acc }) h'.objs.size [s1.heap.objs.size + 4, s1.heap.objs.size + 3, s1.heap.objs.size, s1.heap.objs.size + 1, h'.objs.size] its.toArray its2.toArray acc xs.length := got.keep fun c o _ e => push c o e
      obtain ⟨ts, H2, I2, zn, t0, t2⟩ := track_zip (u := fun ts => .tup (ts.map V.ref)) (t := h3.objs.size) I1 rv rv2 hl hn (by omega : s1.heap.objs.size ≤ h'.objs.size) got' (fun b o e => push b o (far b o e)) (by have : h'.objs.size ≤ h3.objs.size := big; omega) (fun j T e => Nat.ne_of_lt (got.low j T e))
        (fun ts H2 ets lts => ⟨by rw [List.length_map, lts]; exact Nat.le_of_lt (small1000 hn), ts.map Value.ref, valsZ ts, ⟨_, Heap.get?_push_size _ rfl, rfl, _, by rw [← ets]⟩⟩)
      exact ⟨.ref h3.objs.size, H2, I2, rfl, fin H2 ts _ zn t0 t2⟩
theorem pe_lstZip (hc : X.calm = true) (hg : Gl X "list") (hm : X.mg "list" = none) (hg2 : Gl X "zip") (hm2 : X.mg "zip" = none) (ha : PA X [e, e2] ta)
    (hs : starEach [e, e2] X.env = (false, eval e X.env) :: starEach [e2] X.env := by rfl) (hpl : (backTo q (starEach [e2] X.env)).any (·.1) = false := by rfl)
    (na : starEach [.Call (.Name "zip" p2) [e, e2] [] q] X.env = (false, eval (.Call (.Name "zip" p2) [e, e2] [] q) X.env) :: starEach [] X.env := by rfl) :
    PE X (.Call (.Name "list" p) [.Call (.Name "zip" p2) [e, e2] [] q] [] pos) (tLstZip X.K ta) := by
  refine ⟨fun pins s σ H Q I h => ?_⟩
  refine Call_ (ld_blt I hg hm boot_list (PyProof.Rows.callWith_type1 (PyProof.Rows.args_cons ?_ na) na rfl))
  refine Call_ (ld_blt I hg2 hm2 PyProof.Rows.boot_zip (PyProof.Rows.callWith_type1 (thn (ha.run q pins s σ H _ I h) fun us s1 ⟨vs, H1, I1, r1, q1⟩ => ?_) hs hpl))
  obtain ⟨a, b, xs, ys, ex, hqx, hqy, hl, hn, fin⟩ := q1
  subst ex
  cases r1 with
  | cons r rr =>
    cases rr with
    | cons r' rr =>
      cases rr
      cases r
      cases r'
      obtain ⟨its, rv, p1, _⟩ := I1.list hqx
      obtain ⟨its2, rv2, p2, _⟩ := I1.list hqy
      have lx := rv.length
      have ly := rv2.length
      refine call_zip_2 p1.isList p2.isList fun h' hz hTI hTO h1 h2 hsz hk => PyProof.Rows.args_nil ?_
      have st : ZipSt h' (s1.heap.objs.size + 4) (s1.heap.objs.size + 2) (s1.heap.objs.size + 3) s1.heap.objs.size (s1.heap.objs.size + 1) a b its.toArray its2.toArray 0 := ⟨.inl hz, hTI, ⟨_, _, hTO⟩, h1, h2, p1.isList.at fun o e => hk _ o e, p2.isList.at fun o e => hk _ o e⟩
      refine call_list_zip (s := { s1 with heap := h' }) (I1.ok.hd hc) (PySem.W.ktu_apart s1.heap.objs.size a b p1.lt p2.lt) (by simp; omega) (by simp; exact Nat.le_of_lt (small1000 (by omega))) hz st fun h3 acc c' kp hS got => ?_
      have size3 : its.toArray.size = xs.length := by simp; omega
      rw [size3] at got
      have far : ∀ b o, s1.heap.get? b = some o → h3.get? b = some o := fun b o e => by
        have lt := Heap.lt_size e
        exact kp b o (Nat.ne_of_lt (Nat.lt_of_lt_of_le lt (Nat.le_add_right _ _))) (Nat.ne_of_lt (Nat.lt_of_lt_of_le lt (Nat.le_add_right _ _))) (Nat.ne_of_lt lt) (Nat.ne_of_lt (Nat.lt_of_lt_of_le lt (Nat.le_add_right _ _))) (hk b o e)
      obtain ⟨ts, H2, I2, zn, t0, t2⟩ := track_zip (u := fun ts => .lst (ts.map V.ref)) (t := h'.objs.size) I1 rv rv2 hl hn (by omega : s1.heap.objs.size ≤ h'.objs.size) got far (by omega) (fun j T e z => by
          obtain ⟨T', _, _, e1, _, nb, _⟩ := got.2.1 j _ e
          cases e1
          exact nb (by simp [z]))
        (fun ts H2 ets lts => ⟨by rw [List.length_map, lts]; exact Nat.le_of_lt (small1000 hn), ts.map Value.ref, c', valsZ ts, by rw [← ets]; simpa using hS⟩)
      exact ⟨.ref h'.objs.size, H2, I2, rfl, fin H2 ts _ zn t0 t2⟩
end
end L2


namespace Toy
open PySem PySem.Spec L2 PyProof.Rows PySem.W
abbrev sKey : Stmt := top 8
/-! ### nests of tuples of numbers and texts -/
def TK (H H' : Hp) : Prop := ∀ b xs, H b = some (.tup xs) → H' b = some (.tup xs)
theorem TK.refl {H : Hp} : TK H H := fun _ _ h => h
theorem TK.trans {H H1 H2 : Hp} (a : TK H H1) (b : TK H1 H2) : TK H H2 := fun x xs h => b x xs (a x xs h)
theorem tkS {H H' : Hp} (s : Same H H') : TK H H' := fun b _ h => s b _ h
theorem TK.updL {H : Hp} {D : Addr} {acc : List V} {u : HO} (h : H D = some (.lst acc)) : TK H (L2.upd H D u) := fun b xs hb => by
  rw [upd_ne (ne_of hb h (by intro z; cases z))]
  exact hb
mutual
inductive Tp (H : Hp) : V → PyData → Prop
  | int (i : Int) : Tp H (.int i) (.int i)
  | str (x : Str) : Tp H (.str x) (.str x)
  | tup {a : Addr} {xs : List V} {ds : List PyData} : H a = some (.tup xs) → TpAll H xs ds → Tp H (.ref a) (.tuple ds)
inductive TpAll (H : Hp) : List V → List PyData → Prop
  | nil : TpAll H [] []
  | cons {v : V} {vs : List V} {d : PyData} {ds : List PyData} : Tp H v d → TpAll H vs ds → TpAll H (v :: vs) (d :: ds)
end
mutual
theorem Tp.mono {H H' : Hp} (s : TK H H') : ∀ {v : V} {d : PyData}, Tp H v d → Tp H' v d
  | _, _, .int i => .int i
  | _, _, .str x => .str x
  | _, _, .tup h a => .tup (s _ _ h) (TpAll.mono s a)
theorem TpAll.mono {H H' : Hp} (s : TK H H') : ∀ {v : List V} {d : List PyData}, TpAll H v d → TpAll H' v d
  | _, _, .nil => .nil
  | _, _, .cons a b => .cons (Tp.mono s a) (TpAll.mono s b)
end
mutual
theorem Tp.dp {K : PySem.W.Frag} {H : Hp} : ∀ {v : V} {d : PyData}, Tp H v d → Dp K H v d
  | _, _, .int i => .int i
  | _, _, .str x => .str x
  | _, _, .tup h a => .tup (SqT.of h) (TpAll.dp a)
theorem TpAll.dp {K : PySem.W.Frag} {H : Hp} : ∀ {v : List V} {d : List PyData}, TpAll H v d → DpAll K H v d
  | _, _, .nil => .nil
  | _, _, .cons a b => .cons (Tp.dp a) (TpAll.dp b)
end
theorem TpAll.len {H : Hp} : ∀ {v : List V} {d : List PyData}, TpAll H v d → v.length = d.length
  | _, _, .nil => rfl
  | _, _, .cons a b => congrArg Nat.succ (TpAll.len b)
theorem TpAll.snoc {H : Hp} {u : V} {e : PyData} (h : Tp H u e) : ∀ {v : List V} {d : List PyData}, TpAll H v d → TpAll H (v ++ [u]) (d ++ [e])
  | _, _, .nil => .cons h .nil
  | _, _, .cons a b => .cons a (TpAll.snoc h b)
theorem TpAll.get {H : Hp} : ∀ {v : List V} {d : List PyData}, TpAll H v d → ∀ (i : Nat) (x : V), v[i]? = some x → ∃ e, d[i]? = some e ∧ Tp H x e
  | _, _, .nil, i, x, h => by simp at h
  | _, _, .cons a b, 0, x, h => ⟨_, rfl, by rw [← Option.some.inj h]; exact a⟩
  | _, _, .cons a b, i + 1, x, h => TpAll.get b i x h
/-- the first item of such a tuple -/
theorem Tp.first {H : Hp} {v : V} {c : Int} {ds : List PyData} (h : Tp H v (.tuple (.int c :: ds))) : ∃ a xs, v = .ref a ∧ H a = some (.tup (.int c :: xs)) := by
  cases h with
  | tup ha hx =>
    cases hx with
    | cons h1 h2 =>
      cases h1
      exact ⟨_, _, rfl, ha⟩
theorem first_at {H : Hp} {v : V} {c : Int} {xs : List V} : atI (V.int c :: xs) 0 = some (.int c) := by
  exact atI_nat (j := 0) rfl
theorem pairs_tp {H : Hp} : ∀ (ks : List Str) (ws : List V) (ds : List PyData) (ts : List Addr), ks.length = ws.length → TpAll H ws ds → Paired (fun (T : Addr) (p : V × V) => H T = some (.tup [p.1, p.2])) ts ((ks.map V.str).zip ws) → TpAll H (ts.map V.ref) (pairsP ks ds)
  | [], [], _, _, _, .nil, h => by cases h; exact .nil
  | [], _ :: _, _, _, e, _, _ => by simp at e
  | _ :: _, [], _, _, e, _, _ => by simp at e
  | k :: ks, w :: ws, d :: ds, ts, e, .cons a b, h => by
    cases h with
    | cons h1 h2 => exact .cons (.tup h1 (.cons (.str k) (.cons a .nil))) (pairs_tp ks ws ds _ (by simpa using e) b h2)
def sortsL : List Str := ["null", "no", "yes", "number", "text", "list", "dict"]
def SortsK (K : PySem.W.Frag) (aS : Addr) : Prop := ∃ (o : Obj) (its : Array Value) (n : Nat), K.lookup aS = some o ∧ o.cls = .type "tuple" ∧ o.dict = none ∧ o.data = .seq its n ∧ its.size ≤ sizeLine ∧ Vals (sortsL.map V.str) its.toList
theorem SortsK.seq {K : PySem.W.Frag} {aS : Addr} {H : Hp} (h : SortsK K aS) : SqT K H aS (sortsL.map V.str) := by
  obtain ⟨o, its, n, h1, h2, _, h4, h5, h6⟩ := h
  exact .inr ⟨o, its, n, h1, h2, h4, h5, h6⟩
theorem sort_at (d : D) : ∃ j : Nat, (j : Int) = place d ∧ sortsL[j]? = some (sortS d) ∧ ∀ m, m < j → sortsL[m]? ≠ some (sortS d) := by
  cases d with
  | bl b => cases b <;> exact ⟨_, rfl, rfl, by decide +kernel⟩
  | non => exact ⟨0, rfl, rfl, by decide +kernel⟩
  | int i => exact ⟨3, rfl, rfl, show ∀ m, m < 3 → sortsL[m]? ≠ some ("number" : Str) by decide +kernel⟩
  | str x => exact ⟨4, rfl, rfl, show ∀ m, m < 4 → sortsL[m]? ≠ some ("text" : Str) by decide +kernel⟩
  | lst ds => exact ⟨5, rfl, rfl, show ∀ m, m < 5 → sortsL[m]? ≠ some ("list" : Str) by decide +kernel⟩
  | dct ks ds => exact ⟨6, rfl, rfl, show ∀ m, m < 6 → sortsL[m]? ≠ some ("dict" : Str) by decide +kernel⟩
theorem inn_all (f : Nat → D → PyData) {H : Hp} {n : Nat} {us : List V} {d : D} (h : Inn n H us (inner d)) : (innP f n d).length = us.length := by
  cases n with
  | zero => rw [h.1]; rfl
  | succ n => rw [Inn.len h]; simp [innP]
/-- the sum of the parts' counts -/
theorem cnt_sum {H : Hp} {n : Nat} {us : List V} {d : D} (h : Inn n H us (inner d)) : cnt n d = 1 + ((inner d).map fun z => cnt (n - 1) z).sum := by
  cases n with
  | zero => rw [h.2]; rfl
  | succ n => rfl
end Toy


namespace Toy
open PySem PySem.Spec L2 PyProof.Rows PySem.W
def isI : D → Bool
  | .int _ => true
  | _ => false
def isS : D → Bool
  | .str _ => true
  | _ => false
def isD : D → Bool
  | .dct _ _ => true
  | _ => false
theorem sort_num (d : D) : decide (V.str (sortS d) = V.str ("number" : Str)) = isI d := by
  cases d with
  | bl b => cases b <;> decide +kernel
  | non => decide +kernel
  | int i => exact decide_eq_true rfl
  | str x => exact decide_eq_false (show ¬ V.str ("text" : Str) = V.str ("number" : Str) by decide +kernel)
  | lst x => exact decide_eq_false (show ¬ V.str ("list" : Str) = V.str ("number" : Str) by decide +kernel)
  | dct x y => exact decide_eq_false (show ¬ V.str ("dict" : Str) = V.str ("number" : Str) by decide +kernel)
theorem sort_txt (d : D) : decide (V.str (sortS d) = V.str ("text" : Str)) = isS d := by
  cases d with
  | bl b => cases b <;> decide +kernel
  | non => decide +kernel
  | str i => exact decide_eq_true rfl
  | int x => exact decide_eq_false (show ¬ V.str ("number" : Str) = V.str ("text" : Str) by decide +kernel)
  | lst x => exact decide_eq_false (show ¬ V.str ("list" : Str) = V.str ("text" : Str) by decide +kernel)
  | dct x y => exact decide_eq_false (show ¬ V.str ("dict" : Str) = V.str ("text" : Str) by decide +kernel)
theorem sort_dct (d : D) : decide (V.str (sortS d) = V.str ("dict" : Str)) = isD d := by
  cases d with
  | bl b => cases b <;> decide +kernel
  | non => decide +kernel
  | dct i j => exact decide_eq_true rfl
  | int x => exact decide_eq_false (show ¬ V.str ("number" : Str) = V.str ("dict" : Str) by decide +kernel)
  | lst x => exact decide_eq_false (show ¬ V.str ("list" : Str) = V.str ("dict" : Str) by decide +kernel)
  | str x => exact decide_eq_false (show ¬ V.str ("text" : Str) = V.str ("dict" : Str) by decide +kernel)
theorem three_ways (d : D) : (∃ i, d = .int i) ∨ (∃ x, d = .str x) ∨ (isI d = false ∧ isS d = false) := by
  cases d with
  | int i => exact .inl ⟨i, rfl⟩
  | str x => exact .inr (.inl ⟨x, rfl⟩)
  | _ => exact .inr (.inr ⟨rfl, rfl⟩)
theorem dct_of {d : D} (h : isD d = true) : ∃ ks ds, d = .dct ks ds := by
  cases d with
  | dct ks ds => exact ⟨ks, ds, rfl⟩
  | _ => cases h
theorem key_other {n : Nat} {d : D} (h1 : isI d = false) (h2 : isS d = false) (h3 : isD d = false) : key n d = .tuple [.int (cnt n d), .int (place d), .tuple (innP key n d)] := by
  rw [key_form]
  cases d with
  | int i => cases h1
  | str i => cases h2
  | dct i j => cases h3
  | _ => rfl
def spKey (j : Nat) : Sp := fun vs H Q _ => ∃ (v : V) (n : Nat) (d : D), n < j ∧ vs = [v] ∧ Da n H v d ∧ ∀ H' u, Same H H' → Tp H' u (key n d) → Q u H'
theorem text_of {n : Nat} {H : Hp} {v : V} {x : Str} (h : Da n H v (.str x)) : v = .str x ∧ PyData.strOk x = true ∧ x.length ≤ 1000 := by
  cases n <;> simpa only [Da] using h
theorem int_of {n : Nat} {H : Hp} {v : V} {i : Int} (h : Da n H v (.int i)) : v = .int i := by
  cases n <;> simpa only [Da] using h
theorem key_first (n : Nat) (d : D) : ∃ tl, key n d = .tuple (.int (cnt n d) :: tl) := ⟨_, key_form n d⟩
theorem rank_first (n : Nat) (d : D) : ∃ tl, rank n d = .tuple (.int (cnt n d) :: tl) := ⟨_, rank_form n d⟩
/-- the rows of the parts, and their counts -/
theorem first_row {f : Nat → D → PyData} (hf : ∀ n d, ∃ tl, f n d = .tuple (.int (cnt n d) :: tl)) {H : Hp} {n : Nat} {d : D} {ws : List V} (h : TpAll H ws (innP f n d)) : ∀ (i : Nat) (x : V), ws[i]? = some x → ∃ d', (inner d)[i]? = some d' ∧ ∃ a xs, x = .ref a ∧ H a = some (.tup (.int (cnt (n - 1) d') :: xs)) := by
  intro i x hx
  obtain ⟨e, he, te⟩ := h.get i x hx
  cases n with
  | zero => simp [innP] at he
  | succ n =>
    simp only [innP, List.getElem?_map] at he
    cases hd : (inner d)[i]? with
    | none => rw [hd] at he; cases he
    | some d' =>
      rw [hd] at he
      obtain ⟨tl, etl⟩ := hf n d'
      have ee : f n d' = e := Option.some.inj he
      rw [← ee, etl] at te
      exact ⟨d', rfl, te.first⟩
section
variable {P : Program} {w : World} {K : PySem.W.Frag} {mg : Str → Option Value} {base : Heap}
abbrev NO : List Str := ["datum", "sort", "place", "inner", "many", "part", "key"]
theorem scOk : FnScope NO ["datum"] (defScope sKey) := ⟨rfl, rfl, rfl, by decide +kernel, rfl, by decide +kernel, by decide +kernel⟩
theorem ok_key {f fS fI aS : Addr} {fd fdS fdI : FuncData} (F : Fun K "order_key" "order_key" sKey f fd)
    (GS : FnOk P w K mg base CX0 1 fS fdS ["datum"] spSort) (mS : mg "sort_of" = some (.ref fS)) (kS : PySem.W.keepIn K (.ref fS) = true) (bS : Binds K fdS ["datum"] [])
    (GI : FnOk P w K mg base CX0 2 fI fdI ["datum"] spInner) (mI : mg "inner_of" = some (.ref fI)) (kI : PySem.W.keepIn K (.ref fI) = true) (bI : Binds K fdI ["datum"] [])
    (mF : mg "order_key" = some (.ref f)) (kF : PySem.W.keepIn K (.ref f) = true) (bF : Binds K fd ["datum"] []) (mT : mg "SORTS" = some (.ref aS)) (hT : SortsK K aS)
    (mSum : mg "sum" = none) (mLen : mg "len" = none) (mTup : mg "tuple" = none) (mZip : mg "zip" = none) (mSo : mg "sorted" = none) : ∀ j : Nat, FnOk P w K mg base CX0 (j + 3) f fd ["datum"] (spKey j) := by
  intro j
  induction j with
  | zero => exact F.ok (k := 2) scOk (fun vs H Q E h => by obtain ⟨v, n, d, h0, _⟩ := h; exact absurd h0 (Nat.not_lt_zero _)) (fun cdv A outer s H vs Q E hr h => by obtain ⟨v, n, d, h0, _⟩ := h; exact absurd h0 (Nat.not_lt_zero _))
  | succ j ih =>
    refine F.ok (k := j + 3) scOk (fun vs H Q E h => ?_) (fun cdv A outer s H vs Q E hr h => ?_)
    · obtain ⟨v, n, d, _, rfl, _⟩ := h
      rfl
    · obtain ⟨v, n, d, hnj, rfl, hd, q⟩ := h
      have hr1 : Room 1 _ := hr.mono (show 1 ≤ j + 3 by omega)
      have hr2 : Room 2 _ := hr.mono (show 2 ≤ j + 3 by omega)
      refine ⟨_, pss_cons (ps_set (i := 1) scOk.nd rfl (Or.inl rfl) (pe_call GS hr1 (by rfl) mS kS bS .nil pass0 (pa_cons (pv 0) pa_nil)))
        (pss_cons (ps_set (i := 2) scOk.nd rfl (Or.inl rfl) (pe_bm PySem.F.plainAttrs_tuple PySem.F.slot_tuple_index PySem.F.type_tuple_index mt_tup_index (pe_glob (v := .ref aS) (by rfl) mT rfl) (pa_cons (pv 1) pa_nil)))
        (pss_cons (ps_if (pt_cmpR op_eq (pv 1) pe_str (nomark _)) (pss_one (ps_ret (pe_tup (pa_cons pe_int (pa_cons (pv 2) (pa_cons (pe_ifExp (pt_cmpR op_gt (pv 0) pe_int (nomark _)) (pe_op op_sub (pe_op op_mul pe_int (pv 0)) pe_int) (pe_op op_mul (pe_un un_neg pe_int) (pv 0))) pa_nil)))))) pss_nil)
        (pss_cons (ps_if (pt_cmpR op_eq (pv 1) pe_str (nomark _)) (pss_one (ps_ret (pe_tup (pa_cons pe_int (pa_cons (pv 2) (pa_cons (pe_callB call_len_str (by rfl) mLen PySem.boot_len (pa_cons (pv 0) pa_nil)) (pa_cons (pv 0) pa_nil))))))) pss_nil)
        (pss_cons (ps_setLc (i := 3) (own := [("part", 5)]) (g := gName 5) (by rfl) scOk.nd rfl rfl (sw_true rfl rfl rfl (by decide +kernel)) (pi_list (pe_call GI hr2 (by rfl) mI kI bI .nil pass0 (pa_cons (pv 0) pa_nil)))
            (blkOk_by (own := [("part", 5)]) (N := NO) (sc := defScope sKey) (by decide +kernel)) (fun _ _ _ _ _ => pg_name (i := 5) scOk.nd rfl (Or.inl rfl)) (fun _ _ _ _ _ => pts_nil)
            (fun _ _ _ _ _ => pe_call ih hr (by rfl) mF kF bF .nil pass0 (pa_cons (pv 5) pa_nil)))
        (pss_cons (ps_set (i := 4) scOk.nd rfl (Or.inl rfl) (pe_op op_add pe_int (pe_callB (cr_sum rfl) (by rfl) mSum (by decide +kernel) (pa_cons (pe_lc (own := [("key", 6)]) (g := gName 6) (te := tOp (rIxT K) (tVar 6) (tC (.int 0))) (by rfl) scOk.nd (pi_list (pv 3))
            (blkOk_by (own := [("key", 6)]) (N := NO) (sc := defScope sKey) (by decide +kernel)) (fun _ _ _ _ _ => pg_name (i := 6) scOk.nd rfl (Or.inl rfl)) (fun _ _ _ _ _ => pts_nil)
            (fun _ _ _ _ _ => pe_ix ix_tup (pv 6) pe_int (fun _ _ => rfl))) pa_nil))))
        (pss_cons (ps_if (pt_cmpR op_eq (pv 1) pe_str (nomark _)) (pss_one (ps_ret (pe_tup (pa_cons (pv 4) (pa_cons (pv 2) (pa_cons (pe_tupZip (by rfl) (by rfl) mTup (by rfl) mZip (pa_cons (pe_callB (call_sortedD rfl) (by rfl) mSo (by decide +kernel) (pa_cons (pv 0) pa_nil)) (pa_cons (pv 3) pa_nil))) pa_nil)))))) pss_nil)
        (pss_one (ps_ret (pe_tup (pa_cons (pv 4) (pa_cons (pv 2) (pa_cons (pe_callTy call_tuple_of (by rfl) mTup (by decide +kernel) (pa_cons (pv 3) pa_nil)) pa_nil)))))))))))), ?_⟩
      obtain ⟨o, its, m, t1, t2, t3, _⟩ := id hT
      obtain ⟨p, ep, hp, hmin⟩ := sort_at d
      refine ⟨_, rfl, v, n, d, rfl, hd, .inr (.inl ⟨rfl, o, t1, t2, t3⟩), _, rfl, aS, sortsL, sortS d, p, rfl, rfl, hT.seq, hp, hmin, ?_⟩
      rw [ep]
      rcases three_ways d with ⟨i, rfl⟩ | ⟨x, rfl⟩ | ⟨hI, hS⟩
      · obtain rfl := int_of hd
        have ek : key n (.int i) = .tuple [.int 1, .int 3, .int (if i > 0 then 2 * i - 1 else -2 * i)] := by cases n <;> rfl
        refine ⟨_, rfl, rfl, _, rfl, ?_⟩
        rw [sort_num]
        refine iteT ⟨_, rfl, _, rfl, _, _, rfl, rfl, _, rfl, ite2 (fun c => ?_) (fun c => ?_)⟩
        · refine ⟨_, rfl, _, _, rfl, rfl, .inl ⟨by decide, by decide⟩, _, _, rfl, rfl, few (by show 3 ≤ 1000; decide), fun e ne => q _ _ (same_new (fun _ _ z => z) ne) ?_⟩
          rw [ek, if_pos (of_decide_eq_true c)]
          exact .tup upd_same (.cons (.int _) (.cons (.int _) (.cons (.int _) .nil)))
        · refine ⟨_, rfl, _, rfl, _, _, rfl, rfl, .inl ⟨by decide, by decide⟩, few (by show 3 ≤ 1000; decide), fun e ne => q _ _ (same_new (fun _ _ z => z) ne) ?_⟩
          rw [ek, if_neg (fun z => c (decide_eq_true z))]
          exact .tup upd_same (.cons (.int _) (.cons (.int _) (.cons (.int _) .nil)))
      · obtain ⟨rfl, okx, lx⟩ := text_of hd
        have ek : key n (.str x) = .tuple [.int 1, .int 4, .int x.length, .str x] := by cases n <;> rfl
        refine ⟨_, rfl, rfl, _, rfl, ?_⟩
        rw [sort_num]
        refine iteF ⟨_, rfl, rfl, _, rfl, ?_⟩
        rw [sort_txt]
        refine iteT ⟨_, rfl, _, rfl, _, rfl, few lx, _, rfl, few (by show 4 ≤ 1000; decide), fun e ne => q _ _ (same_new (fun _ _ z => z) ne) ?_⟩
        rw [ek]
        exact .tup upd_same (.cons (.int _) (.cons (.int _) (.cons (.int _) (.cons (.str _) .nil))))
      refine ⟨_, rfl, rfl, _, rfl, ?_⟩
      rw [sort_num, hI]
      refine iteF ⟨_, rfl, rfl, _, rfl, ?_⟩
      rw [sort_txt, hS]
      refine iteF ⟨_, rfl, v, n, d, rfl, hd, fun H1 R us s1 nR hR l20 inn => ⟨R, rfl, ⟨_, SqL.of hR⟩, fun D nD => ?_⟩⟩
      have lus := inn.len
      have lin := inn_all key inn
      refine lc_list (K := K) (a := R) (xs := us) (fun i H' => Same H1 H' ∧ ∃ ws : List V, H' D = some (.lst ws) ∧ ws.length = i ∧ TpAll H' ws ((innP key n d).take i)) ⟨same_new (fun _ _ z => z) nD, [], upd_same, rfl, by rw [List.take_zero]; exact .nil⟩ ?_ ?_ ?_
      · rintro i H' _ ⟨s2, _⟩
        exact SqL.of (s2 _ _ hR)
      · rintro i x H' hx ⟨s2, ws, hD, lws, pr⟩
        cases n with
        | zero =>
          rw [inn.1] at hx
          simp at hx
        | succ n =>
          obtain ⟨d', hd', hxd⟩ := paired_get (show Paired (fun x d => Da n H1 x d) us (inner d) from inn) i x hx
          have hi := (List.getElem?_eq_some_iff.mp hx).1
          refine ⟨rfl, _, rfl, x, n, d', by omega, rfl, hxd.mono s2 (Nat.le_refl _), fun H'' u s3 tu => ⟨ws, s3 _ _ hD, small1000 (by omega), fun b o e => ?_, ws ++ [u], upd_same, by rw [List.length_append, lws]; rfl, ?_⟩⟩
          · rw [upd_ne (ne_of_none e nD)]
            exact s3 _ _ (s2 _ _ e)
          · have et : (innP key (n + 1) d).take (i + 1) = (innP key (n + 1) d).take i ++ [key n d'] := by
              rw [List.take_add_one]
              show _ ++ ((inner d).map (key n))[i]?.toList = _
              rw [List.getElem?_map, hd']
              rfl
            rw [et]
            have tk := TK.updL (u := .lst (ws ++ [u])) (s3 _ _ hD)
            exact TpAll.snoc (tu.mono tk) (pr.mono ((tkS s3).trans tk))
      rintro H2 ⟨s2, ws, hD, lws, pr⟩
      rw [← lin, List.take_length] at pr
      have s02 := s1.trans s2
      refine ⟨_, rfl, D, rfl, ⟨_, SqL.of hD⟩, fun D2 nD2 => ?_⟩
      refine lc_list (K := K) (a := D) (xs := ws) (fun i H' => Same H2 H' ∧ H' D2 = some (.lst ((((inner d).take i).map fun z => cnt (n - 1) z).map V.int))) ⟨same_new (fun _ _ z => z) nD2, by rw [upd_same]; rfl⟩ ?_ ?_ ?_
      · rintro i H' _ ⟨s3, _⟩
        exact SqL.of (s3 _ _ hD)
      · rintro i x H' hx ⟨s3, hD2⟩
        obtain ⟨d', hd', a, xs, rfl, ha⟩ := first_row key_first pr i x hx
        have hi := (List.getElem?_eq_some_iff.mp hd').1
        refine ⟨rfl, _, rfl, a, _, _, .int (cnt (n - 1) d'), rfl, rfl, SqT.of (s3 _ _ ha), first_at (H := H') (v := .non), _, hD2, small1000 (by rw [List.length_map, List.length_map, List.length_take]; omega), fun b o e => ?_, ?_⟩
        · rw [upd_ne (ne_of_none e nD2)]
          exact s3 _ _ e
        · rw [upd_same, List.take_add_one, hd']
          simp
      rintro H3 ⟨s3, hD2⟩
      have s03 := s02.trans s3
      have pr3 := pr.mono (tkS s3)
      have hD3 := s3 _ _ hD
      rw [lws, lus, List.take_length] at hD2
      refine ⟨D2, _, rfl, SqL.of hD2, _, _, rfl, rfl, ?_⟩
      rw [show (fun (i j : Int) => V.int (i + j)) 1 ((inner d).map fun z => cnt (n - 1) z).sum = V.int (cnt n d) from by rw [cnt_sum inn]]
      refine ⟨_, rfl, rfl, _, rfl, ?_⟩
      rw [sort_dct]
      cases hDd : isD d with
      | false =>
        refine iteF ⟨_, rfl, _, rfl, _, rfl, D, _, rfl, .inl ⟨SqL.of hD3, fun e ne => ⟨few (by show 3 ≤ 1000; decide), fun e2 ne2 => ?_⟩⟩⟩
        refine q _ _ (same_new (same_new s03 ne) ne2) ?_
        rw [key_other hI hS hDd]
        exact .tup upd_same (.cons (.int _) (.cons (.int _) (.cons (.tup ((upd_ne (ne_of_none upd_same ne2)).trans upd_same) (pr3.mono (tkS (same_new (same_new (fun _ _ z => z) ne) ne2)))) .nil)))
      | true =>
        obtain ⟨ks, ds, rfl⟩ := dct_of hDd
        cases n with
        | zero => simp only [Da] at hd
        | succ n =>
          simp only [Da] at hd
          obtain ⟨a, us', rfl, h2, h3, h4, h5, h6, h7⟩ := hd
          refine iteT ⟨_, rfl, _, rfl, _, rfl, a, _, ks, rfl, .inl (s03 _ _ h2), kv_keys h4, by omega, fun ys S p1 p2 nS => ?_⟩
          obtain rfl := skeys_uniq p1 p2
          have sS : Same H3 (upd H3 S (.lst ((skeys ks).map V.str))) := same_new (fun _ _ z => z) nS
          have lsk : (skeys ks).length = ks.length := p1.length_eq
          have lwk : (skeys ks).length = ws.length := by
            have z : (inner (.dct ks ds)).length = (skeys ks).length := by simp [inner]
            omega
          refine ⟨_, rfl, S, D, _, ws, rfl, SqL.of upd_same, SqL.of (sS _ _ hD3), by rw [List.length_map]; exact lwk, by rw [List.length_map]; omega, fun H5 ts t zn t0 ht => ⟨few (by show 3 ≤ 1000; decide), fun e ne => ?_⟩⟩
          refine q _ _ (same_new ((s03.trans sS).trans zn.1) ne) ?_
          have ek : key (n + 1) (.dct ks ds) = .tuple [.int (cnt (n + 1) (.dct ks ds)), .int (place (.dct ks ds)), .tuple (pairsP (skeys ks) (innP key (n + 1) (.dct ks ds)))] := by rw [key_form]; rfl
          rw [ek]
          have tk : TK H5 (upd H5 e (.tup [.int (cnt (n + 1) (.dct ks ds)), .int (place (.dct ks ds)), .ref t])) := tkS (same_new (fun _ _ z => z) ne)
          exact .tup upd_same (.cons (.int _) (.cons (.int _) (.cons (.tup (tk _ _ ht) ((pairs_tp _ ws _ ts lwk (pr3.mono ((tkS sS).trans (tkS zn.1))) (L2.Paired.mapP zn.2 fun _ _ z => z.2)).mono tk)) .nil)))
end
end Toy


namespace Toy
open PySem PySem.Spec L2 PyProof.Rows PySem.W
abbrev sRank : Stmt := top 18
def spRank (j : Nat) : Sp := fun vs H Q _ => ∃ (v : V) (n : Nat) (d : D), n < j ∧ vs = [v] ∧ Da n H v d ∧ ∀ H' u, Same H H' → Tp H' u (rank n d) → Q u H'
/-- what the call at one part wants -/
def RnkQ (j m i : Nat) (D : Addr) (H1 : Hp) (d : Toy.D) : List V → Hp → Prop := fun vs H4 => ∃ (v' : V) (n' : Nat) (a : Toy.D), n' < j ∧ vs = [v'] ∧ Da n' H4 v' a ∧ ∀ H'' u, Same H4 H'' → Tp H'' u (rank n' a) → ∃ acc, H'' D = some (.lst acc) ∧ acc.length < sizeLine ∧
  (Same H1 (upd H'' D (.lst (acc ++ [u]))) ∧ ∃ ws : List V, (upd H'' D (.lst (acc ++ [u]))) D = some (.lst ws) ∧ ws.length = i + 1 ∧ TpAll (upd H'' D (.lst (acc ++ [u]))) ws ((innP rank (m + 1) d).take (i + 1)))
theorem rank_at (d : D) : ∃ j : Nat, (j : Int) = place d ∧ (sortsL.map V.str)[j]? = some (.str (sortS d)) ∧ eqV (.str (sortS d)) (.str (sortS d)) = true ∧ ∀ (m : Nat) (z' : V), m < j → (sortsL.map V.str)[m]? = some z' → eqV z' (.str (sortS d)) = false := by
  obtain ⟨j, h1, h2, h3⟩ := sort_at d
  refine ⟨j, h1, by rw [List.getElem?_map, h2]; rfl, by simp [eqV], fun m z' hm hz => ?_⟩
  rw [List.getElem?_map] at hz
  cases e : sortsL[m]? with
  | none => rw [e] at hz; cases hz
  | some w =>
    rw [e] at hz
    have ez : V.str w = z' := Option.some.inj hz
    have nw : w ≠ sortS d := fun q => h3 m hm (by rw [e, q])
    rw [← ez]
    simp [eqV, nw]
theorem six_ways (d : D) : d = .non ∨ (∃ b, d = .bl b) ∨ (∃ i, d = .int i) ∨ (∃ x, d = .str x) ∨ ((∃ ds, d = .lst ds) ∨ ∃ ks ds, d = .dct ks ds) := by
  cases d with
  | non => exact .inl rfl
  | bl b => exact .inr (.inl ⟨b, rfl⟩)
  | int i => exact .inr (.inr (.inl ⟨i, rfl⟩))
  | str x => exact .inr (.inr (.inr (.inl ⟨x, rfl⟩)))
  | lst ds => exact .inr (.inr (.inr (.inr (.inl ⟨ds, rfl⟩))))
  | dct ks ds => exact .inr (.inr (.inr (.inr (.inr ⟨ks, ds, rfl⟩))))
theorem big_kit {K : PySem.W.Frag} {d : D} (h : (∃ ds, d = .lst ds) ∨ ∃ ks ds, d = .dct ks ds) : PySem.W.kitOne K (.type (tyS d)) (.type "bool") = some false ∧ PySem.W.kitOne K (.type (tyS d)) (.type "int") = some false ∧ PySem.W.kitOne K (.type (tyS d)) (.type "str") = some false := by
  rcases h with ⟨ds, rfl⟩ | ⟨ks, ds, rfl⟩
  · exact ⟨kit_ty (show kitB "list" "bool" = some false by decide +kernel), kit_ty (show kitB "list" "int" = some false by decide +kernel), kit_ty (show kitB "list" "str" = some false by decide +kernel)⟩
  · exact ⟨kit_ty (show kitB "dict" "bool" = some false by decide +kernel), kit_ty (show kitB "dict" "int" = some false by decide +kernel), kit_ty (show kitB "dict" "str" = some false by decide +kernel)⟩
theorem big_non {d : D} (h : (∃ ds, d = .lst ds) ∨ ∃ ks ds, d = .dct ks ds) {n : Nat} {H : Hp} {v : V} (hd : Da n H v d) : decide (v = .non) = false := by
  rw [non_iff hd]
  rcases h with ⟨ds, rfl⟩ | ⟨ks, ds, rfl⟩ <;> rfl
theorem big_succ {d : D} (h : (∃ ds, d = .lst ds) ∨ ∃ ks ds, d = .dct ks ds) {n : Nat} {H : Hp} {v : V} (hd : Da n H v d) : ∃ m, n = m + 1 := by
  cases n with
  | zero => rcases h with ⟨ds, rfl⟩ | ⟨ks, ds, rfl⟩ <;> simp only [Da] at hd
  | succ m => exact ⟨m, rfl⟩
section
variable {P : Program} {w : World} {K : PySem.W.Frag} {mg : Str → Option Value} {base : Heap}
abbrev NR : List Str := ["_law_datum_here", "_law_sort_here", "_law_rows", "_law_size", "_law_step", "_law_row"]
theorem scRk : FnScope NR ["_law_datum_here"] (defScope sRank) := ⟨rfl, rfl, rfl, by decide +kernel, rfl, by decide +kernel, by decide +kernel⟩
theorem ok_rank {f fS fK : Addr} {fd fdS fdK : FuncData} (F : Fun K "_law_rank" "_law_rank" sRank f fd)
    (GS : FnOk P w K mg base CX0 1 fS fdS ["_law_datum_here"] spLSort) (mS : mg "_law_sort" = some (.ref fS)) (kS : PySem.W.keepIn K (.ref fS) = true) (bS : Binds K fdS ["_law_datum_here"] [])
    (GK : FnOk P w K mg base CX0 1 fK fdK ["_law_datum_here"] spSteps) (mK : mg "_law_keys" = some (.ref fK)) (kK : PySem.W.keepIn K (.ref fK) = true) (bK : Binds K fdK ["_law_datum_here"] [])
    (mF : mg "_law_rank" = some (.ref f)) (kF : PySem.W.keepIn K (.ref f) = true) (bF : Binds K fd ["_law_datum_here"] [])
    (mI : mg "isinstance" = none) (mB : mg "bool" = none) (mN : mg "int" = none) (mT : mg "str" = none) (mL : mg "list" = none) (mAb : mg "abs" = none)
    (mSum : mg "sum" = none) (mLen : mg "len" = none) (mTup : mg "tuple" = none) (mZip : mg "zip" = none) : ∀ j : Nat, FnOk P w K mg base CX0 (j + 2) f fd ["_law_datum_here"] (spRank j) := by
  intro j
  induction j with
  | zero => exact F.ok (k := 1) scRk (fun vs H Q E h => by obtain ⟨v, n, d, h0, _⟩ := h; exact absurd h0 (Nat.not_lt_zero _)) (fun cdv A outer s H vs Q E hr h => by obtain ⟨v, n, d, h0, _⟩ := h; exact absurd h0 (Nat.not_lt_zero _))
  | succ j ih =>
    refine F.ok (k := j + 2) scRk (fun vs H Q E h => ?_) (fun cdv A outer s H vs Q E hr h => ?_)
    · obtain ⟨v, n, d, _, rfl, _⟩ := h
      rfl
    · obtain ⟨v, n, d, hnj, rfl, hd, q⟩ := h
      have hr1 : Room 1 _ := hr.mono (show 1 ≤ j + 2 by omega)
      have hu := hu_of hr
      refine ⟨_, pss_cons (ps_set (i := 1) scRk.nd rfl (Or.inl rfl) (pe_bm PySem.F.plainAttrs_list PySem.F.slot_list_index PySem.F.type_list_index mt_index (pe_lst (pa_cons pe_str (pa_cons pe_str (pa_cons pe_str (pa_cons pe_str (pa_cons pe_str (pa_cons pe_str (pa_cons pe_str pa_nil)))))))) (pa_cons (pe_call GS hr1 (by rfl) mS kS bS .nil pass0 (pa_cons (pv 0) pa_nil)) pa_nil)))
        (pss_cons (ps_if (PW.pt (pw_or (pt_val (pe_callB call_isi (by rfl) mI PyProof.Rows.boot_isinstance (pa_cons (pv 0) (pa_cons (pe_bltn (v := .ty "bool") (by rfl) mB (by decide +kernel) rfl) pa_nil)))) (pw_or1 (pt_cmpR op_isN (pv 0) pe_non (nomark _))))) (pss_one (ps_ret (pe_tup (pa_cons pe_int (pa_cons (pv 1) pa_nil))))) pss_nil)
        (pss_cons (ps_if (pt_val (pe_callB call_isi (by rfl) mI PyProof.Rows.boot_isinstance (pa_cons (pv 0) (pa_cons (pe_bltn (v := .ty "int") (by rfl) mN (by decide +kernel) rfl) pa_nil)))) (pss_one (ps_ret (pe_tup (pa_cons pe_int (pa_cons (pv 1) (pa_cons (pe_callB call_abs (by rfl) mAb (by decide +kernel) (pa_cons (pv 0) pa_nil)) (pa_cons (pe_callTy call_int1 (by rfl) mN (by decide +kernel) (pa_cons (pe_cmpR op_lt (pv 0) pe_int (nomark _)) pa_nil)) pa_nil))))))) pss_nil)
        (pss_cons (ps_if (pt_val (pe_callB call_isi (by rfl) mI PyProof.Rows.boot_isinstance (pa_cons (pv 0) (pa_cons (pe_bltn (v := .ty "str") (by rfl) mT (by decide +kernel) rfl) pa_nil)))) (pss_one (ps_ret (pe_tup (pa_cons pe_int (pa_cons (pv 1) (pa_cons (pe_callB call_len_str (by rfl) mLen PySem.boot_len (pa_cons (pv 0) pa_nil)) (pa_cons (pv 0) pa_nil))))))) pss_nil)
        (pss_cons (ps_setLc (i := 2) (own := [("_law_step", 4)]) (g := gName 4) (te := tCall (spRank j) [] E0 (tCons (tEither (tOp (rIxL K) (tVar 0) (tVar 4)) (tDGet (tVar 0) (tVar 4))) tNil)) (by rfl) scRk.nd rfl rfl (sw_true rfl rfl rfl (by decide +kernel)) (pi_list (pe_call GK hr1 (by rfl) mK kK bK .nil pass0 (pa_cons (pv 0) pa_nil)))
            (blkOk_by (own := [("_law_step", 4)]) (N := NR) (sc := defScope sRank) (by decide +kernel)) (fun _ _ _ _ _ => pg_name (i := 4) scRk.nd rfl (Or.inl rfl)) (fun _ _ _ _ _ => pts_nil)
            (fun _ _ _ _ _ => pe_call ih hr (by rfl) mF kF bF .nil pass0 (pa_cons (pe_either (pe_ix ix_list (pv 0) (pv 4) (fun _ _ => rfl)) (pe_dget hu (pv 0) (pv 4) (fun _ _ => rfl))) pa_nil)))
        (pss_cons (ps_set (i := 3) scRk.nd rfl (Or.inl rfl) (pe_op op_add pe_int (pe_callB (cr_sum rfl) (by rfl) mSum (by decide +kernel) (pa_cons (pe_lc (own := [("_law_row", 5)]) (g := gName 5) (te := tOp (rIxT K) (tVar 5) (tC (.int 0))) (by rfl) scRk.nd (pi_list (pv 2))
            (blkOk_by (own := [("_law_row", 5)]) (N := NR) (sc := defScope sRank) (by decide +kernel)) (fun _ _ _ _ _ => pg_name (i := 5) scRk.nd rfl (Or.inl rfl)) (fun _ _ _ _ _ => pts_nil)
            (fun _ _ _ _ _ => pe_ix ix_tup (pv 5) pe_int (fun _ _ => rfl))) pa_nil))))
        (pss_cons (ps_if (pt_val (pe_callB call_isi (by rfl) mI PyProof.Rows.boot_isinstance (pa_cons (pv 0) (pa_cons (pe_bltn (v := .ty "list") (by rfl) mL (by decide +kernel) rfl) pa_nil)))) (pss_one (ps_ret (pe_tup (pa_cons (pv 3) (pa_cons (pv 1) (pa_cons (pe_callTy call_tuple_of (by rfl) mTup (by decide +kernel) (pa_cons (pv 2) pa_nil)) pa_nil)))))) pss_nil)
        (pss_one (ps_ret (pe_tup (pa_cons (pv 3) (pa_cons (pv 1) (pa_cons (pe_callTy call_tuple_of (by rfl) mTup (by decide +kernel) (pa_cons (pe_lstZip (by rfl) (by rfl) mL (by rfl) mZip (pa_cons (pe_call GK hr1 (by rfl) mK kK bK .nil pass0 (pa_cons (pv 0) pa_nil)) (pa_cons (pv 2) pa_nil))) pa_nil)) pa_nil)))))))))))), ?_⟩
      obtain ⟨p, ep, hp, he, hno⟩ := rank_at d
      refine ⟨few (by show 7 ≤ 1000; decide), fun L nL => ⟨.inl ⟨rfl, _, SqL.of upd_same⟩, ?_⟩⟩
      have sL : Same H (upd H L (.lst (sortsL.map V.str))) := same_new (fun _ _ z => z) nL
      refine ⟨_, rfl, v, n, d, rfl, hd.mono sL (Nat.le_refl _), fun H0 s0 => ⟨L, sortsL.map V.str, .str (sortS d), p, .str (sortS d), rfl, rfl, SqL.of (s0 _ _ upd_same), rfl, by decide +kernel, hp, he, hno, ?_⟩⟩
      rw [ep]
      have sH := sL.trans s0
      have hd0 := hd.mono sH (Nat.le_refl _)
      have ty : TyX K H0 v (.type (tyS d)) := ty_of hd0
      have nn := non_iff hd0
      rcases six_ways d with rfl | ⟨b, rfl⟩ | ⟨i, rfl⟩ | ⟨x, rfl⟩ | big
      · refine ⟨_, rfl, _, _, _, _, false, rfl, .ty _, ty, kit_ty (show kitB "NoneType" "bool" = some false by decide +kernel), _, rfl, iteF ⟨_, rfl, rfl, _, rfl, ?_⟩⟩
        rw [nn]
        refine iteT ⟨_, rfl, few (by show 2 ≤ 1000; decide), fun e ne => q _ _ (same_new sH ne) ?_⟩
        rw [show rank n .non = .tuple [.int 1, .int 0] by cases n <;> rfl]
        exact .tup upd_same (.cons (.int _) (.cons (.int _) .nil))
      · refine ⟨_, rfl, _, _, _, _, true, rfl, .ty _, ty, kit_ty (show kitB "bool" "bool" = some true by decide +kernel), _, rfl, iteT ⟨_, rfl, few (by show 2 ≤ 1000; decide), fun e ne => q _ _ (same_new sH ne) ?_⟩⟩
        rw [show rank n (.bl b) = .tuple [.int 1, .int (place (.bl b))] by cases n <;> cases b <;> rfl]
        exact .tup upd_same (.cons (.int _) (.cons (.int _) .nil))
      · obtain rfl := int_of hd0
        refine ⟨_, rfl, _, _, _, _, false, rfl, .ty _, ty, kit_ty (show kitB "int" "bool" = some false by decide +kernel), _, rfl, iteF ⟨_, rfl, rfl, _, rfl, ?_⟩⟩
        rw [nn]
        refine iteF ⟨_, rfl, _, _, _, _, true, rfl, .ty _, ty, kit_ty (show kitB "int" "int" = some true by decide +kernel), _, rfl, iteT ⟨_, rfl, _, rfl, _, rfl, _, rfl, _, _, rfl, rfl, .inr ⟨_, rfl, few (by show 4 ≤ 1000; decide), fun e ne => q _ _ (same_new sH ne) ?_⟩⟩⟩
        rw [show rank n (.int i) = .tuple [.int 1, .int 3, .int (if i < 0 then -i else i), .int (if decide (i < 0) = true then 1 else 0)] by cases n <;> simp [rank, rankT]]
        exact .tup upd_same (.cons (.int _) (.cons (.int _) (.cons (.int _) (.cons (.int _) .nil))))
      · obtain ⟨rfl, okx, lx⟩ := text_of hd0
        refine ⟨_, rfl, _, _, _, _, false, rfl, .ty _, ty, kit_ty (show kitB "str" "bool" = some false by decide +kernel), _, rfl, iteF ⟨_, rfl, rfl, _, rfl, ?_⟩⟩
        rw [nn]
        refine iteF ⟨_, rfl, _, _, _, _, false, rfl, .ty _, ty, kit_ty (show kitB "str" "int" = some false by decide +kernel), _, rfl, iteF ⟨_, rfl, _, _, _, _, true, rfl, .ty _, ty, kit_ty (show kitB "str" "str" = some true by decide +kernel), _, rfl, iteT ⟨_, rfl, _, rfl, _, rfl, few lx, _, rfl, few (by show 4 ≤ 1000; decide), fun e ne => q _ _ (same_new sH ne) ?_⟩⟩⟩
        rw [show rank n (.str x) = .tuple [.int 1, .int 4, .int x.length, .str x] by cases n <;> rfl]
        exact .tup upd_same (.cons (.int _) (.cons (.int _) (.cons (.int _) (.cons (.str _) .nil))))
      obtain ⟨kb, ki, ks'⟩ := big_kit (K := K) big
      obtain ⟨m, rfl⟩ := big_succ big hd0
      refine ⟨_, rfl, _, _, _, _, false, rfl, .ty _, ty, kb, _, rfl, iteF ⟨_, rfl, rfl, _, rfl, ?_⟩⟩
      rw [big_non big hd0]
      refine iteF ⟨_, rfl, _, _, _, _, false, rfl, .ty _, ty, ki, _, rfl, iteF ⟨_, rfl, _, _, _, _, false, rfl, .ty _, ty, ks', _, rfl, iteF ?_⟩⟩
      obtain ⟨us, inn, lus, l20, sub⟩ := sub_read (K := K) hd0
      refine ⟨_, rfl, v, m + 1, d, rfl, hd0, fun H1 R s1 nR hR => ⟨R, rfl, ⟨_, SqL.of hR⟩, fun D nD => ?_⟩⟩
      have lin := inn_all rank inn
      have lin2 := inn.len
      refine lc_list (K := K) (a := R) (xs := stepsV d) (fun i H' => Same H1 H' ∧ ∃ ws : List V, H' D = some (.lst ws) ∧ ws.length = i ∧ TpAll H' ws ((innP rank (m + 1) d).take i)) ⟨same_new (fun _ _ z => z) nD, [], upd_same, rfl, by rw [List.take_zero]; exact .nil⟩ ?_ ?_ ?_
      · rintro i H' _ ⟨s2, _⟩
        exact SqL.of (s2 _ _ hR)
      · rintro i x H' hx ⟨s2, ws, hD, lws, pr⟩
        have hi := (List.getElem?_eq_some_iff.mp hx).1
        have i1 : i < us.length := by omega
        obtain ⟨d', g1, r1⟩ := paired_get (show Paired (fun x z => Da m H0 x z) us (inner d) from inn) i us[i] (List.getElem?_eq_getElem i1)
        refine ⟨rfl, ?_⟩
        have s02 : Same H0 H' := s1.trans s2
        have fin : RnkQ j m i D H1 d [us[i]] H' := by
          refine ⟨_, m, d', by omega, rfl, r1.mono s02 (Nat.le_refl _), fun H'' u s5 tu => ⟨ws, s5 _ _ hD, small1000 (by omega), fun b o z => ?_, ws ++ [u], upd_same, by rw [List.length_append, lws]; rfl, ?_⟩⟩
          · rw [upd_ne (ne_of_none z nD)]
            exact s5 _ _ (s2 _ _ z)
          · have et : (innP rank (m + 1) d).take (i + 1) = (innP rank (m + 1) d).take i ++ [rank m d'] := by
              rw [List.take_add_one]
              show _ ++ ((inner d).map (rank m))[i]?.toList = _
              rw [List.getElem?_map, g1]
              rfl
            rw [et]
            have tk := TK.updL (u := .lst (ws ++ [u])) (s5 _ _ hD)
            exact TpAll.snoc (tu.mono tk) (pr.mono ((tkS s5).trans tk))
        rcases sub i x us[i] hx (List.getElem?_eq_getElem i1) H' (fun x1 H4 => RnkQ j m i D H1 d [x1] H4) s02 fin with z | z
        · exact .inl ⟨_, rfl, _, rfl, z⟩
        · exact .inr ⟨_, rfl, _, rfl, z⟩
      rintro H2 ⟨s2, ws, hD, lws, pr⟩
      rw [← lus, ← lin, List.take_length] at pr
      have s02 := sH.trans (s1.trans s2)
      refine ⟨_, rfl, D, rfl, ⟨_, SqL.of hD⟩, fun D2 nD2 => ?_⟩
      refine lc_list (K := K) (a := D) (xs := ws) (fun i H' => Same H2 H' ∧ H' D2 = some (.lst ((((inner d).take i).map fun z => cnt (m + 1 - 1) z).map V.int))) ⟨same_new (fun _ _ z => z) nD2, by rw [upd_same]; rfl⟩ ?_ ?_ ?_
      · rintro i H' _ ⟨s3, _⟩
        exact SqL.of (s3 _ _ hD)
      · rintro i x H' hx ⟨s3, hD2⟩
        obtain ⟨d', hd', a, xs, rfl, ha⟩ := first_row rank_first pr i x hx
        have hi := (List.getElem?_eq_some_iff.mp hd').1
        refine ⟨rfl, _, rfl, a, _, _, .int (cnt (m + 1 - 1) d'), rfl, rfl, SqT.of (s3 _ _ ha), first_at (H := H') (v := .non), _, hD2, small1000 (by rw [List.length_map, List.length_map, List.length_take]; omega), fun b o e => ?_, ?_⟩
        · rw [upd_ne (ne_of_none e nD2)]
          exact s3 _ _ e
        · rw [upd_same, List.take_add_one, hd']
          simp
      rintro H3 ⟨s3, hD2⟩
      have s03 := s02.trans s3
      have pr3 := pr.mono (tkS s3)
      have hD3 := s3 _ _ hD
      have hd3 : Da (m + 1) H3 v d := hd0.mono (s1.trans (s2.trans s3)) (Nat.le_refl _)
      have ty3 : TyX K H3 v (.type (tyS d)) := ty_of hd3
      rw [show ws.length = (inner d).length by omega, List.take_length] at hD2
      refine ⟨D2, _, rfl, SqL.of hD2, _, _, rfl, rfl, ?_⟩
      rw [show (fun (i j : Int) => V.int (i + j)) 1 ((inner d).map fun z => cnt (m + 1 - 1) z).sum = V.int (cnt (m + 1) d) from rfl]
      rcases big with ⟨ds, rfl⟩ | ⟨ks, ds, rfl⟩
      · refine ⟨_, rfl, _, _, _, _, true, rfl, .ty _, ty3, kit_ty (show kitB "list" "list" = some true by decide +kernel), _, rfl, iteT ⟨_, rfl, _, rfl, _, rfl, D, _, rfl, .inl ⟨SqL.of hD3, fun e ne => ⟨few (by show 3 ≤ 1000; decide), fun e2 ne2 => ?_⟩⟩⟩⟩
        refine q _ _ (same_new (same_new s03 ne) ne2) ?_
        rw [rank_form]
        exact .tup upd_same (.cons (.int _) (.cons (.int _) (.cons (.tup ((upd_ne (ne_of_none upd_same ne2)).trans upd_same) (pr3.mono (tkS (same_new (same_new (fun _ _ z => z) ne) ne2)))) .nil)))
      · refine ⟨_, rfl, _, _, _, _, false, rfl, .ty _, ty3, kit_ty (show kitB "dict" "list" = some false by decide +kernel), _, rfl, iteF ⟨_, rfl, _, rfl, _, rfl, v, m + 1, _, rfl, hd3, fun H4 S s4 nS hS => ?_⟩⟩
        have lwk : (skeys ks).length = ws.length := by
          have z : (inner (.dct ks ds)).length = (skeys ks).length := by simp [inner]
          omega
        refine ⟨_, rfl, S, D, _, ws, rfl, SqL.of hS, SqL.of (s4 _ _ hD3), by show ((skeys ks).map V.str).length = _; rw [List.length_map]; exact lwk, by show ((skeys ks).map V.str).length ≤ _; rw [List.length_map]; omega, fun H5 ts t zn t0 ht => ⟨t, _, rfl, .inl ⟨SqL.of ht, fun e ne => ⟨few (by show 3 ≤ 1000; decide), fun e2 ne2 => ?_⟩⟩⟩⟩
        have s45 := s4.trans zn.1
        refine q _ _ (same_new (same_new (s03.trans s45) ne) ne2) ?_
        rw [rank_form]
        have tk : TK H5 (upd (upd H5 e (.tup (ts.map V.ref))) e2 (.tup [.int (cnt (m + 1) (.dct ks ds)), .int (place (.dct ks ds)), .ref e])) := tkS (same_new (same_new (fun _ _ z => z) ne) ne2)
        exact .tup upd_same (.cons (.int _) (.cons (.int _) (.cons (.tup ((upd_ne (ne_of_none upd_same ne2)).trans upd_same) ((pairs_tp _ ws _ ts lwk (pr3.mono (tkS s45)) (L2.Paired.mapP zn.2 fun _ _ z => z.2)).mono tk)) .nil)))
end
end Toy


namespace Toy
open PySem PySem.Spec L2 PyProof.Rows PySem.W
abbrev sBefore : Stmt := top 7
/-! ### keys and ranks can be compared -/
def Fine (k : Nat) (e : PyData) : Prop := e.canLay0 = true ∧ e.depth ≤ k
theorem Fine.up {k l : Nat} {e : PyData} (h : Fine k e) (hl : k ≤ l) : Fine l e := ⟨h.1, Nat.le_trans h.2 hl⟩
theorem fine_int (k : Nat) (i : Int) : Fine k (.int i) := ⟨by simp only [PyData.canLay0], by simp only [PyData.depth]; omega⟩
theorem fine_str (k : Nat) {x : Str} (h : PyData.strOk x = true) : Fine k (.str x) := ⟨by simp only [PyData.canLay0]; exact h, by simp only [PyData.depth]; omega⟩
theorem fine_all {k : Nat} : ∀ {l : List PyData}, (∀ e ∈ l, Fine k e) → PyData.canLayAll0 l = true ∧ PyData.depthAll l ≤ k
  | [], _ => ⟨by simp [PyData.canLayAll0], by simp [PyData.depthAll]⟩
  | e :: l, h => by
    obtain ⟨h1, h2⟩ := h e List.mem_cons_self
    obtain ⟨r1, r2⟩ := fine_all fun x hx => h x (List.mem_cons_of_mem _ hx)
    refine ⟨by simp only [PyData.canLayAll0]; rw [h1, r1]; rfl, ?_⟩
    simp only [PyData.depthAll]
    omega
theorem fine_tup {k : Nat} {l : List PyData} (h : ∀ e ∈ l, Fine k e) : Fine (k + 1) (.tuple l) := by
  obtain ⟨h1, h2⟩ := fine_all h
  refine ⟨by simp only [PyData.canLay0]; exact h1, ?_⟩
  simp only [PyData.depth]
  omega
theorem fine_pairs {k : Nat} : ∀ {ks : List Str} {l : List PyData}, (∀ x ∈ ks, PyData.strOk x = true) → (∀ e ∈ l, Fine k e) → ∀ e ∈ pairsP ks l, Fine (k + 1) e
  | [], _, _, _, e, h => by simp [pairsP] at h
  | _ :: _, [], _, _, e, h => by simp [pairsP] at h
  | x :: ks, d :: l, h1, h2, e, h => by
    have h' : e = .tuple [.str x, d] ∨ e ∈ pairsP ks l := by simpa [pairsP] using h
    rcases h' with rfl | h'
    · refine fine_tup fun z hz => ?_
      simp only [List.mem_cons, List.not_mem_nil, or_false] at hz
      rcases hz with rfl | rfl
      · exact fine_str _ (h1 x List.mem_cons_self)
      · exact h2 _ List.mem_cons_self
    · exact fine_pairs (fun y hy => h1 y (List.mem_cons_of_mem _ hy)) (fun y hy => h2 y (List.mem_cons_of_mem _ hy)) e h'
theorem inn_fine {f : Nat → D → PyData} {k n : Nat} (ih : ∀ (H : Hp) (v : V) (d : D), Da n H v d → Fine k (f n d)) {H : Hp} {us : List V} {d : D} (inn : Inn (n + 1) H us (inner d)) : ∀ e ∈ innP f (n + 1) d, Fine k e := by
  intro e he
  have he' : e ∈ (inner d).map (f n) := he
  obtain ⟨d', hd', rfl⟩ := List.mem_map.mp he'
  obtain ⟨u, hu⟩ := Paired.right (show Paired (fun x z => Da n H x z) us (inner d) from inn) d' hd'
  exact ih H u d' hu
theorem dct_texts {n : Nat} {H : Hp} {v : V} {ks : List Str} {ds : List D} (h : Da n H v (.dct ks ds)) : ∀ x ∈ skeys ks, PyData.strOk x = true := by
  cases n with
  | zero => simp only [Da] at h
  | succ n =>
    simp only [Da] at h
    obtain ⟨a, us, _, _, _, _, _, h6, _⟩ := h
    exact fun x hx => h6 x ((skeys_perm ks).mem_iff.mp hx)
theorem fine3 {k : Nat} {a b : Int} {l : List PyData} (h : ∀ e ∈ l, Fine k e) : Fine (k + 1) (.tuple (.int a :: .int b :: l)) := fine_tup fun e he => by
  simp only [List.mem_cons] at he
  rcases he with rfl | rfl | he
  · exact fine_int _ _
  · exact fine_int _ _
  · exact h e he
theorem mem1 {e f : PyData} {k : Nat} (h : Fine k f) (he : e ∈ [f]) : Fine k e := by rw [List.mem_singleton.mp he]; exact h
theorem key_fine (K : PySem.W.Frag) : ∀ (n : Nat) (H : Hp) (v : V) (d : D), Da n H v d → Fine (3 * n + 2) (key n d)
  | 0, H, v, d, h => by
    rw [key_form]
    refine fine3 (k := 1) fun e he => ?_
    cases d with
    | int i => exact mem1 (fine_int _ _) he
    | str x =>
      simp only [keyTail, List.mem_cons, List.not_mem_nil, or_false] at he
      rcases he with rfl | rfl
      · exact fine_int _ _
      · exact fine_str _ (text_of h).2.1
    | lst ds => simp only [Da] at h
    | dct ks ds => simp only [Da] at h
    | non => exact mem1 (fine_tup (k := 0) (fun z hz => by simp [innP] at hz)) he
    | bl b => exact mem1 (fine_tup (k := 0) (fun z hz => by simp [innP] at hz)) he
  | n + 1, H, v, d, h => by
    obtain ⟨us, inn, _, _, _⟩ := sub_read (K := K) h
    have fi := inn_fine (f := key) (key_fine K n) inn
    rw [key_form]
    refine (fine3 (k := 3 * n + 4) fun e he => ?_).up (by omega)
    cases d with
    | int i => exact mem1 (fine_int _ _) he
    | str x =>
      simp only [keyTail, List.mem_cons, List.not_mem_nil, or_false] at he
      rcases he with rfl | rfl
      · exact fine_int _ _
      · exact fine_str _ (text_of h).2.1
    | dct ks ds => exact mem1 (fine_tup (k := 3 * n + 3) (fine_pairs (dct_texts h) fi)) he
    | lst ds => exact mem1 ((fine_tup (k := 3 * n + 2) fi).up (by omega)) he
    | non => exact mem1 ((fine_tup (k := 3 * n + 2) fi).up (by omega)) he
    | bl b => exact mem1 ((fine_tup (k := 3 * n + 2) fi).up (by omega)) he
theorem rank_fine (K : PySem.W.Frag) : ∀ (n : Nat) (H : Hp) (v : V) (d : D), Da n H v d → Fine (3 * n + 2) (rank n d)
  | 0, H, v, d, h => by
    rw [rank_form]
    refine fine3 (k := 1) fun e he => ?_
    cases d with
    | int i =>
      simp only [rankTail, List.mem_cons, List.not_mem_nil, or_false] at he
      rcases he with rfl | rfl
      · exact fine_int _ _
      · exact fine_int _ _
    | str x =>
      simp only [rankTail, List.mem_cons, List.not_mem_nil, or_false] at he
      rcases he with rfl | rfl
      · exact fine_int _ _
      · exact fine_str _ (text_of h).2.1
    | lst ds => simp only [Da] at h
    | dct ks ds => simp only [Da] at h
    | non => simp [rankTail] at he
    | bl b => simp [rankTail] at he
  | n + 1, H, v, d, h => by
    obtain ⟨us, inn, _, _, _⟩ := sub_read (K := K) h
    have fi := inn_fine (f := rank) (rank_fine K n) inn
    rw [rank_form]
    refine (fine3 (k := 3 * n + 4) fun e he => ?_).up (by omega)
    cases d with
    | int i =>
      simp only [rankTail, List.mem_cons, List.not_mem_nil, or_false] at he
      rcases he with rfl | rfl
      · exact fine_int _ _
      · exact fine_int _ _
    | str x =>
      simp only [rankTail, List.mem_cons, List.not_mem_nil, or_false] at he
      rcases he with rfl | rfl
      · exact fine_int _ _
      · exact fine_str _ (text_of h).2.1
    | dct ks ds => exact mem1 (fine_tup (k := 3 * n + 3) (fine_pairs (dct_texts h) fi)) he
    | lst ds => exact mem1 ((fine_tup (k := 3 * n + 2) fi).up (by omega)) he
    | non => simp [rankTail] at he
    | bl b => simp [rankTail] at he
theorem fine_shaped {k : Nat} {e : PyData} (h : Fine k e) (hk : k ≤ 64) : SeqAt.shaped e = true := by
  unfold SeqAt.shaped
  rw [h.1, Bool.true_and]
  exact decide_eq_true (Nat.le_trans h.2 hk)
theorem key_shaped (K : PySem.W.Frag) {n : Nat} {H : Hp} {v : V} {d : D} (h : Da n H v d) (hn : n ≤ 20) : SeqAt.shaped (key n d) = true := fine_shaped (key_fine K n H v d h) (by omega)
theorem rank_shaped (K : PySem.W.Frag) {n : Nat} {H : Hp} {v : V} {d : D} (h : Da n H v d) (hn : n ≤ 20) : SeqAt.shaped (rank n d) = true := fine_shaped (rank_fine K n H v d h) (by omega)
def spBefore (j : Nat) : Sp := fun vs H Q _ => ∃ (v u : V) (n : Nat) (d e : D), n < j ∧ n ≤ 20 ∧ vs = [v, u] ∧ Da n H v d ∧ Da n H u e ∧ ∀ H', Same H H' → Q (.bl (dataLt (key n d) (key n e))) H'
section
variable {P : Program} {w : World} {K : PySem.W.Frag} {mg : Str → Option Value} {base : Heap}
theorem scBe : FnScope ["one", "other"] ["one", "other"] (defScope sBefore) := ⟨rfl, rfl, rfl, by decide +kernel, rfl, by decide +kernel, by decide +kernel⟩
theorem ok_before {f fO : Addr} {fd fdO : FuncData} {j : Nat} (F : Fun K "comes_before" "comes_before" sBefore f fd)
    (GO : FnOk P w K mg base CX0 (j + 3) fO fdO ["datum"] (spKey j)) (mO : mg "order_key" = some (.ref fO)) (kO : PySem.W.keepIn K (.ref fO) = true) (bO : Binds K fdO ["datum"] []) : FnOk P w K mg base CX0 (j + 4) f fd ["one", "other"] (spBefore j) := by
  refine F.ok (k := j + 3) scBe (fun vs H Q E h => ?_) (fun cdv A outer s H vs Q E hr h => ?_)
  · obtain ⟨v, u, n, d, e, _, _, rfl, _⟩ := h
    rfl
  · obtain ⟨v, u, n, d, e, hn, h20, rfl, hd, he, q⟩ := h
    refine ⟨_, pss_one (ps_ret (pe_cmpR (op_ltK hr.units) (pe_call GO hr (by rfl) mO kO bO .nil pass0 (pa_cons (pv 0) pa_nil)) (pe_call GO hr (by rfl) mO kO bO .nil pass0 (pa_cons (pv 1) pa_nil)) (nomark _))), ?_⟩
    refine ⟨_, rfl, v, n, d, hn, rfl, hd, fun H1 x s1 tx => ⟨_, rfl, u, n, e, hn, rfl, he.mono s1 (Nat.le_refl _), fun H2 y s2 ty => ⟨key n d, key n e, (tx.mono (tkS s2)).dp, ty.dp, key_shaped K hd h20, key_shaped K he h20, (same_order n d e).1, q H2 (s1.trans s2)⟩⟩⟩
end
end Toy


namespace Toy
open PySem PySem.Spec L2 PyProof.Rows PySem.W
abbrev sLaw : Stmt := top 20
/-! ### data beside the tape -/
def DaO (d : Addr) (H : Hp) (v : V) (z : D) : Prop := Da 5 (delH H d) v z
theorem DaO.but {d : Addr} {H H' : Hp} {v : V} {z : D} (h : DaO d H v z) (b : But d H H') : DaO d H' v z := Da.mono (But.off b) (Nat.le_refl _) h
theorem DaO.same {d : Addr} {H H' : Hp} {v : V} {z : D} (h : DaO d H v z) (b : Same H H') : DaO d H' v z := h.but (Same.but b d)
theorem DaO.in_ {d : Addr} {H : Hp} {v : V} {z : D} (h : DaO d H v z) : Da 5 H v z := Da.mono (Same.off d) (Nat.le_refl _) h
theorem off_new {d : Addr} {H H' : Hp} {o : HO} (hd : H d = some o) : Same (newH H H') (delH H' d) := fun b u e => by
  obtain ⟨h1, h2⟩ := newH_some.mp e
  have nb : b ≠ d := fun z => by rw [z, hd] at h1; cases h1
  rw [delH_ne nb]
  exact h2
theorem da_new {d : Addr} {H H' : Hp} {o : HO} {n : Nat} {v : V} {z : D} (hd : H d = some o) (h : Da n (newH H H') v z) (hn : n ≤ 5) : DaO d H' v z := Da.mono (off_new hd) hn h
theorem da_leaf {d : Addr} {H : Hp} {v : V} (h : v ∈ leafVs) : DaO d H v (dOf v) := leaf_mem h _ _
theorem leaf_one {v : V} (h : v ∈ leafVs) (H : Hp) : Da 1 H v (dOf v) := leaf_mem h _ _
theorem da_lst {d p : Addr} {H : Hp} {n : Nat} {xs : List V} {ds : List D} (np : p ≠ d) (h : H p = some (.lst xs)) (hl : xs.length ≤ 20) (pr : Paired (fun x z => Da n (delH H d) x z) xs ds) : Da (n + 1) (delH H d) (.ref p) (.lst ds) := by
  simp only [Da]
  exact ⟨p, xs, rfl, by rw [delH_ne np]; exact h, hl, pr⟩
theorem da_d0 {d p : Addr} {H : Hp} (np : p ≠ d) (h : H p = some (.dK [])) : Da 1 (delH H d) (.ref p) (.dct [] []) := by
  simp only [Da]
  exact ⟨p, [], rfl, by rw [delH_ne np]; exact h, Nat.zero_le _, rfl, List.nodup_nil, (fun k hk => nomatch hk), .nil⟩
theorem da_d1 {d p : Addr} {H : Hp} {n : Nat} {v : V} {z : D} (np : p ≠ d) (h : H p = some (.dK [(Sum.inr ("a" : Str), v)])) (hv : Da n (delH H d) v z) : Da (n + 1) (delH H d) (.ref p) (.dct ["a"] [z]) := by
  simp only [Da]
  refine ⟨p, [v], rfl, by rw [delH_ne np]; exact h, by show 1 ≤ 20; decide, rfl, by simp, fun k hk => ?_, .cons hv .nil⟩
  rw [List.mem_singleton.mp hk]
  decide +kernel
theorem dao_up {d : Addr} {H : Hp} {n : Nat} {v : V} {z : D} (h : Da n (delH H d) v z) (hn : n ≤ 5) : DaO d H v z := Da.mono (fun _ _ e => e) hn h
/-- all of them stand beside the tape -/
def Stand (d : Addr) (H : Hp) (xs : List V) (zs : List D) : Prop := Paired (fun x z => DaO d H x z) xs zs
theorem Stand.but {d : Addr} {H H' : Hp} {xs : List V} {zs : List D} (h : Stand d H xs zs) (b : But d H H') : Stand d H' xs zs := L2.Paired.mapP h fun _ _ e => e.but b
theorem Stand.app {d : Addr} {H : Hp} {xs ys : List V} {zs us : List D} (h : Stand d H xs zs) (k : Stand d H ys us) : Stand d H (xs ++ ys) (zs ++ us) := by
  unfold Stand at *
  induction h with
  | nil => exact k
  | cons a _ ih => exact .cons a ih
theorem Stand.len {d : Addr} {H : Hp} {xs : List V} {zs : List D} (h : Stand d H xs zs) : xs.length = zs.length := Paired.length h
/-! ### what a value tells is one -/
mutual
theorem Tp.one {H : Hp} : ∀ {v : V} {d e : PyData}, Tp H v d → Tp H v e → d = e
  | _, _, _, .int i, .int _ => rfl
  | _, _, _, .str x, .str _ => rfl
  | _, _, _, .tup h a, .tup h' b => by
    rw [h] at h'
    cases h'
    rw [TpAll.one a b]
theorem TpAll.one {H : Hp} : ∀ {v : List V} {d e : List PyData}, TpAll H v d → TpAll H v e → d = e
  | _, _, _, .nil, .nil => rfl
  | _, _, _, .cons a r, .cons b t => by rw [Tp.one a b, TpAll.one r t]
end
open Classical in
noncomputable def tellsOf (H : Hp) (v : V) : PyData := if h : ∃ e, Tp H v e then Classical.choose h else .none
theorem tells_eq {H : Hp} {v : V} {e : PyData} (h : Tp H v e) : tellsOf H v = e := by
  unfold tellsOf
  have hx : ∃ e, Tp H v e := ⟨e, h⟩
  rw [dif_pos hx]
  exact Tp.one (Classical.choose_spec hx) h
def rowP (n : Nat) (z : D) (k : Nat) : PyData := .tuple [rank n z, .int ((k : Nat) : Int)]
theorem row_two (n : Nat) (a b : D) (i j : Nat) : S2 (.tuple [key n a, .int i]) (.tuple [key n b, .int j]) (rowP n a i) (rowP n b j) := S2.tup (S2L.cons (same_order n a b) fun _ => S2L.cons (S2.int _ _) fun _ => S2L.nil)
theorem lt_not_eqv {x y : PyData} (h : lk x y = true) (hl : dataLt x y = true) : PyData.eqv x y = false := by
  cases e : PyData.eqv x y with
  | false => rfl
  | true =>
    have z := (toks_lk x y h).1 e
    have z2 : PyProof.Rows.lexLt itemOrd (keyToks x) (keyToks y) = true := hl
    rw [z, lex_irrefl] at z2
    cases z2
/-- a row whose rank is less is less -/
theorem row_less {n : Nat} {a b : D} {i j : Nat} (h : dataLt (key n a) (key n b) = true) : dataLt (rowP n a i) (rowP n b j) = true := by
  have s := same_order n a b
  have hr : dataLt (rank n a) (rank n b) = true := by rw [← s.2.2.2]; exact h
  unfold rowP
  rw [dataLt_tuple]
  show rowLt _ _ = true
  rw [row_cons s.2.1, lt_not_eqv s.2.1 hr, if_neg Bool.false_ne_true]
  exact hr
theorem row_fine (K : PySem.W.Frag) {n : Nat} {H : Hp} {v : V} {z : D} {k : Nat} (h : Da n H v z) (hn : n ≤ 19) : SeqAt.shaped (rowP n z k) = true := by
  refine fine_shaped (k := 3 * n + 3) (fine_tup (k := 3 * n + 2) fun e he => ?_) (by omega)
  simp only [List.mem_cons, List.not_mem_nil, or_false] at he
  rcases he with rfl | rfl
  · exact rank_fine K n H v z h
  · exact fine_int _ _
theorem rep3 (a b c : Bool) : (PyData.tuple [.bool a, .bool b, .bool c]).showable = true ∧ (PyData.tuple [.bool a, .bool b, .bool c]).depth ≤ 20 ∧ (PyData.tuple [.bool a, .bool b, .bool c]).shown.length ≤ sizeLine := by
  cases a <;> cases b <;> cases c <;> decide +kernel
theorem two_shaped (i : Int) (z : D) : SeqAt.shaped (.tuple [.int i, .str (sortS z)]) = true := by
  refine fine_shaped (k := 1) (fine_tup (k := 0) fun e he => ?_) (by decide)
  simp only [List.mem_cons, List.not_mem_nil, or_false] at he
  rcases he with rfl | rfl
  · exact fine_int _ _
  · refine fine_str _ ?_
    cases z with
    | bl b => cases b <;> decide +kernel
    | non => decide +kernel
    | int i => exact show PyData.strOk ("number" : Str) = true by decide +kernel
    | str x => exact show PyData.strOk ("text" : Str) = true by decide +kernel
    | lst ds => exact show PyData.strOk ("list" : Str) = true by decide +kernel
    | dct ks ds => exact show PyData.strOk ("dict" : Str) = true by decide +kernel
theorem two_same {i j : Int} {y z : D} (h : i = j) (hp : place y = place z) : PyData.eqv (.tuple [.int i, .str (sortS y)]) (.tuple [.int j, .str (sortS z)]) = true := by
  have e : sortS y = sortS z := by
    rw [sort_place, sort_place, hp]
  rw [h, e]
  simp [PyData.eqv, PyData.eqvAll]
theorem cut_rest {R : Hp → Prop} {J : Hp} {G : Prop} (main : (∀ H', Same J H' → R H') → G) (rest : ∀ H', Same J H' → R H') : G := main rest
end Toy


namespace Toy
open PySem PySem.Spec L2 PyProof.Rows PySem.W
abbrev NLw : List Str := ["_law_script", "_law_tape", "_law_turn", "_law_keys_here", "_law_data", "_law_one", "_law_other", "_law_mine", "_law_yours", "_law_told", "_law_ranked", "_law_k"]
theorem scLw : FnScope NLw ["_law_script"] (defScope sLaw) := ⟨rfl, rfl, rfl, by decide +kernel, rfl, by decide +kernel, by decide +kernel⟩
def spLaw (K : PySem.W.Frag) : Sp := fun vs H Q _ => ∃ (a : Addr) (ns : List Int), vs = [.ref a] ∧ SqL K H a (ns.map V.int) ∧ ns.length ≤ 63 ∧ ∀ H', Q (.bl true) H'
theorem Tp.pair2 {H : Hp} {v : V} {e : PyData} {k : Int} (h : Tp H v (.tuple [e, .int k])) : ∃ a u, v = .ref a ∧ H a = some (.tup [u, .int k]) := by
  cases h with
  | tup ha hx => cases hx with
    | cons h1 h2 => cases h2 with
      | cons h3 h4 =>
        cases h3
        cases h4
        exact ⟨_, _, rfl, ha⟩
structure LawT (mg : Str → Option Value) : Prop where
  len : mg "len" = none
  range : mg "range" = none
  min : mg "min" = none
  repr : mg "repr" = none
  sorted : mg "sorted" = none
section
variable {P : Program} {w : World} {K : PySem.W.Frag} {mg : Str → Option Value} {base : Heap}
def tRowK (K : PySem.W.Frag) : TE := tTup (tCons (tCall (spRank 6) [] E0 (tCons (tOp (rIxL K) (tVar 4) (tVar 11)) tNil)) (tCons (tVar 11) tNil))
theorem body_law {f fB fD fSh fLf fDt fTu fR fAl fBf fPa fSo : Addr} {dB dD dSh dLf dDt dTu dR dAl dBf dPa dSo : FuncData} (L : LawT mg)
    (GB : FnOk P w K mg base CX0 1 fB dB ["_law_script"] (spBegin K)) (mB : mg "_law_begin" = some (.ref fB)) (kB : PySem.W.keepIn K (.ref fB) = true) (bB : Binds K dB ["_law_script"] [])
    (GD : FnOk P w K mg base CX0 1 fD dD ["_law_tape", "_law_many"] spDraw) (mD : mg "_law_draw" = some (.ref fD)) (kD : PySem.W.keepIn K (.ref fD) = true) (bD : Binds K dD ["_law_tape", "_law_many"] [])
    (GSh : FnOk P w K mg base CX0 2 fSh dSh ["_law_tape", "_law_items"] spShuf) (mSh : mg "_law_shuffled" = some (.ref fSh)) (kSh : PySem.W.keepIn K (.ref fSh) = true) (bSh : Binds K dSh ["_law_tape", "_law_items"] [])
    (GLf : FnOk P w K mg base CX0 3 fLf dLf ["_law_tape"] spLeaf) (mLf : mg "_law_leaf" = some (.ref fLf)) (kLf : PySem.W.keepIn K (.ref fLf) = true) (bLf : Binds K dLf ["_law_tape"] [])
    (GDt : FnOk P w K mg base CX0 8 fDt dDt ["_law_tape", "_law_keys_here", "_law_deep"] (spDatum 4)) (mDt : mg "_law_datum" = some (.ref fDt)) (kDt : PySem.W.keepIn K (.ref fDt) = true) (bDt : Binds K dDt ["_law_tape", "_law_keys_here", "_law_deep"] [])
    (GTu : FnOk P w K mg base CX0 9 fTu dTu ["_law_datum_here"] (spTurn 6)) (mTu : mg "_law_turned" = some (.ref fTu)) (kTu : PySem.W.keepIn K (.ref fTu) = true) (bTu : Binds K dTu ["_law_datum_here"] [])
    (GR : FnOk P w K mg base CX0 8 fR dR ["_law_datum_here"] (spRank 6)) (mR : mg "_law_rank" = some (.ref fR)) (kR : PySem.W.keepIn K (.ref fR) = true) (bR : Binds K dR ["_law_datum_here"] [])
    (GAl : FnOk P w K mg base CX0 12 fAl dAl ["one", "other"] (spAlike 6)) (mAl : mg "alike" = some (.ref fAl)) (kAl : PySem.W.keepIn K (.ref fAl) = true) (bAl : Binds K dAl ["one", "other"] [])
    (GBf : FnOk P w K mg base CX0 10 fBf dBf ["one", "other"] (spBefore 6)) (mBf : mg "comes_before" = some (.ref fBf)) (kBf : PySem.W.keepIn K (.ref fBf) = true) (bBf : Binds K dBf ["one", "other"] [])
    (GPa : FnOk P w K mg base CX0 9 fPa dPa ["datum"] (spParts 6)) (mPa : mg "parts_of" = some (.ref fPa)) (kPa : PySem.W.keepIn K (.ref fPa) = true) (bPa : Binds K dPa ["datum"] [])
    (GSo : FnOk P w K mg base CX0 1 fSo dSo ["datum"] spSort) (mSo : mg "sort_of" = some (.ref fSo)) (kSo : PySem.W.keepIn K (.ref fSo) = true) (bSo : Binds K dSo ["datum"] []) :
    BodyOk P w K mg base 12 NLw "law" (defScope sLaw) (defBody sLaw) f (spLaw K) := by
  intro cdv s H vs Q E hr h
  obtain ⟨a, ns, rfl, hS, hlen, q⟩ := h
  have hr1 : Room 1 (callerA.deeper (PyProof.Rows.envOfC "law" (defScope sLaw) s.heap.objs.size f cdv)) := hr.mono (by decide)
  have hr2 : Room 2 (callerA.deeper (PyProof.Rows.envOfC "law" (defScope sLaw) s.heap.objs.size f cdv)) := hr.mono (by decide)
  have hr3 : Room 3 (callerA.deeper (PyProof.Rows.envOfC "law" (defScope sLaw) s.heap.objs.size f cdv)) := hr.mono (by decide)
  have hr8 : Room 8 (callerA.deeper (PyProof.Rows.envOfC "law" (defScope sLaw) s.heap.objs.size f cdv)) := hr.mono (by decide)
  have hr9 : Room 9 (callerA.deeper (PyProof.Rows.envOfC "law" (defScope sLaw) s.heap.objs.size f cdv)) := hr.mono (by decide)
  have hr10 : Room 10 (callerA.deeper (PyProof.Rows.envOfC "law" (defScope sLaw) s.heap.objs.size f cdv)) := hr.mono (by decide)
  have hu80 : (callerA.deeper (PyProof.Rows.envOfC "law" (defScope sLaw) s.heap.objs.size f cdv)).units + 80 < cLine := by
    have := hr1.un
    omega
  refine ⟨_, PSs.nox (pss_cons (ps_set (i := 1) scLw.nd rfl (Or.inr rfl) (pe_call GB hr1 (by rfl) mB kB bB .nil pass0 (pa_cons (pv 0) pa_nil)))
    (pss_cons (ps_for PassesOwn.never rfl (pi_range1 (by rfl) L.range (pa_cons (pe_op op_add pe_int (pe_callB (call_min2 rfl) (by rfl) L.min (by decide +kernel) (pa_cons pe_int (pa_cons (pe_callB call_len_seq (by rfl) L.len PySem.boot_len (pa_cons (pv 0) pa_nil)) pa_nil)))) pa_nil)) (pg_name (i := 2) scLw.nd rfl (Or.inl rfl))
      (pss_cons (ps_set (i := 3) scLw.nd rfl (Or.inr rfl) (pe_call GSh hr2 (by rfl) mSh kSh bSh .nil pass0 (pa_cons (pv 1) (pa_cons (pe_lst (pa_cons pe_str (pa_cons pe_str (pa_cons pe_str (pa_cons pe_str (pa_cons pe_str pa_nil)))))) pa_nil))))
      (pss_cons (ps_set (i := 4) scLw.nd rfl (Or.inr rfl) (pe_op op_cat
          (pe_lc (own := [("_law_k", 11)]) (g := gName 11) (by rfl) scLw.nd (pi_range1 (by rfl) L.range (pa_cons pe_int pa_nil))
            (blkOk_by (own := [("_law_k", 11)]) (N := NLw) (sc := defScope sLaw) (by decide +kernel)) (fun _ _ _ _ _ => pg_name (i := 11) scLw.nd rfl (Or.inl rfl)) (fun _ _ _ _ _ => pts_nil)
            (fun _ _ _ _ _ => pe_call GDt hr8 (by rfl) mDt kDt bDt .nil pass0 (pa_cons (pv 1) (pa_cons (pv 3) (pa_cons (pe_call GD hr1 (by rfl) mD kD bD .nil pass0 (pa_cons (pv 1) (pa_cons pe_int pa_nil))) pa_nil)))))
          (pe_lst (pa_cons (pe_call GLf hr3 (by rfl) mLf kLf bLf .nil pass0 (pa_cons (pv 1) pa_nil)) (pa_cons (pe_lst pa_nil) (pa_cons pe_dnewK (pa_cons pe_bl (pa_cons pe_int (pa_cons (pe_lst (pa_cons pe_bl pa_nil)) (pa_cons (pe_lst (pa_cons pe_int pa_nil)) pa_nil)))))))) ))
      (pss_cons (ps_set (i := 4) scLw.nd rfl (Or.inr rfl) (pe_op op_cat (pv 4)
          (pe_lst (pa_cons (pe_call GTu hr9 (by rfl) mTu kTu bTu .nil pass0 (pa_cons (pe_ix ix_list (pv 4) pe_int (fun _ _ => rfl)) pa_nil)) (pa_cons (pe_call GTu hr9 (by rfl) mTu kTu bTu .nil pass0 (pa_cons (pe_ix ix_list (pv 4) pe_int (fun _ _ => rfl)) pa_nil))
            (pa_cons (pe_lst (pa_cons (pe_ix ix_list (pv 4) pe_int (fun _ _ => rfl)) (pa_cons (pe_call GLf hr3 (by rfl) mLf kLf bLf .nil pass0 (pa_cons (pv 1) pa_nil)) pa_nil)))
            (pa_cons (pe_lst (pa_cons (pe_ix ix_list (pv 4) pe_int (fun _ _ => rfl)) (pa_cons (pe_call GLf hr3 (by rfl) mLf kLf bLf .nil pass0 (pa_cons (pv 1) pa_nil)) pa_nil)))
            (pa_cons (pe_disp (pps_cons pe_str (pe_ix ix_list (pv 4) pe_int (fun _ _ => rfl)) pps_nil) (by rfl) (by rfl) (fun z => by cases z) (by decide)) pa_nil))))))))
      (pss_cons (ps_for PassesOwn.never rfl (pi_list (pv 4)) (pg_name (i := 5) scLw.nd rfl (Or.inl rfl))
        (pss_one (ps_for PassesOwn.never rfl (pi_list (pv 4)) (pg_name (i := 6) scLw.nd rfl (Or.inl rfl))
          (pss_cons (ps_par (i := 7) (j := 8) rfl scLw.nd rfl rfl (by decide) rfl rfl (pa_cons (pe_call GR hr8 (by rfl) mR kR bR .nil pass0 (pa_cons (pv 5) pa_nil)) (pa_cons (pe_call GR hr8 (by rfl) mR kR bR .nil pass0 (pa_cons (pv 6) pa_nil)) pa_nil)) (by rfl))
          (pss_cons (ps_set (i := 9) scLw.nd rfl (Or.inl rfl) (pe_tup (pa_cons (pe_call GBf hr10 (by rfl) mBf kBf bBf .nil pass0 (pa_cons (pv 5) (pa_cons (pv 6) pa_nil))) (pa_cons (pe_call GAl hr (by rfl) mAl kAl bAl .nil pass0 (pa_cons (pv 5) (pa_cons (pv 6) pa_nil))) (pa_cons (pe_call GBf hr10 (by rfl) mBf kBf bBf .nil pass0 (pa_cons (pv 6) (pa_cons (pv 5) pa_nil))) pa_nil)))))
          (pss_cons (ps_if (pt_cmpR op_ne (pe_callB (call_repD hr1 rfl) (by rfl) L.repr PyProof.Rows.boot_repr (pa_cons (pv 9) pa_nil)) (pe_callB (call_repD hr1 rfl) (by rfl) L.repr PyProof.Rows.boot_repr (pa_cons (pe_tup (pa_cons (pe_cmpR (op_ltK hr1.units) (pv 7) (pv 8) (nomark _)) (pa_cons (pe_cmpR (op_eqD hr1.units) (pv 7) (pv 8) (nomark _)) (pa_cons (pe_cmpR (op_ltK hr1.units) (pv 8) (pv 7) (nomark _)) pa_nil)))) pa_nil)) (nomark _)) (pss_one (ps_ret pe_bl)) pss_nil)
          (pss_cons (ps_if (PW.pt (pw_and (pt_val (pe_call GAl hr (by rfl) mAl kAl bAl .nil pass0 (pa_cons (pv 5) (pa_cons (pv 6) pa_nil)))) (pw_and1 (pt_cmpR (op_neD hr1.units)
              (pe_tup (pa_cons (pe_call GPa hr9 (by rfl) mPa kPa bPa .nil pass0 (pa_cons (pv 5) pa_nil)) (pa_cons (pe_call GSo hr1 (by rfl) mSo kSo bSo .nil pass0 (pa_cons (pv 5) pa_nil)) pa_nil)))
              (pe_tup (pa_cons (pe_call GPa hr9 (by rfl) mPa kPa bPa .nil pass0 (pa_cons (pv 6) pa_nil)) (pa_cons (pe_call GSo hr1 (by rfl) mSo kSo bSo .nil pass0 (pa_cons (pv 6) pa_nil)) pa_nil))) (nomark _))))) (pss_one (ps_ret pe_bl)) pss_nil)
          (pss_one (ps_if (PW.pt (pw_and (pt_cmpR op_lt (pe_call GPa hr9 (by rfl) mPa kPa bPa .nil pass0 (pa_cons (pv 5) pa_nil)) (pe_call GPa hr9 (by rfl) mPa kPa bPa .nil pass0 (pa_cons (pv 6) pa_nil)) (nomark _)) (pw_and1 (pt_not (pt_val (pe_call GBf hr10 (by rfl) mBf kBf bBf .nil pass0 (pa_cons (pv 5) (pa_cons (pv 6) pa_nil)))))))) (pss_one (ps_ret pe_bl)) pss_nil)))))))))
      (pss_cons (ps_set (i := 10) scLw.nd rfl (Or.inl rfl) (pe_callB (cr_sortedK hu80) (by rfl) L.sorted (by decide +kernel) (pa_cons (pe_lc (own := [("_law_k", 11)]) (g := gName 11) (te := tRowK K) (by rfl) scLw.nd (pi_range1 (by rfl) L.range (pa_cons (pe_callB call_len_seq (by rfl) L.len PySem.boot_len (pa_cons (pv 4) pa_nil)) pa_nil))
            (blkOk_by (own := [("_law_k", 11)]) (N := NLw) (sc := defScope sLaw) (by decide +kernel)) (fun _ _ _ _ _ => pg_name (i := 11) scLw.nd rfl (Or.inl rfl)) (fun _ _ _ _ _ => pts_nil)
            (fun _ _ _ _ _ => pe_tup (pa_cons (pe_call GR hr8 (by rfl) mR kR bR .nil pass0 (pa_cons (pe_ix ix_list (pv 4) (pv 11) (fun _ _ => rfl)) pa_nil)) (pa_cons (pv 11) pa_nil)))) pa_nil)))
      (pss_one (ps_for PassesOwn.never rfl (pi_range1 (by rfl) L.range (pa_cons (pe_op op_sub (pe_callB call_len_seq (by rfl) L.len PySem.boot_len (pa_cons (pv 10) pa_nil)) pe_int) pa_nil)) (pg_name (i := 11) scLw.nd rfl (Or.inl rfl))
        (pss_one (ps_if (pt_val (pe_call GBf hr10 (by rfl) mBf kBf bBf .nil pass0 (pa_cons (pe_ix ix_list (pv 4) (pe_ix ix_tup (pe_ix ix_list (pv 10) (pe_op op_add (pv 11) pe_int) (fun _ _ => rfl)) pe_int (fun _ _ => rfl)) (fun _ _ => rfl)) (pa_cons (pe_ix ix_list (pv 4) (pe_ix ix_tup (pe_ix ix_list (pv 10) (pv 11) (fun _ _ => rfl)) pe_int (fun _ _ => rfl)) (fun _ _ => rfl)) pa_nil)))) (pss_one (ps_ret pe_bl)) pss_nil))))))))))
    (pss_one (ps_ret pe_bl)))), ?_⟩
  refine ⟨_, rfl, a, ns, rfl, hS, hlen, fun H1 d l s1 nd nl nld hT => ?_⟩
  have hS1 := s1.seq hS
  refine ⟨_, rfl, _, _, rfl, .inl hS1, _, _, rfl, _, _, rfl, rfl, _, rfl, ?_, ?_, ?_⟩
  · have e : (List.map V.int ns).length = ns.length := List.length_map _
    split <;> omega
  · have e : (List.map V.int ns).length = ns.length := List.length_map _
    split <;> omega
  generalize hn : (2 + (if (((List.map V.int ns).length : Nat) : Int) < 1 then (((List.map V.int ns).length : Nat) : Int) else 1) : Int).toNat = n
  have hn3 : n ≤ 3 := by
    rw [← hn]
    split <;> omega
  refine for_range (lo := 0) (n := n) (fun i σ H' => ∃ v2 v3 v4 v5 v6 v7 v8 v9 v10 v11 : Option V, σ = [some (.ref a), some (.ref d), v2, v3, v4, v5, v6, v7, v8, v9, v10, v11] ∧ Tape H' d l (3000 * i)) ⟨_, _, _, _, _, _, _, _, _, _, rfl, hT⟩ ?_ ?_
  · rintro tn σ H2 htn ⟨v2, v3, v4, v5, v6, v7, v8, v9, v10, v11, rfl, t2⟩
    refine ⟨_, rfl, few (by show 5 ≤ 1000; decide), fun p np => ?_⟩
    refine ⟨d, l, p, 3000 * tn, ["a", "b", "ab", "aa", "z"], rfl, t2.same (same_new (fun _ _ z => z) np), by omega, upd_same, by decide, by decide +kernel, fun H3 R ys b3 t3 nR hR perm => ?_⟩
    have t3' : Tape H3 d l (3000 * tn + 5) := t3
    have ndy : ys.Nodup := perm.nodup_iff.mpr (by decide +kernel)
    have oky : ∀ z ∈ ys, PyData.strOk z = true := fun z hz => (show ∀ z ∈ (["a", "b", "ab", "aa", "z"] : List Str), PyData.strOk z = true by decide +kernel) z (perm.mem_iff.mp hz)
    have ly : ys.length = 5 := perm.length_eq
    have nRd : R ≠ d := by
      obtain ⟨ms, aa, ff, hd, _⟩ := t3
      exact ne_of hR hd (by intro z; cases z)
    refine ⟨5, rfl, by decide, by decide, fun D nD => ?_⟩
    have ndD : d ≠ D := by
      obtain ⟨_, ho⟩ := t3.at.1
      exact ne_of_none ho nD
    have nlD : l ≠ D := by
      obtain ⟨_, ho⟩ := t3.at.2
      exact ne_of_none ho nD
    have tD : Tape (upd H3 D (.lst [])) d l (3000 * tn + 5) := t3'.upd ndD nlD
    refine lc_range (lo := 0) (n := 5) (fun i H' => ∃ (acc : List V) (ds : List Toy.D), H' D = some (.lst acc) ∧ acc.length = i ∧ But d H3 H' ∧ Tape H' d l (3000 * tn + 5 + i * 520) ∧ Dom (upd H3 D (.lst [])) H' ∧ Paired (fun x z => Da 3 (newH (upd H3 D (.lst [])) H') x z) acc ds)
      ⟨[], [], upd_same, rfl, Same.but (same_new (fun _ _ z => z) nD) d, tD.more (by omega), Dom.refl, .nil⟩ ?_ ?_
    · rintro i H4 hi ⟨acc, ds, hD4, lacc, b4, t4, dom4, pr⟩
      have hR4 := b4 _ _ nRd hR
      refine ⟨rfl, _, rfl, _, rfl, _, rfl, d, l, _, 4, rfl, t4, by omega, by decide, by decide, fun H5 r b5 t5 r0 r4 => ?_⟩
      have hR5 := b5 _ _ nRd hR4
      have hm3 : r.toNat ≤ 3 := by omega
      have hpow : 4 ^ r.toNat ≤ 4 ^ 3 := Nat.pow_le_pow_right (by decide) hm3
      have hpow' : 8 * 4 ^ r.toNat ≤ 512 := by
        have : (4 : Nat) ^ 3 = 64 := rfl
        omega
      refine ⟨d, l, R, _, r.toNat, ys, by omega, by rw [Int.toNat_of_nonneg r0]; rfl, t5, by omega, hR5, by omega, ndy, oky, fun H6 v dt b6 t6 q6 => ?_⟩
      have hD6 := b6 _ _ ndD.symm (b5 _ _ ndD.symm hD4)
      refine ⟨acc, hD6, small1000 (by omega), acc ++ [v], ds ++ [dt], upd_same, by rw [List.length_append, lacc]; rfl, ?_, ?_, ?_, ?_⟩
      · intro b o hb ho
        rw [upd_ne (ne_of_none ho nD)]
        exact b6 _ _ hb (b5 _ _ hb (b4 _ _ hb ho))
      · refine (t6.upd ndD nlD).more ?_
        have : (i + 1) * 520 = i * 520 + 520 := Nat.succ_mul _ _
        omega
      · exact Dom.upd (dom4.trans ((Dom.but b5 t5).trans (Dom.but b6 t6)))
      · have keepD : ∀ b o, H5 b = none → H6 b = some o → (upd H6 D (.lst (acc ++ [v]))) b = some o := fun b o h1 h2 => by
          rw [upd_ne (fun z => by rw [z, b5 _ _ ndD.symm hD4] at h1; cases h1)]
          exact h2
        refine Paired.snoc (paired_mono (new_le Dom.refl fun b o h1 h2 => ?_) (Nat.le_refl _) pr) (q6.mono (new_le (dom4.trans (Dom.but b5 t5)) keepD) hm3)
        have hbD : b ≠ D := fun z => by rw [z, upd_same] at h1; cases h1
        have hbd : b ≠ d := fun z => by
          obtain ⟨_, ho⟩ := tD.at.1
          rw [z, ho] at h1
          cases h1
        rw [upd_ne hbD]
        exact b6 _ _ hbd (b5 _ _ hbd h2)
    rintro H4 ⟨acc, ds, hD4, lacc, b4, t4, dom4, pr⟩
    have t4' : Tape H4 d l (3000 * tn + 2605) := t4
    obtain ⟨od, hod⟩ := tD.at.1
    have pr3 : Paired (fun x z => Da 3 (delH H4 d) x z) acc ds := L2.Paired.mapP pr fun _ _ z => Da.mono (off_new hod) (Nat.le_refl _) z
    have lds : ds.length = 5 := by rw [← Paired.length pr]; exact lacc
    refine ⟨_, rfl, d, l, _, rfl, t4', by omega, fun H5 vl b5 t5 ml => ?_⟩
    have ndD5 := ndD.symm
    have hD5 := b5 _ _ ndD5 hD4
    have kp5 := b5
    refine ⟨Nat.zero_le _, fun p1 n1 => ?_⟩
    have s1 : Same H5 (upd H5 p1 (.lst [])) := same_new (fun _ _ z => z) n1
    have g1 : (upd H5 p1 (.lst [])) p1 = some (.lst []) := upd_same
    have m1 : p1 ≠ d := by
      obtain ⟨_, ho⟩ := t5.at.1
      exact (ne_of_none ho n1).symm
    generalize upd H5 p1 (.lst []) = J1 at s1 g1 ⊢
    have t6 := t5.same s1
    intro p2 n2
    have s2 : Same J1 (upd J1 p2 (.dK [])) := same_new (fun _ _ z => z) n2
    have g2 : (upd J1 p2 (.dK [])) p2 = some (.dK []) := upd_same
    have m2 : p2 ≠ d := by
      obtain ⟨_, ho⟩ := t6.at.1
      exact (ne_of_none ho n2).symm
    generalize upd J1 p2 (.dK []) = J2 at s2 g2 ⊢
    have t7 := t6.same s2
    refine ⟨few (by show 1 ≤ 1000; decide), fun p3 n3 => ?_⟩
    have s3 : Same J2 (upd J2 p3 (.lst [.bl true])) := same_new (fun _ _ z => z) n3
    have g3 : (upd J2 p3 (.lst [.bl true])) p3 = some (.lst [.bl true]) := upd_same
    have m3 : p3 ≠ d := by
      obtain ⟨_, ho⟩ := t7.at.1
      exact (ne_of_none ho n3).symm
    generalize upd J2 p3 (.lst [.bl true]) = J3 at s3 g3 ⊢
    have t8 := t7.same s3
    refine ⟨few (by show 1 ≤ 1000; decide), fun p4 n4 => ?_⟩
    have s4 : Same J3 (upd J3 p4 (.lst [.int 1])) := same_new (fun _ _ z => z) n4
    have g4 : (upd J3 p4 (.lst [.int 1])) p4 = some (.lst [.int 1]) := upd_same
    have m4 : p4 ≠ d := by
      obtain ⟨_, ho⟩ := t8.at.1
      exact (ne_of_none ho n4).symm
    generalize upd J3 p4 (.lst [.int 1]) = J4 at s4 g4 ⊢
    refine ⟨few (by show 7 ≤ 1000; decide), fun p5 n5 => ?_⟩
    have s5 : Same J4 (upd J4 p5 (.lst [vl, .ref p1, .ref p2, .bl true, .int 1, .ref p3, .ref p4])) := same_new (fun _ _ z => z) n5
    have g5 : (upd J4 p5 (.lst [vl, .ref p1, .ref p2, .bl true, .int 1, .ref p3, .ref p4])) p5 = some (.lst [vl, .ref p1, .ref p2, .bl true, .int 1, .ref p3, .ref p4]) := upd_same
    generalize upd J4 p5 (.lst [vl, .ref p1, .ref p2, .bl true, .int 1, .ref p3, .ref p4]) = J5 at s5 g5 ⊢
    have sa : Same H5 J5 := s1.trans (s2.trans (s3.trans (s4.trans s5)))
    refine ⟨D, p5, acc, _, rfl, rfl, sa _ _ hD5, g5, few (by rw [lacc]; show 5 + 7 ≤ 1000; decide), fun p6 n6 => ?_⟩
    generalize hx1 : acc ++ [vl, .ref p1, .ref p2, .bl true, .int 1, .ref p3, .ref p4] = xs1
    have s6 : Same J5 (upd J5 p6 (.lst xs1)) := same_new (fun _ _ z => z) n6
    have g6 : (upd J5 p6 (.lst xs1)) p6 = some (.lst xs1) := upd_same
    generalize upd J5 p6 (.lst xs1) = J at s6 g6 ⊢
    have sJ : Same H5 J := sa.trans s6
    have tJ : Tape J d l (3000 * tn + 2606) := t5.same sJ
    have p3J : Paired (fun x z => Da 3 (delH J d) x z) acc ds := paired_mono (But.off (b5.trans (Same.but sJ d))) (Nat.le_refl _) pr3
    have e1 : Da 1 (delH J d) (.ref p1) (.lst []) := da_lst (n := 0) (xs := []) (ds := []) m1 (s6 _ _ (s5 _ _ (s4 _ _ (s3 _ _ (s2 _ _ g1))))) (Nat.zero_le _) .nil
    have e2 : Da 1 (delH J d) (.ref p2) (.dct [] []) := da_d0 m2 (s6 _ _ (s5 _ _ (s4 _ _ (s3 _ _ g2))))
    have e3 : Da 1 (delH J d) (.ref p3) (.lst [.bl true]) := da_lst (n := 0) (xs := [.bl true]) (ds := [.bl true]) m3 (s6 _ _ (s5 _ _ (s4 _ _ g3))) (by show 1 ≤ 20; decide) (.cons (by simp [Da]) .nil)
    have e4 : Da 1 (delH J d) (.ref p4) (.lst [.int 1]) := da_lst (n := 0) (xs := [.int 1]) (ds := [.int 1]) m4 (s6 _ _ (s5 _ _ g4)) (by show 1 ≤ 20; decide) (.cons (by simp [Da]) .nil)
    have st1 : Stand d J xs1 (ds ++ [dOf vl, .lst [], .dct [] [], .bl true, .int 1, .lst [.bl true], .lst [.int 1]]) := by
      rw [← hx1]
      exact Stand.app (show Stand d J acc ds from L2.Paired.mapP p3J fun _ _ z => dao_up z (by decide)) (.cons (da_leaf ml) (.cons (dao_up e1 (by decide)) (.cons (dao_up e2 (by decide)) (.cons (by show Da 5 _ _ _; simp [Da]) (.cons (by show Da 5 _ _ _; simp [Da]) (.cons (dao_up e3 (by decide)) (.cons (dao_up e4 (by decide)) .nil)))))))
    have at_ : ∀ (k : Nat) (hk : k < acc.length), atI xs1 (k : Int) = some acc[k] := fun k hk => atI_nat (by rw [← hx1, List.getElem?_append_left hk]; exact List.getElem?_eq_getElem hk)
    have z_ : ∀ (k : Nat) (hk : k < acc.length), ∃ z, Da 3 (delH J d) acc[k] z := fun k hk => by
      obtain ⟨z, _, hz⟩ := paired_get (show Paired (fun x z => Da 3 (delH J d) x z) acc ds from p3J) k acc[k] (List.getElem?_eq_getElem hk)
      exact ⟨z, hz⟩
    have a0 : atI xs1 0 = some (acc[0]'(by omega)) := at_ 0 (by omega)
    have a1 : atI xs1 1 = some (acc[1]'(by omega)) := at_ 1 (by omega)
    have a2 : atI xs1 2 = some (acc[2]'(by omega)) := at_ 2 (by omega)
    have a3 : atI xs1 3 = some (acc[3]'(by omega)) := at_ 3 (by omega)
    obtain ⟨z0, y0⟩ := z_ 0 (by omega)
    obtain ⟨z1, y1⟩ := z_ 1 (by omega)
    obtain ⟨z2, y2⟩ := z_ 2 (by omega)
    obtain ⟨z3, y3⟩ := z_ 3 (by omega)
    generalize (acc[0]'(by omega)) = x0 at a0 y0
    generalize (acc[1]'(by omega)) = x1 at a1 y1
    generalize (acc[2]'(by omega)) = x2 at a2 y2
    generalize (acc[3]'(by omega)) = x3 at a3 y3
    have p6d : p6 ≠ d := by
      obtain ⟨ms, aa, ff, hd, _⟩ := tJ
      exact ne_of g6 hd (by intro z; cases z)
    refine ⟨_, rfl, _, rfl, p6, xs1, _, x0, rfl, rfl, SqL.of g6, a0, x0, 5, z0, by decide, rfl, (dao_up y0 (by decide)).in_, fun K1 u1 w1 q1 f1 => ?_⟩
    obtain ⟨oJ, hoJ⟩ := tJ.at.1
    have d1 : DaO d K1 u1 w1 := da_new hoJ f1 (Nat.le_refl _)
    refine ⟨_, rfl, p6, xs1, _, x1, rfl, rfl, SqL.of (q1 _ _ g6), a1, x1, 5, z1, by decide, rfl, ((dao_up y1 (by decide)).same q1).in_, fun K2 u2 w2 q2 f2 => ?_⟩
    have d2 : DaO d K2 u2 w2 := da_new (q1 _ _ hoJ) f2 (Nat.le_refl _)
    have q12 := q1.trans q2
    have tK2 := tJ.same q12
    refine ⟨_, rfl, p6, xs1, _, x2, rfl, rfl, SqL.of (q12 _ _ g6), a2, _, rfl, d, l, _, rfl, tK2, by omega, fun K3 l3 b7 t9 ml3 => ⟨few (by show 2 ≤ 1000; decide), fun p7 n7 => ?_⟩⟩
    have B3 : But d J K3 := (Same.but q12 d).trans b7
    have m7 : p7 ≠ d := by
      obtain ⟨_, ho⟩ := t9.at.1
      exact (ne_of_none ho n7).symm
    have s7 : Same K3 (upd K3 p7 (.lst [x2, l3])) := same_new (fun _ _ z => z) n7
    have g7 : (upd K3 p7 (.lst [x2, l3])) p7 = some (.lst [x2, l3]) := upd_same
    generalize upd K3 p7 (.lst [x2, l3]) = K4 at s7 g7 ⊢
    have B4 : But d J K4 := B3.trans (Same.but s7 d)
    have t10 := t9.same s7
    have d7 : Da 4 (delH K4 d) (.ref p7) (.lst [z2, dOf l3]) := da_lst (n := 3) (xs := [x2, l3]) (ds := [z2, dOf l3]) m7 g7 (by show 2 ≤ 20; decide) (.cons (Da.mono (But.off B4) (Nat.le_refl _) y2) (.cons ((leaf_one ml3 _).mono (fun _ _ z => z) (by decide)) .nil))
    refine ⟨_, rfl, p6, xs1, _, x2, rfl, rfl, SqL.of (B4 _ _ p6d g6), a2, _, rfl, d, l, _, rfl, t10, by omega, fun K5 l5 b8 t11 ml5 => ⟨few (by show 2 ≤ 1000; decide), fun p8 n8 => ?_⟩⟩
    have B5 : But d J K5 := B4.trans b8
    have m8 : p8 ≠ d := by
      obtain ⟨_, ho⟩ := t11.at.1
      exact (ne_of_none ho n8).symm
    have s8 : Same K5 (upd K5 p8 (.lst [x2, l5])) := same_new (fun _ _ z => z) n8
    have g8 : (upd K5 p8 (.lst [x2, l5])) p8 = some (.lst [x2, l5]) := upd_same
    generalize upd K5 p8 (.lst [x2, l5]) = K6 at s8 g8 ⊢
    have B6 : But d J K6 := B5.trans (Same.but s8 d)
    have t12 := t11.same s8
    have d8 : Da 4 (delH K6 d) (.ref p8) (.lst [z2, dOf l5]) := da_lst (n := 3) (xs := [x2, l5]) (ds := [z2, dOf l5]) m8 g8 (by show 2 ≤ 20; decide) (.cons (Da.mono (But.off B6) (Nat.le_refl _) y2) (.cons ((leaf_one ml5 _).mono (fun _ _ z => z) (by decide)) .nil))
    intro p9 n9
    have m9 : p9 ≠ d := by
      obtain ⟨_, ho⟩ := t12.at.1
      exact (ne_of_none ho n9).symm
    have sn9 : Same K6 (upd K6 p9 (.dK [])) := same_new (fun _ _ z => z) n9
    refine ⟨_, rfl, p6, xs1, _, x3, rfl, rfl, SqL.of (sn9 _ _ (B6 _ _ p6d g6)), a3, upd_same, [(Sum.inr ("a" : Str), x3)], rfl, (by show 1 ≤ 15; decide), ?_⟩
    have s9 : Same K6 (upd (upd K6 p9 (.dK [])) p9 (.dK (mergeK [] [(Sum.inr ("a" : Str), x3)]))) := fun b o e => by
      rw [upd_ne (ne_of_none e n9), upd_ne (ne_of_none e n9)]
      exact e
    have g9 : (upd (upd K6 p9 (.dK [])) p9 (.dK (mergeK [] [(Sum.inr ("a" : Str), x3)]))) p9 = some (.dK [(Sum.inr ("a" : Str), x3)]) := upd_same
    generalize upd (upd K6 p9 (.dK [])) p9 (.dK (mergeK [] [(Sum.inr ("a" : Str), x3)])) = K7 at s9 g9 ⊢
    have B7 : But d J K7 := B6.trans (Same.but s9 d)
    have d9 : Da 4 (delH K7 d) (.ref p9) (.dct ["a"] [z3]) := da_d1 (n := 3) m9 g9 (Da.mono (But.off B7) (Nat.le_refl _) y3)
    refine ⟨few (by show 5 ≤ 1000; decide), fun p10 n10 => ?_⟩
    have s10 : Same K7 (upd K7 p10 (.lst [u1, u2, .ref p7, .ref p8, .ref p9])) := same_new (fun _ _ z => z) n10
    have g10 : (upd K7 p10 (.lst [u1, u2, .ref p7, .ref p8, .ref p9])) p10 = some (.lst [u1, u2, .ref p7, .ref p8, .ref p9]) := upd_same
    generalize upd K7 p10 (.lst [u1, u2, .ref p7, .ref p8, .ref p9]) = K8 at s10 g10 ⊢
    have lx1 : xs1.length = 12 := by
      rw [← hx1, List.length_append, lacc]
      rfl
    refine ⟨p6, p10, xs1, _, rfl, rfl, s10 _ _ (B7 _ _ p6d g6), g10, few (by rw [lx1]; show 12 + 5 ≤ 1000; decide), fun DD n11 => ?_⟩
    generalize hxs : xs1 ++ [u1, u2, .ref p7, .ref p8, .ref p9] = xs
    have lxs : xs.length = 17 := by
      rw [← hxs, List.length_append, lx1]
      rfl
    have s11 : Same K8 (upd K8 DD (.lst xs)) := same_new (fun _ _ z => z) n11
    have gD : (upd K8 DD (.lst xs)) DD = some (.lst xs) := upd_same
    generalize upd K8 DD (.lst xs) = S at s11 gD ⊢
    have s7S : Same K7 S := s10.trans s11
    have s6S : Same K6 S := s9.trans s7S
    have B8 : But d J S := B7.trans (Same.but s7S d)
    have tS : Tape S d l (3000 * (tn + 1)) := (t12.same s6S).more (by omega)
    have stand : ∃ zs, Stand d S xs zs := by
      rw [← hxs]
      exact ⟨_, Stand.app (st1.but B8) (.cons (d1.but ((Same.but q2 d).trans (b7.trans ((Same.but s7 d).trans (b8.trans ((Same.but s8 d).trans (Same.but s6S d))))))) (.cons (d2.but (b7.trans ((Same.but s7 d).trans (b8.trans ((Same.but s8 d).trans (Same.but s6S d)))))) (.cons ((dao_up d7 (by decide)).but (b8.trans ((Same.but s8 d).trans (Same.but s6S d)))) (.cons ((dao_up d8 (by decide)).same s6S) (.cons ((dao_up d9 (by decide)).same s7S) .nil)))))⟩
    obtain ⟨zs, stand⟩ := stand
    have prS : Paired (fun x z => Da 5 S x z) xs zs := L2.Paired.mapP stand fun _ _ z => z.in_
    have lzs : zs.length = 17 := by rw [← Stand.len stand]; exact lxs
    clear stand d7 d8 d9 d1 d2 st1
    have X : ∀ {x : V} {z : Toy.D} {H' : Hp}, Da 5 S x z → Same S H' → Da 5 H' x z := fun h s => h.mono s (Nat.le_refl _)
    refine ⟨_, rfl, DD, rfl, ⟨_, SqL.of gD⟩, for_list (K := K) (a := DD) (xs := xs) (fun k σ H' => ∃ v5 v6 v7 v8 v9 : Option V, σ = [some (.ref a), some (.ref d), some (.int (0 + (tn : Int))), some (.ref R), some (.ref DD), v5, v6, v7, v8, v9, v10, v11] ∧ Same S H') ⟨_, _, _, _, _, rfl, fun _ _ z => z⟩ (fun k σ H' _ ⟨_, _, _, _, _, _, s⟩ => SqL.of (s _ _ gD)) ?_ ?_⟩
    · rintro k x σ Ha hk ⟨v5, v6, v7, v8, v9, rfl, sA⟩
      refine ⟨_, rfl, DD, rfl, ⟨_, SqL.of (sA _ _ gD)⟩, for_list (K := K) (a := DD) (xs := xs) (fun k σ H' => ∃ v6 v7 v8 v9 : Option V, σ = [some (.ref a), some (.ref d), some (.int (0 + (tn : Int))), some (.ref R), some (.ref DD), some x, v6, v7, v8, v9, v10, v11] ∧ Same S H') ⟨_, _, _, _, rfl, sA⟩ (fun k σ H' _ ⟨_, _, _, _, _, s⟩ => SqL.of (s _ _ gD)) ?_ ?_⟩
      · rintro j y σ Hb hj ⟨v6, v7, v8, v9, rfl, sB⟩
        obtain ⟨dx, _, hx⟩ := paired_get (show Paired (fun x z => Da 5 S x z) xs zs from prS) k x hk
        obtain ⟨dy, _, hy⟩ := paired_get (show Paired (fun x z => Da 5 S x z) xs zs from prS) j y hj
        have so := same_order 5 dx dy
        have so' := same_order 5 dy dx
        have shx := rank_shaped K hx (by decide)
        have shy := rank_shaped K hy (by decide)
        refine ⟨_, rfl, x, 5, dx, by decide, rfl, X hx sB, fun H1 r1 c1 t1 => ⟨_, rfl, y, 5, dy, by decide, rfl, X hy (sB.trans c1), fun H2 r2 c2 t2 => ⟨_, _, rfl, ?_⟩⟩⟩
        have e2 := (sB.trans c1).trans c2
        refine ⟨_, rfl, _, rfl, x, y, 5, dx, dy, by decide, by decide, rfl, X hx e2, X hy e2, fun H3 c3 => ?_⟩
        have e3 := e2.trans c3
        refine ⟨_, rfl, _, rfl, x, y, 5, dx, dy, by decide, rfl, X hx e3, X hy e3, fun H4 c4 => ?_⟩
        have e4 := e3.trans c4
        refine ⟨_, rfl, _, rfl, y, x, 5, dy, dx, by decide, by decide, rfl, X hy e4, X hx e4, fun H5 c5 => ⟨few (by show 3 ≤ 1000; decide), fun t nt => ?_⟩⟩
        have e5 := e4.trans c5
        rw [so.2.2.2, so'.2.2.2] at *
        have c6 : Same H5 (upd H5 t (.tup [.bl (dataLt (rank 5 dx) (rank 5 dy)), .bl (alk 5 dx dy), .bl (dataLt (rank 5 dy) (rank 5 dx))])) := same_new (fun _ _ z => z) nt
        have g6 : (upd H5 t (.tup [.bl (dataLt (rank 5 dx) (rank 5 dy)), .bl (alk 5 dx dy), .bl (dataLt (rank 5 dy) (rank 5 dx))])) t = some (.tup [.bl (dataLt (rank 5 dx) (rank 5 dy)), .bl (alk 5 dx dy), .bl (dataLt (rank 5 dy) (rank 5 dx))]) := upd_same
        generalize upd H5 t (.tup [.bl (dataLt (rank 5 dx) (rank 5 dy)), .bl (alk 5 dx dy), .bl (dataLt (rank 5 dy) (rank 5 dx))]) = H6 at c6 g6 ⊢
        have e6 := e5.trans c6
        have k26 : Same H2 H6 := c3.trans (c4.trans (c5.trans c6))
        have q1 : Dp K H6 r1 (rank 5 dx) := (t1.mono (tkS (c2.trans k26))).dp
        have q2 : Dp K H6 r2 (rank 5 dy) := (t2.mono (tkS k26)).dp
        obtain ⟨w1, w2, w3⟩ := rep3 (dataLt (rank 5 dx) (rank 5 dy)) (alk 5 dx dy) (dataLt (rank 5 dy) (rank 5 dx))
        refine ⟨_, rfl, t, .tuple [.bool _, .bool _, .bool _], rfl, .tup g6 (.cons (.bl _) (.cons (.bl _) (.cons (.bl _) .nil))), w1, w2, w3, ?_⟩
        refine ⟨_, rfl, _, rfl, rank 5 dx, rank 5 dy, q1, q2, shx, shy, so.2.1, ?_⟩
        refine ⟨_, rfl, _, rfl, rank 5 dx, rank 5 dy, q1, q2, shx, shy, ?_⟩
        refine ⟨_, rfl, _, rfl, rank 5 dy, rank 5 dx, q2, q1, shy, shx, so'.2.1, few (by show 3 ≤ 1000; decide), fun tt ntt => ?_⟩
        have c7 := same_new (u := .tup [.bl (dataLt (rank 5 dx) (rank 5 dy)), .bl (PyData.eqv (rank 5 dx) (rank 5 dy)), .bl (dataLt (rank 5 dy) (rank 5 dx))]) (fun _ _ z => z) ntt
        refine ⟨tt, .tuple [.bool (dataLt (rank 5 dx) (rank 5 dy)), .bool (alk 5 dx dy), .bool (dataLt (rank 5 dy) (rank 5 dx))], rfl, .tup upd_same (.cons (.bl _) (.cons (.bl _) (.cons (.bl _) .nil))), w1, w2, w3, rfl, _, rfl, iteNS rfl ?_⟩
        generalize upd H6 tt (.tup [.bl (dataLt (rank 5 dx) (rank 5 dy)), .bl (PyData.eqv (rank 5 dx) (rank 5 dy)), .bl (dataLt (rank 5 dy) (rank 5 dx))]) = H7 at c7 ⊢
        have e7 := e6.trans c7
        apply cut_rest (J := H7)
        · intro rest
          refine ⟨_, rfl, _, rfl, x, y, 5, dx, dy, by decide, rfl, X hx e7, X hy e7, fun H8 c8 => ⟨_, rfl, ?_⟩⟩
          have e8 := e7.trans c8
          cases eb : alk 5 dx dy with
          | false =>
            refine iteF ?_
            exact rest H8 c8
          | true =>
            refine iteT ⟨_, rfl, x, 5, dx, by decide, rfl, X hx e8, fun H9 c9 => ?_⟩
            have e9 := e8.trans c9
            refine ⟨_, rfl, x, 5, dx, rfl, X hx e9, few (by show 2 ≤ 1000; decide), fun ta na => ?_⟩
            have ca := same_new (u := .tup [.int (cnt 5 dx), .str (sortS dx)]) (fun _ _ z => z) na
            have ga : (upd H9 ta (.tup [.int (cnt 5 dx), .str (sortS dx)])) ta = some (.tup [.int (cnt 5 dx), .str (sortS dx)]) := upd_same
            generalize upd H9 ta (.tup [.int (cnt 5 dx), .str (sortS dx)]) = H10 at ca ga ⊢
            have e10 := e9.trans ca
            refine ⟨_, rfl, y, 5, dy, by decide, rfl, X hy e10, fun H11 c11 => ?_⟩
            have e11 := e10.trans c11
            refine ⟨_, rfl, y, 5, dy, rfl, X hy e11, few (by show 2 ≤ 1000; decide), fun tb nb => ?_⟩
            have cb := same_new (u := .tup [.int (cnt 5 dy), .str (sortS dy)]) (fun _ _ z => z) nb
            refine ⟨.tuple [.int (cnt 5 dx), .str (sortS dx)], .tuple [.int (cnt 5 dy), .str (sortS dy)], .tup (SqT.of (cb _ _ (c11 _ _ ga))) (.cons (.int _) (.cons (.str _) .nil)), .tup (SqT.of upd_same) (.cons (.int _) (.cons (.str _) .nil)), two_shaped _ _, two_shaped _ _, _, rfl, ?_⟩
            rw [two_same (alk_cnt eb).1 (alk_cnt eb).2]
            exact rest _ (c8.trans (c9.trans (ca.trans (c11.trans cb))))
        intro H8 c8
        refine iteF ?_
        have e8 := e7.trans c8
        refine ⟨_, rfl, x, 5, dx, by decide, rfl, X hx e8, fun H9 c9 => ⟨_, rfl, y, 5, dy, by decide, rfl, X hy (e8.trans c9), fun H10 c10 => ⟨_, _, rfl, rfl, _, rfl, ?_⟩⟩⟩
        have e10 := (e8.trans c9).trans c10
        refine ite2 (fun c => ?_) (fun c => ?_)
        · have lt : dataLt (key 5 dx) (key 5 dy) = true := less_cnt (of_decide_eq_true c)
          refine ⟨_, rfl, _, rfl, x, y, 5, dx, dy, by decide, by decide, rfl, X hx e10, X hy e10, fun H11 c11 => ⟨true, by rw [lt], ?_⟩⟩
          exact ⟨_, _, _, _, rfl, e10.trans c11⟩
        · exact ⟨_, _, _, _, rfl, e10⟩
      · rintro σ Hb ⟨v6, v7, v8, v9, rfl, sB⟩
        exact ⟨_, _, _, _, _, rfl, sB⟩
    rintro σ Ha ⟨v5, v6, v7, v8, v9, rfl, sA⟩
    refine ⟨_, rfl, DD, _, rfl, .inl (SqL.of (sA _ _ gD)), _, rfl, by omega, by omega, fun D3 n3 => ?_⟩
    refine lc_range (lo := 0) (n := ((xs.length : Nat) : Int).toNat) (fun i H' => ∃ ws : List V, H' D3 = some (.lst ws) ∧ ws.length = i ∧ Same Ha H' ∧ TpAll H' ws ((List.range i).map fun k => rowP 5 (zs.getD k .non) k)) ⟨[], upd_same, rfl, same_new (fun _ _ z => z) n3, .nil⟩ ?_ ?_
    · rintro i H1 hi ⟨ws, hD3, lws, c1, pr⟩
      have hil : i < xs.length := by omega
      have mx : xs[i]? = some xs[i] := List.getElem?_eq_getElem hil
      obtain ⟨z, gz, hz⟩ := paired_get (show Paired (fun x z => Da 5 S x z) xs zs from prS) i _ mx
      have hzd : zs.getD i .non = z := by rw [List.getD_eq_getElem?_getD, gz]; rfl
      have ax : atI xs (0 + (i : Int)) = some xs[i] := by
        rw [Int.zero_add]
        exact atI_nat mx
      refine ⟨rfl, _, rfl, _, rfl, DD, xs, _, _, rfl, rfl, SqL.of (c1 _ _ (sA _ _ gD)), ax, xs[i], 5, z, by decide, rfl, X hz (sA.trans c1), fun H2 u c2 tu => ⟨_, rfl, few (by show 2 ≤ 1000; decide), fun t nt => ?_⟩⟩
      have hD32 := c2 _ _ hD3
      have nt3 : D3 ≠ t := ne_of_none hD32 nt
      refine ⟨ws, (upd_ne nt3).trans hD32, small1000 (by omega), ws ++ [.ref t], upd_same, by rw [List.length_append, lws]; rfl, fun b o e => ?_, ?_⟩
      · rw [upd_ne (ne_of_none e n3), upd_ne (ne_of_none (c2 _ _ (c1 _ _ e)) nt)]
        exact c2 _ _ (c1 _ _ e)
      · rw [List.range_succ, List.map_append]
        have tk1 : TK H2 (upd H2 t (.tup [u, .int (0 + (i : Int))])) := tkS (same_new (fun _ _ z => z) nt)
        have tk2 : TK (upd H2 t (.tup [u, .int (0 + (i : Int))])) (upd (upd H2 t (.tup [u, .int (0 + (i : Int))])) D3 (.lst (ws ++ [.ref t]))) := TK.updL ((upd_ne nt3).trans hD32)
        refine TpAll.snoc ?_ (pr.mono ((tkS c2).trans (tk1.trans tk2)))
        show Tp _ _ (.tuple [rank 5 (zs.getD i .non), .int ((i : Nat) : Int)])
        rw [hzd]
        have et : (upd (upd H2 t (.tup [u, .int (0 + (i : Int))])) D3 (.lst (ws ++ [.ref t]))) t = some (.tup [u, .int ((i : Nat) : Int)]) := by
          rw [upd_ne nt3.symm, upd_same, Int.zero_add]
        exact .tup et (.cons (tu.mono (tk1.trans tk2)) (.cons (.int _) .nil))
    rintro H1 ⟨ws, hD3, lws, c1, pr⟩
    have lws17 : ws.length = 17 := by omega
    have row_of : ∀ x ∈ ws, ∃ (i : Nat) (z : Toy.D) (v : V), i < 17 ∧ xs[i]? = some v ∧ Da 5 S v z ∧ Tp H1 x (rowP 5 z i) := fun x hx => by
      obtain ⟨i, hi⟩ := List.mem_iff_getElem?.mp hx
      have hi17 : i < 17 := by
        have := (List.getElem?_eq_some_iff.mp hi).1
        omega
      obtain ⟨e, he, te⟩ := pr.get i x hi
      have mx : xs[i]? = some (xs[i]'(by omega)) := List.getElem?_eq_getElem (by omega)
      obtain ⟨z, gz, hz⟩ := paired_get (show Paired (fun x z => Da 5 S x z) xs zs from prS) i _ mx
      have hzd : zs.getD i .non = z := by rw [List.getD_eq_getElem?_getD, gz]; rfl
      rw [List.getElem?_map] at he
      have hr : (List.range ((xs.length : Nat) : Int).toNat)[i]? = some i := List.getElem?_range (by omega)
      rw [hr] at he
      have he' : rowP 5 (zs.getD i .non) i = e := Option.some.inj he
      rw [hzd] at he'
      exact ⟨i, z, _, hi17, mx, hz, by rw [he']; exact te⟩
    refine ⟨D3, ws, tellsOf H1, rfl, SqL.of hD3, fun x hx => ?_, fun x hx y hy => ?_, fun ys' P0 srt perm nP => ?_⟩
    · obtain ⟨i, z, v, _, _, hz, te⟩ := row_of x hx
      rw [tells_eq te]
      refine ⟨?_, te.dp, row_fine K hz (by decide), ?_⟩
      · unfold rowP at te
        cases te with
        | tup h _ => exact ⟨_, rfl⟩
      · unfold rowP
        rw [rank_form]
        exact ⟨_, _, rfl⟩
    · obtain ⟨i, z, v, _, _, hz, te⟩ := row_of x hx
      obtain ⟨j, z', v', _, _, hz', te'⟩ := row_of y hy
      rw [tells_eq te, tells_eq te']
      exact (row_two 5 z z' i j).2.1
    have lys : ys'.length = 17 := by rw [perm.length_eq]; exact lws17
    have cP : Same H1 (upd H1 P0 (.lst ys')) := same_new (fun _ _ z => z) nP
    have gP : (upd H1 P0 (.lst ys')) P0 = some (.lst ys') := upd_same
    generalize upd H1 P0 (.lst ys') = Hp' at cP gP ⊢
    have sP : Same S Hp' := (sA.trans c1).trans cP
    refine ⟨_, rfl, P0, _, rfl, .inl (SqL.of gP), _, _, rfl, rfl, _, rfl, by omega, by omega, ?_⟩
    generalize hm : (((ys'.length : Nat) : Int) - 1).toNat = m
    have hm16 : m = 16 := by omega
    refine for_range (lo := 0) (n := m) (fun i σ H' => ∃ v11 : Option V, σ = [some (.ref a), some (.ref d), some (.int (0 + (tn : Int))), some (.ref R), some (.ref DD), v5, v6, v7, v8, v9, some (.ref P0), v11] ∧ Same Hp' H') ⟨_, rfl, fun _ _ z => z⟩ ?_ ?_
    · rintro i σ H2 hi ⟨v11, rfl, c2⟩
      have i1 : i < ys'.length := by omega
      have i2 : i + 1 < ys'.length := by omega
      have g1 : ys'[i]? = some ys'[i] := List.getElem?_eq_getElem i1
      have g2 : ys'[i + 1]? = some ys'[i + 1] := List.getElem?_eq_getElem i2
      obtain ⟨k1, z1, w1, _, x1, hz1, te1⟩ := row_of _ (perm.mem_iff.mp (List.getElem_mem i1))
      obtain ⟨k2, z2', w2, _, x2', hz2, te2⟩ := row_of _ (perm.mem_iff.mp (List.getElem_mem i2))
      have sorted : dataLt (tellsOf H1 ys'[i + 1]) (tellsOf H1 ys'[i]) = false := List.pairwise_iff_getElem.mp srt i (i + 1) i1 i2 (Nat.lt_succ_self i)
      rw [tells_eq te1, tells_eq te2] at sorted
      have no : dataLt (key 5 z2') (key 5 z1) = false := by
        cases e : dataLt (key 5 z2') (key 5 z1) with
        | false => rfl
        | true =>
          rw [row_less (i := k2) (j := k1) e] at sorted
          cases sorted
      have s2 : Same S H2 := sP.trans c2
      have c12 : Same H1 H2 := cP.trans c2
      have te1' := te1.mono (tkS c12)
      have te2' := te2.mono (tkS c12)
      obtain ⟨b1, u1, er1, h1⟩ := Tp.pair2 (show Tp H2 ys'[i] (.tuple [rank 5 z1, .int ((k1 : Nat) : Int)]) from te1')
      obtain ⟨b2, u2, er2, h2⟩ := Tp.pair2 (show Tp H2 ys'[i + 1] (.tuple [rank 5 z2', .int ((k2 : Nat) : Int)]) from te2')
      rw [er1] at g1
      rw [er2] at g2
      have at2 : atI ys' (0 + (i : Int) + 1) = some (.ref b2) := by
        rw [show 0 + (i : Int) + 1 = ((i + 1 : Nat) : Int) by omega]
        exact atI_nat g2
      have at1 : atI ys' (0 + (i : Int)) = some (.ref b1) := by
        rw [Int.zero_add]
        exact atI_nat g1
      refine ⟨_, rfl, _, rfl, _, rfl, _, _, rfl, rfl, P0, ys', _, _, rfl, rfl, SqL.of (c2 _ _ gP), at2, b2, _, _, .int ((k2 : Nat) : Int), rfl, rfl, SqT.of h2, rfl, DD, xs, _, w2, rfl, rfl, SqL.of (s2 _ _ gD), atI_nat x2', ?_⟩
      refine ⟨_, rfl, _, rfl, _, rfl, P0, ys', _, _, rfl, rfl, SqL.of (c2 _ _ gP), at1, b1, _, _, .int ((k1 : Nat) : Int), rfl, rfl, SqT.of h1, rfl, DD, xs, _, w1, rfl, rfl, SqL.of (s2 _ _ gD), atI_nat x1, ?_⟩
      refine ⟨w2, w1, 5, z2', z1, by decide, by decide, rfl, X hz2 s2, X hz1 s2, fun H3 c3 => ⟨false, by rw [no], ?_⟩⟩
      exact iteF ⟨_, rfl, c2.trans c3⟩
    · rintro σ H2 ⟨v11, rfl, c2⟩
      exact ⟨_, _, _, _, _, _, _, _, _, _, rfl, tS.same (sP.trans c2)⟩
  · rintro σ H2 ⟨v2, v3, v4, v5, v6, v7, v8, v9, v10, v11, rfl, hT2⟩
    exact q _
end
end Toy


namespace Toy
open PySem PySem.Spec PyProof.Rows L2
/-! ### the head: what the top has written, as one answer -/
def wordOf : Value → Option Str
  | .str x _ => some x
  | _ => none
theorem words_vals : ∀ {us : List Value} {xs : List Str}, us.map wordOf = xs.map some → Vals (xs.map V.str) us
  | [], [], _ => .nil
  | [], _ :: _, h => by simp at h
  | _ :: _, [], h => by simp at h
  | u :: us, x :: xs, h => by
    simp only [List.map_cons, List.cons.injEq] at h
    refine .cons ?_ (words_vals h.2)
    cases u with
    | str y t =>
      obtain rfl := Option.some.inj h.1
      exact ⟨t, rfl⟩
    | _ => simp [wordOf] at h
/-- SORTS is the tuple of the seven words -/
def exB (K : PySem.W.Frag) : Bool := match K.lookup (He.ga K "SORTS") with
  | some ⟨cls, none, .seq vs _, _⟩ => cls == .type "tuple" && decide (vs.toList.map wordOf = sortsL.map some)
  | _ => false
def hdOf (x : Str) (st : Stmt) : He.DefD := ⟨(x, none), x, x, defArgs st, defBody st, defScope st, [], []⟩
def fn : List He.DefD := [hdOf "sort_of" sSort, hdOf "steps_into" sSteps, hdOf "inner_of" sInner, hdOf "parts_of" sParts, hdOf "alike" sAlike, hdOf "comes_before" sBefore, hdOf "order_key" sKey,
  hdOf "_law_begin" sBegin, hdOf "_law_draw" sDraw, hdOf "_law_pick" sPick, hdOf "_law_shuffled" sShuf, hdOf "_law_leaf" sLeaf, hdOf "_law_datum" sDatum, hdOf "_law_sort" sLSort, hdOf "_law_keys" sLKeys, hdOf "_law_rank" sRank, hdOf "_law_turned" sTurn, hdOf "law" sLaw]
def fa : List He.Fa := [.glo "sort_of", .glo "steps_into", .glo "inner_of", .glo "parts_of", .glo "alike", .glo "comes_before", .glo "order_key", .glo "_law_begin", .glo "_law_draw", .glo "_law_pick", .glo "_law_shuffled", .glo "_law_leaf", .glo "_law_datum",
  .glo "_law_sort", .glo "_law_keys", .glo "_law_rank", .glo "_law_turned", .glo "law", .glo "SORTS", .free "len", .free "int", .free "bool", .free "str", .free "list", .free "dict", .free "tuple", .free "range", .free "sorted", .free "sum", .free "all", .free "zip", .free "abs", .free "min", .free "repr", .free "isinstance"]
abbrev R : PySem.W.OpenRow := PySem.W.OpenLaw.row PySem.Challenge.rw_sieveways_k03_whole_order_of_data
abbrev hk : PySem.W.Hook := He.hookX 5 fa fn [] [] exB
def ob (s : PySem.W.SharedT) : He.AlX := He.obsX 5 fa fn [] [] exB (HandSHeadRun.getT s)
theorem ob_eq (s : PySem.W.SharedT) : ob s = hk.obs s.abs := He.obsX_eq (HandSHeadRun.getT_eq s)
def looseN : List Str := ["sort_of", "steps_into", "inner_of", "parts_of", "alike", "comes_before", "order_key", "_law_begin", "_law_draw", "_law_pick", "_law_shuffled", "_law_leaf", "_law_datum", "_law_sort", "_law_keys", "_law_rank", "_law_turned", "SORTS"]
theorem run (w : World) : HandSHeadRun.RunEq R (PySem.W.view R.prog [20]) hk ob 9000 looseN w := by
  intro os
  kernel_rfl
end Toy


namespace Toy
open PySem PySem.Spec PyProof.Rows L2
/-! ### the facts, read off the head's answer -/
theorem fun_of {K : PySem.W.Frag} {x q : Str} {st : Stmt} {f : Addr} {fd : FuncData} (F : FunD K x q (defArgs st) (defBody st) (defScope st) [] [] f fd) : Fun K x q st f fd := by
  obtain ⟨oc, od, dV, kV, doc, pm, an, cdv, ct, osl, rfl, lk, hcd, hD, _⟩ := F.ex
  rcases hD with ⟨_, rfl⟩ | ⟨e, _⟩
  · exact ⟨⟨oc, od, kV, doc, pm, an, cdv, ct, osl, rfl, lk, hcd⟩, F.kp⟩
  · exact absurd rfl e
theorem sorts_of {K : PySem.W.Frag} (h : exB K = true) : SortsK K (He.ga K "SORTS") := by
  unfold exB at h
  split at h
  · rename_i cls vs n sl hl
    obtain ⟨h1, h2⟩ := Bool.and_eq_true_iff.mp h
    have hv := words_vals (of_decide_eq_true h2)
    refine ⟨_, vs, n, hl, eq_of_beq h1, rfl, rfl, ?_, hv⟩
    have hlen := hv.length
    have h7 : (sortsL.map V.str).length = 7 := rfl
    rw [h7, Array.length_toList] at hlen
    rw [← hlen]
    decide
  · cases h
theorem facts {P : Program} {w : World} {K : PySem.W.Frag} {h : Heap} {mg : Str → Option Value} {f : Addr} (X : K.In h) (G : h.Ns mainGlobals mg) (hfa : mg ("law" : Str) = some (.ref f)) (S : He.SaysX fa fn [] [] exB w h K) :
    ∃ fd : FuncData, FunD K "law" "law" (defArgs sLaw) (defBody sLaw) (defScope sLaw) [] [] f fd ∧ (∀ (s : Shared) (v : Value), BindsTo s fd ⟨[v], []⟩ [("_law_script", v)]) ∧ ∀ base : Heap, K.In base → base.Ns mainGlobals mg → BodyOk P w K mg base 12 NLw "law" (defScope sLaw) (defBody sLaw) f (spLaw K) := by
  obtain ⟨dSo, FSo⟩ := S.t.d.def_ 0 (d := hdOf "sort_of" sSort) rfl
  have mSo := He.glo_ok X G (S.t.d.fact 0 (f := .glo "sort_of") rfl)
  obtain ⟨dSt, FSt⟩ := S.t.d.def_ 1 (d := hdOf "steps_into" sSteps) rfl
  have mSt := He.glo_ok X G (S.t.d.fact 1 (f := .glo "steps_into") rfl)
  obtain ⟨dIn, FIn⟩ := S.t.d.def_ 2 (d := hdOf "inner_of" sInner) rfl
  have mIn := He.glo_ok X G (S.t.d.fact 2 (f := .glo "inner_of") rfl)
  obtain ⟨dPa, FPa⟩ := S.t.d.def_ 3 (d := hdOf "parts_of" sParts) rfl
  have mPa := He.glo_ok X G (S.t.d.fact 3 (f := .glo "parts_of") rfl)
  obtain ⟨dAl, FAl⟩ := S.t.d.def_ 4 (d := hdOf "alike" sAlike) rfl
  have mAl := He.glo_ok X G (S.t.d.fact 4 (f := .glo "alike") rfl)
  obtain ⟨dBf, FBf⟩ := S.t.d.def_ 5 (d := hdOf "comes_before" sBefore) rfl
  have mBf := He.glo_ok X G (S.t.d.fact 5 (f := .glo "comes_before") rfl)
  obtain ⟨dOk, FOk⟩ := S.t.d.def_ 6 (d := hdOf "order_key" sKey) rfl
  have mOk := He.glo_ok X G (S.t.d.fact 6 (f := .glo "order_key") rfl)
  obtain ⟨dB, FB⟩ := S.t.d.def_ 7 (d := hdOf "_law_begin" sBegin) rfl
  have mB := He.glo_ok X G (S.t.d.fact 7 (f := .glo "_law_begin") rfl)
  obtain ⟨dD, FD⟩ := S.t.d.def_ 8 (d := hdOf "_law_draw" sDraw) rfl
  have mD := He.glo_ok X G (S.t.d.fact 8 (f := .glo "_law_draw") rfl)
  obtain ⟨dP, FP⟩ := S.t.d.def_ 9 (d := hdOf "_law_pick" sPick) rfl
  have mP := He.glo_ok X G (S.t.d.fact 9 (f := .glo "_law_pick") rfl)
  obtain ⟨dSh, FSh⟩ := S.t.d.def_ 10 (d := hdOf "_law_shuffled" sShuf) rfl
  have mSh := He.glo_ok X G (S.t.d.fact 10 (f := .glo "_law_shuffled") rfl)
  obtain ⟨dLf, FLf⟩ := S.t.d.def_ 11 (d := hdOf "_law_leaf" sLeaf) rfl
  have mLf := He.glo_ok X G (S.t.d.fact 11 (f := .glo "_law_leaf") rfl)
  obtain ⟨dDt, FDt⟩ := S.t.d.def_ 12 (d := hdOf "_law_datum" sDatum) rfl
  have mDt := He.glo_ok X G (S.t.d.fact 12 (f := .glo "_law_datum") rfl)
  obtain ⟨dLs, FLs⟩ := S.t.d.def_ 13 (d := hdOf "_law_sort" sLSort) rfl
  have mLs := He.glo_ok X G (S.t.d.fact 13 (f := .glo "_law_sort") rfl)
  obtain ⟨dLk, FLk⟩ := S.t.d.def_ 14 (d := hdOf "_law_keys" sLKeys) rfl
  have mLk := He.glo_ok X G (S.t.d.fact 14 (f := .glo "_law_keys") rfl)
  obtain ⟨dR, FR⟩ := S.t.d.def_ 15 (d := hdOf "_law_rank" sRank) rfl
  have mR := He.glo_ok X G (S.t.d.fact 15 (f := .glo "_law_rank") rfl)
  obtain ⟨dTu, FTu⟩ := S.t.d.def_ 16 (d := hdOf "_law_turned" sTurn) rfl
  have mTu := He.glo_ok X G (S.t.d.fact 16 (f := .glo "_law_turned") rfl)
  obtain ⟨dL, FL⟩ := S.t.d.def_ 17 (d := hdOf "law" sLaw) rfl
  have mL := He.glo_ok X G (S.t.d.fact 17 (f := .glo "law") rfl)
  have mSORTS := He.glo_ok X G (S.t.d.fact 18 (f := .glo "SORTS") rfl)
  have hT := sorts_of S.more
  have z0 := He.free_ok X G (S.t.d.fact 19 (f := .free "len") rfl)
  have z1 := He.free_ok X G (S.t.d.fact 20 (f := .free "int") rfl)
  have z2 := He.free_ok X G (S.t.d.fact 21 (f := .free "bool") rfl)
  have z3 := He.free_ok X G (S.t.d.fact 22 (f := .free "str") rfl)
  have z4 := He.free_ok X G (S.t.d.fact 23 (f := .free "list") rfl)
  have z5 := He.free_ok X G (S.t.d.fact 24 (f := .free "dict") rfl)
  have z6 := He.free_ok X G (S.t.d.fact 25 (f := .free "tuple") rfl)
  have z7 := He.free_ok X G (S.t.d.fact 26 (f := .free "range") rfl)
  have z8 := He.free_ok X G (S.t.d.fact 27 (f := .free "sorted") rfl)
  have z9 := He.free_ok X G (S.t.d.fact 28 (f := .free "sum") rfl)
  have z10 := He.free_ok X G (S.t.d.fact 29 (f := .free "all") rfl)
  have z11 := He.free_ok X G (S.t.d.fact 30 (f := .free "zip") rfl)
  have z12 := He.free_ok X G (S.t.d.fact 31 (f := .free "abs") rfl)
  have z13 := He.free_ok X G (S.t.d.fact 32 (f := .free "min") rfl)
  have z14 := He.free_ok X G (S.t.d.fact 33 (f := .free "repr") rfl)
  have z15 := He.free_ok X G (S.t.d.fact 34 (f := .free "isinstance") rfl)
  have bD : Binds K dD ["_law_tape", "_law_many"] [] := FD.bindsN fun _ _ _ _ _ _ us hl => match us, hl with | [_, _], _ => rfl
  have bP : Binds K dP ["_law_tape", "_law_items"] [] := FP.bindsN fun _ _ _ _ _ _ us hl => match us, hl with | [_, _], _ => rfl
  have bB : Binds K dB ["_law_script"] [] := FB.bindsN fun _ _ _ _ _ _ us hl => match us, hl with | [_], _ => rfl
  have bSh : Binds K dSh ["_law_tape", "_law_items"] [] := FSh.bindsN fun _ _ _ _ _ _ us hl => match us, hl with | [_, _], _ => rfl
  have bLf : Binds K dLf ["_law_tape"] [] := FLf.bindsN fun _ _ _ _ _ _ us hl => match us, hl with | [_], _ => rfl
  have bDt : Binds K dDt ["_law_tape", "_law_keys_here", "_law_deep"] [] := FDt.bindsN fun _ _ _ _ _ _ us hl => match us, hl with | [_, _, _], _ => rfl
  have bSo : Binds K dSo ["datum"] [] := FSo.bindsN fun _ _ _ _ _ _ us hl => match us, hl with | [_], _ => rfl
  have bSt : Binds K dSt ["datum"] [] := FSt.bindsN fun _ _ _ _ _ _ us hl => match us, hl with | [_], _ => rfl
  have bIn : Binds K dIn ["datum"] [] := FIn.bindsN fun _ _ _ _ _ _ us hl => match us, hl with | [_], _ => rfl
  have bPa : Binds K dPa ["datum"] [] := FPa.bindsN fun _ _ _ _ _ _ us hl => match us, hl with | [_], _ => rfl
  have bAl : Binds K dAl ["one", "other"] [] := FAl.bindsN fun _ _ _ _ _ _ us hl => match us, hl with | [_, _], _ => rfl
  have bLs : Binds K dLs ["_law_datum_here"] [] := FLs.bindsN fun _ _ _ _ _ _ us hl => match us, hl with | [_], _ => rfl
  have bLk : Binds K dLk ["_law_datum_here"] [] := FLk.bindsN fun _ _ _ _ _ _ us hl => match us, hl with | [_], _ => rfl
  have bTu : Binds K dTu ["_law_datum_here"] [] := FTu.bindsN fun _ _ _ _ _ _ us hl => match us, hl with | [_], _ => rfl
  have bOk : Binds K dOk ["datum"] [] := FOk.bindsN fun _ _ _ _ _ _ us hl => match us, hl with | [_], _ => rfl
  have bBf : Binds K dBf ["one", "other"] [] := FBf.bindsN fun _ _ _ _ _ _ us hl => match us, hl with | [_, _], _ => rfl
  have bR : Binds K dR ["_law_datum_here"] [] := FR.bindsN fun _ _ _ _ _ _ us hl => match us, hl with | [_], _ => rfl
  have e := hfa.symm.trans mL
  cases e
  refine ⟨dL, FL, fun s v => FL.bindsA (ps := ["_law_script"]) (fun _ _ _ _ _ _ us hl => match us, hl with | [_], _ => rfl) s [v] rfl, fun base _ _ => ?_⟩
  have GD : FnOk P w K mg base CX0 1 _ dD ["_law_tape", "_law_many"] spDraw := ok_draw (fun_of FD) z0 z1
  have GP : FnOk P w K mg base CX0 2 _ dP ["_law_tape", "_law_items"] spPick := ok_pick (fun_of FP) GD mD FD.kp bD z0
  have GB : FnOk P w K mg base CX0 1 _ dB ["_law_script"] (spBegin K) := ok_begin (fun_of FB) 
  have GSh : FnOk P w K mg base CX0 2 _ dSh ["_law_tape", "_law_items"] spShuf := ok_shuf (fun_of FSh) GD mD FD.kp bD z0 z4
  have GLf : FnOk P w K mg base CX0 3 _ dLf ["_law_tape"] spLeaf := ok_leaf (fun_of FLf) GP mP FP.kp bP
  have GDt : FnOk P w K mg base CX0 8 _ dDt ["_law_tape", "_law_keys_here", "_law_deep"] (spDatum 4) := ok_datum (fun_of FDt) GD mD FD.kp bD GSh mSh FSh.kp bSh GLf mLf FLf.kp bLf mDt FDt.kp bDt z7 z5 4
  have GSo : FnOk P w K mg base CX0 1 _ dSo ["datum"] spSort := ok_sort (fun_of FSo) z15 z2 z1 z3 z4
  have GSt : FnOk P w K mg base CX0 1 _ dSt ["datum"] spSteps := ok_steps (fun_of FSt) z15 z4 z5 z7 z0 z8
  have GIn : FnOk P w K mg base CX0 2 _ dIn ["datum"] spInner := ok_inner (fun_of FIn) GSt mSt FSt.kp bSt
  have GPa : FnOk P w K mg base CX0 9 _ dPa ["datum"] (spParts 6) := ok_parts (fun_of FPa) GIn mIn FIn.kp bIn mPa FPa.kp bPa z9 6
  have GAl : FnOk P w K mg base CX0 12 _ dAl ["one", "other"] (spAlike 6) := ok_alike (fun_of FAl) GSo mSo FSo.kp bSo GSt mSt FSt.kp bSt mAl FAl.kp bAl z10 6
  have GLs : FnOk P w K mg base CX0 1 _ dLs ["_law_datum_here"] spLSort := ok_lsort (fun_of FLs) z15 z2 z1 z3 z4
  have GLk : FnOk P w K mg base CX0 1 _ dLk ["_law_datum_here"] spSteps := ok_lkeys (fun_of FLk) z15 z4 z5 z7 z0 z8
  have GTu : FnOk P w K mg base CX0 9 _ dTu ["_law_datum_here"] (spTurn 6) := ok_turn (fun_of FTu) mTu FTu.kp bTu z15 z4 z5 z8 6
  have GOk : FnOk P w K mg base CX0 9 _ dOk ["datum"] (spKey 6) := ok_key (fun_of FOk) GSo mSo FSo.kp bSo GIn mIn FIn.kp bIn mOk FOk.kp bOk mSORTS hT z9 z0 z6 z11 z8 6
  have GBf : FnOk P w K mg base CX0 10 _ dBf ["one", "other"] (spBefore 6) := ok_before (fun_of FBf) GOk mOk FOk.kp bOk
  have GR : FnOk P w K mg base CX0 8 _ dR ["_law_datum_here"] (spRank 6) := ok_rank (fun_of FR) GLs mLs FLs.kp bLs GLk mLk FLk.kp bLk mR FR.kp bR z15 z2 z1 z3 z4 z12 z9 z0 z6 z11 6
  exact body_law ⟨z0, z7, z13, z14, z8⟩ GB mB FB.kp bB GD mD FD.kp bD GSh mSh FSh.kp bSh GLf mLf FLf.kp bLf GDt mDt FDt.kp bDt GTu mTu FTu.kp bTu GR mR FR.kp bR GAl mAl FAl.kp bAl GBf mBf FBf.kp bBf GPa mPa FPa.kp bPa GSo mSo FSo.kp bSo
end Toy
open PySem PySem.W PySem.Calls PyProof.Rows
set_option maxRecDepth 100000 in
set_option maxHeartbeats 0 in
theorem PySem.Challenge.cw_sieveways_k03_whole_order_of_data_holds : PySem.Challenge.rw_sieveways_k03_whole_order_of_data.Holds := by
  w_on; o_law
  refine HandSHeadRun.head_any (r := OpenLaw.row PySem.Challenge.rw_sieveways_k03_whole_order_of_data) (q := view (OpenLaw.row PySem.Challenge.rw_sieveways_k03_whole_order_of_data).prog [20]) (H := Toy.hk) (ob := Toy.ob) (M := 9000) (loose := Toy.looseN) (d := HandSHeadRun.topDef (OpenLaw.row PySem.Challenge.rw_sieveways_k03_whole_order_of_data).prog 20) (kwd := []) Toy.ob_eq
    (by kernel_rfl) (fun s => by kernel_rfl) Toy.run (by kernel_rfl) (by kernel_rfl) (by kernel_rfl) (by rfl) (by first | assumption | decide +kernel) (by decide +kernel) ⟨rfl, rfl, rfl, rfl, rfl, by decide +kernel⟩ ?hw ?hc
  case hw => w_witness2
  case hc =>
    refine L2.walkG (l := PySem.Challenge.rw_sieveways_k03_whole_order_of_data) (n := 63) (k := 12) (x := "_law_script") rfl (by decide) (by kernel_rfl) ⟨rfl, by decide, by decide⟩ ?F
    intro w mg fa h Y G hmg0
    obtain ⟨K, KX, c⟩ := Y
    have hmg : mg ("law" : PySem.Str) = some (.ref fa) := by
      have e : (HandSHeadRun.topDef (OpenLaw.row PySem.Challenge.rw_sieveways_k03_whole_order_of_data).prog 20).name = ("law" : PySem.Str) := by kernel_rfl
      rw [← e]
      exact hmg0
    obtain ⟨fd, FD, hb, hF⟩ := Toy.facts (P := (PySem.Challenge.rw_sieveways_k03_whole_order_of_data).prog) (w := w) KX G hmg c
    exact ⟨K, fd, _, _, _, _, _, Toy.NLw, Toy.spLaw K, KX, FD, Toy.scLw, hb, fun H a ns hl hS => ⟨a, ns, rfl, hS, hl, fun _ => rfl⟩, hF⟩

