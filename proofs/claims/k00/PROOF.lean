import PyProof.Rows.All
import Wide.All
import OpenK.AllK
import Wide.FinOn
import HandS.ForMost
import HandS.Codes
import HandS.ExcInit
import HandS.ExcOwn
import HandS.ExcField
import HandS.ExcIs
import HandS.ExcValue
import HandS.IsInst
import HandS.More
import HandS.DeepEq
import HandS.Style
import PySem.Challenge.RW_downtoground_k00_errors
set_option Elab.async false
set_option linter.all false
set_option maxRecDepth 100000
set_option maxHeartbeats 8000000
/-! The pen of a law: its cells, its draws, its picks. -/
namespace Pn
open PySem PySem.Spec PyProof.Rows L2
def topS (i : Nat) : Stmt := PySem.Challenge.pw_downtoground_k00_errors.main.body.getD i (.Pass ⟨0, 0, 0, 0⟩)
abbrev sPen : Stmt := topS 17
abbrev sDraw : Stmt := topS 18
abbrev sPick : Stmt := topS 19
theorem scPen : FnScope ["_law_script", "_law_fold", "_law_cell"] ["_law_script"] (defScope sPen) := ⟨rfl, rfl, rfl, by decide +kernel, rfl, by decide +kernel, by decide +kernel⟩
theorem scDraw : FnScope ["_law_pen_here", "_law_many", "_law_cell", "_law_digit", "_law_blend"] ["_law_pen_here", "_law_many"] (defScope sDraw) := ⟨rfl, rfl, rfl, by decide +kernel, rfl, by decide +kernel, by decide +kernel⟩
theorem scPick : FnScope ["_law_pen_here", "_law_some"] ["_law_pen_here", "_law_some"] (defScope sPick) := ⟨rfl, rfl, rfl, by decide +kernel, rfl, by decide +kernel, by decide +kernel⟩
/-! ### the pen's dict -/
abbrev kC : Key := .inr "cells"
abbrev kA : Key := .inr "at"
abbrev kD : Key := .inr "digits"
abbrev kN : Key := .inr "count"
abbrev kF : Key := .inr "fold"
theorem nCA : ¬ (kC = kA) := by decide +kernel
theorem nCD : ¬ (kC = kD) := by decide +kernel
theorem nCN : ¬ (kC = kN) := by decide +kernel
theorem nCF : ¬ (kC = kF) := by decide +kernel
theorem nAD : ¬ (kA = kD) := by decide +kernel
theorem nAN : ¬ (kA = kN) := by decide +kernel
theorem nAF : ¬ (kA = kF) := by decide +kernel
theorem nDN : ¬ (kD = kN) := by decide +kernel
theorem nDF : ¬ (kD = kF) := by decide +kernel
theorem nNF : ¬ (kN = kF) := by decide +kernel
def penK (l : Addr) (a d n f : Int) : List (Key × V) := [(kC, .ref l), (kA, .int a), (kD, .int d), (kN, .int n), (kF, .int f)]
section
variable (l : Addr) (a d n f x : Int)
theorem getC : valV (penK l a d n f) kC = some (.ref l) := valV_pos rfl
theorem getA : valV (penK l a d n f) kA = some (.int a) := by
  unfold penK; rw [valV_neg nCA, valV_pos rfl]
theorem getD : valV (penK l a d n f) kD = some (.int d) := by
  unfold penK; rw [valV_neg nCD, valV_neg nAD, valV_pos rfl]
theorem getN : valV (penK l a d n f) kN = some (.int n) := by
  unfold penK; rw [valV_neg nCN, valV_neg nAN, valV_neg nDN, valV_pos rfl]
theorem getF : valV (penK l a d n f) kF = some (.int f) := by
  unfold penK; rw [valV_neg nCF, valV_neg nAF, valV_neg nDF, valV_neg nNF, valV_pos rfl]
theorem put_is {kvs : List (Key × V)} {k : Key} {v : V} (h : valV kvs k = some v) (y : V) : putK kvs k y = kvs.map fun kv => if kv.1 = k then (kv.1, y) else kv := by
  unfold putK
  rw [valV_any, h]
  rfl
theorem putA : putK (penK l a d n f) kA (.int x) = penK l x d n f := by
  rw [put_is (getA l a d n f)]
  show [_, _, _, _, _] = _
  dsimp only
  rw [if_neg nCA, if_pos rfl, if_neg (Ne.symm nAD), if_neg (Ne.symm nAN), if_neg (Ne.symm nAF)]
  rfl
theorem putD : putK (penK l a d n f) kD (.int x) = penK l a x n f := by
  rw [put_is (getD l a d n f)]
  show [_, _, _, _, _] = _
  dsimp only
  rw [if_neg nCD, if_neg nAD, if_pos rfl, if_neg (Ne.symm nDN), if_neg (Ne.symm nDF)]
  rfl
theorem putN : putK (penK l a d n f) kN (.int x) = penK l a d x f := by
  rw [put_is (getN l a d n f)]
  show [_, _, _, _, _] = _
  dsimp only
  rw [if_neg nCN, if_neg nAN, if_neg nDN, if_pos rfl, if_neg (Ne.symm nNF)]
  rfl
theorem putF' : putK (penK l a d n f) kF (.int x) = penK l a d n x := by
  rw [put_is (getF l a d n f)]
  show [_, _, _, _, _] = _
  dsimp only
  rw [if_neg nCF, if_neg nAF, if_neg nDF, if_neg nNF, if_pos rfl]
  rfl
theorem merge_pen : mergeK [] [(kC, .ref l), (kA, .int a), (kD, .int d), (kN, .int n), (kF, .int f)] = penK l a d n f := by
  unfold mergeK penK
  simp only [List.foldl_cons, List.foldl_nil]
  rw [putK_new (kvs := []) (k := kC) _ rfl]
  rw [putK_new (k := kA) _ (by rw [List.nil_append, valV_neg nCA]; rfl)]
  rw [putK_new (k := kD) _ (by rw [List.nil_append, List.cons_append, valV_neg nCD, List.nil_append, valV_neg nAD]; rfl)]
  rw [putK_new (k := kN) _ (by simp only [List.nil_append, List.cons_append]; rw [valV_neg nCN, valV_neg nAN, valV_neg nDN]; rfl)]
  rw [putK_new (k := kF) _ (by simp only [List.nil_append, List.cons_append]; rw [valV_neg nCF, valV_neg nAF, valV_neg nDF, valV_neg nNF]; rfl)]
  rfl
end
/-- a pen stands at p, its cells at l, so many draws done -/
structure Pen (H : Hp) (p l : Addr) (ns : List Int) (c : Nat) : Prop where
  ex : ∃ (a : Nat) (d f : Int), H p = some (.dK (penK l (a : Int) d (c : Int) f)) ∧ a ≤ ns.length ∧ 0 ≤ d ∧ 0 ≤ f ∧ f < 2147483648
  ls : H l = some (.lst (ns.map V.int))
theorem pen_ne {H : Hp} {p l : Addr} {ns : List Int} {c : Nat} (h : Pen H p l ns c) : p ≠ l := by
  obtain ⟨⟨a, d, f, e, _⟩, q⟩ := h
  exact ne_of e q (by intro z; cases z)
/-- all but the pen's dict stays -/
def But (p : Addr) (H H' : Hp) : Prop := ∀ b o, b ≠ p → H b = some o → H' b = some o
theorem But.refl (p : Addr) (H : Hp) : But p H H := fun _ _ _ h => h
theorem But.trans {p : Addr} {H H1 H2 : Hp} (a : But p H H1) (b : But p H1 H2) : But p H H2 := fun c o n h => b c o n (a c o n h)
theorem But.upd {p : Addr} (H : Hp) (o : HO) : But p H (L2.upd H p o) := fun b u n h => by rw [upd_ne n]; exact h
theorem But.of {p : Addr} {H H' : Hp} (s : Same H H') : But p H H' := fun b o _ h => s b o h
theorem same_upd {H : Hp} {p : Addr} {o : HO} (h : H p = none) : Same H (L2.upd H p o) := fun b x e => by
  rw [upd_ne (ne_of_none e h)]
  exact e
section
variable {P : Program} {w : World} {K : PySem.W.Frag} {mg : Str → Option Value} {base : Heap}
def spPen (K : PySem.W.Frag) : Sp := fun vs H Q _ => ∃ (a : Addr) (ns : List Int), vs = [.ref a] ∧ SqL K H a (ns.map V.int) ∧ ns.length ≤ 63 ∧
  ∀ H' p l, Same H H' → H p = none → H l = none → Pen H' p l ns 0 → Q (.ref p) H'
theorem ok_pen {f : Addr} {fd : FuncData} {k : Nat} (F : Fun K "_law_pen" "_law_pen" sPen f fd) (mi : mg "int" = none) (ml : mg "list" = none) : FnOk P w K mg base CX0 (k + 1) f fd ["_law_script"] (spPen K) := by
  refine F.ok scPen (fun vs H Q E h => ?_) (fun cdv A outer s H vs Q E hr h => ?_)
  · obtain ⟨a, ns, rfl, _⟩ := h
    rfl
  · obtain ⟨a, ns, rfl, hS, hlen, q⟩ := h
    refine ⟨_, pss_cons (ps_set (i := 1) scPen.nd rfl (.inl rfl) pe_int)
      (pss_cons (ps_for PassesOwn.never rfl (pi_list (pv 0)) (pg_name (i := 2) scPen.nd rfl (.inl rfl))
        (pss_one (ps_set (i := 1) scPen.nd rfl (.inl rfl) (pe_op op_mod (pe_callTy call_int1 (by rfl) mi (by decide +kernel) (pa_cons (pe_op op_add (pe_op op_mul (pv 1) pe_int) (pv 2)) pa_nil)) pe_int))))
      (pss_one (ps_ret (pe_disp (pps_cons pe_str (pe_callTy call_list_of (by rfl) ml (by decide +kernel) (pa_cons (pv 0) pa_nil))
        (pps_cons pe_str pe_int (pps_cons pe_str pe_int (pps_cons pe_str pe_int (pps_cons pe_str (pv 1) pps_nil))))) (by rfl) (by rfl) (fun z => by cases z) (by decide))))), ?_⟩
    refine ⟨.ref a, rfl, a, rfl, ⟨_, hS⟩, for_list (K := K) (a := a) (xs := ns.map V.int) (fun i σ H2 => ∃ (g : Int) (v : Option V), σ = [some (.ref a), some (.int g), v] ∧ H2 = H ∧ 0 ≤ g ∧ g < 1000000007)
      ⟨0, none, rfl, rfl, by decide, by decide⟩ (fun i σ H2 _ ⟨_, _, _, e, _⟩ => by rw [e]; exact hS) ?_ ?_⟩
    · rintro i y σ H2 hi ⟨g, v, rfl, rfl, g0, g1⟩
      obtain ⟨z, rfl⟩ : ∃ z, y = V.int z := by
        rw [List.getElem?_map] at hi
        cases e : ns[i]? with
        | none =>
          rw [e] at hi
          cases hi
        | some z =>
          rw [e] at hi
          exact ⟨z, (Option.some.inj hi).symm⟩
      refine ⟨.int g, rfl, _, _, rfl, rfl, .inr ⟨by decide, by decide⟩, .int z, rfl, _, _, rfl, rfl, .inl ⟨_, rfl, _, _, rfl, rfl, (by show (0 : Int) < 1000000007; decide), ?_⟩⟩
      exact ⟨(g * 47 + z) % 1000000007, some (.int z), rfl, rfl, Int.emod_nonneg _ (by decide), Int.emod_lt_of_pos _ (by decide)⟩
    · rintro σ H2 ⟨g, v, rfl, rfl, g0, g1⟩
      intro p hp
      refine ⟨.ref a, rfl, a, _, rfl, .inl ((same_upd hp).seq hS), fun l hl => ?_⟩
      have nlp : l ≠ p := fun e => by
        rw [e, upd_same] at hl
        cases hl
      have hl0 : H2 l = none := by rw [upd_ne nlp] at hl; exact hl
      refine ⟨.int g, rfl, by rw [upd_ne nlp.symm, upd_same], [(kC, .ref l), (kA, .int 0), (kD, .int 0), (kN, .int 0), (kF, .int g)], rfl, (by show 5 ≤ 15; decide), ?_⟩
      rw [merge_pen]
      refine q _ p l ?_ hp hl0 ⟨⟨0, 0, g, upd_same, Nat.zero_le _, by decide, g0, by omega⟩, ?_⟩
      · intro b o e
        have b1 : b ≠ p := ne_of_none e hp
        have b2 : b ≠ l := ne_of_none e hl0
        rw [upd_ne b1, upd_ne b2, upd_ne b1]
        exact e
      · rw [upd_ne nlp, upd_same]
end
end Pn

namespace Pn
open PySem PySem.Spec PyProof.Rows L2
theorem pget {H : Hp} {p : Addr} {kvs : List (Key × V)} {k : Key} {v : V} (e : H p = some (.dK kvs)) (h : valV kvs k = some v) : DGet H p (kV k) (some v) := by
  have q : DGet H p (kV k) (valV kvs k) := DGet.k e
  rw [h] at q
  exact q
theorem pput {H : Hp} {p : Addr} {kvs kvs' : List (Key × V)} {k : Key} {v : V} (e : H p = some (.dK kvs)) (hl : kvs.length < sizeLine) (h : putK kvs k v = kvs') : DPut H p (kV k) v (L2.upd H p (.dK kvs')) := by
  have q : DPut H p (kV k) v (L2.upd H p (.dK (putK kvs k v))) := DPut.k e hl
  rw [h] at q
  exact q
theorem penl (l : Addr) (a d n f : Int) : (penK l a d n f).length < sizeLine := by
  show 5 < sizeLine
  decide
theorem pow17 {b : Int} (h0 : 0 ≤ b) : 0 ≤ b ^ (17 : Int).toNat := Int.pow_nonneg h0
section
variable {P : Program} {w : World} {K : PySem.W.Frag} {mg : Str → Option Value} {base : Heap}
def spDraw : Sp := fun vs H Q _ => ∃ (p l : Addr) (ns : List Int) (c : Nat) (m : Int), vs = [.ref p, .int m] ∧ Pen H p l ns c ∧ ns.length ≤ 1000 ∧ c ≤ 1000000000 ∧ 1 ≤ m ∧ m ≤ 1000000 ∧
  ∀ r H', 0 ≤ r → r < m → Pen H' p l ns (c + 1) → But p H H' → Q (.int r) H'
theorem ok_draw {f : Addr} {fd : FuncData} {k : Nat} (F : Fun K "_law_draw" "_law_draw" sDraw f fd) (mi : mg "int" = none) (ml : mg "len" = none) : FnOk P w K mg base CX0 (k + 1) f fd ["_law_pen_here", "_law_many"] spDraw := by
  refine F.ok scDraw (fun vs H Q E h => ?_) (fun cdv A outer s H vs Q E hr h => ?_)
  · obtain ⟨p, l, ns, c, m, rfl, _⟩ := h
    rfl
  · obtain ⟨p, l, ns, c, m, rfl, hP, hlen, hc, m1, m2, q⟩ := h
    have hu := hu_of hr
    have npl : p ≠ l := pen_ne hP
    obtain ⟨⟨a, d, f0, e, ha, hd, hf, hf2⟩, hl⟩ := hP
    refine ⟨_, pss_cons (ps_dput hu (pv 0) pe_str (pe_op op_add (pe_dget hu (pv 0) pe_str (fun _ _ => rfl)) pe_int) rfl)
      (C8.pss_cut (ps_if (pw_and (pt_cmpR op_eq (pe_dget hu (pv 0) pe_str (fun _ _ => rfl)) pe_int (nomark _)) (pw_and1 (pt_cmpR op_lt (pe_dget hu (pv 0) pe_str (fun _ _ => rfl)) (pe_callB call_len_seq (by rfl) ml PySem.boot_len (pa_cons (pe_dget hu (pv 0) pe_str (fun _ _ => rfl)) pa_nil)) (nomark _)))).pt
        (pss_cons (ps_set (i := 2) scDraw.nd rfl (.inl rfl) (pe_ix ix_list (pe_dget hu (pv 0) pe_str (fun _ _ => rfl)) (pe_dget hu (pv 0) pe_str (fun _ _ => rfl)) (fun _ _ => rfl)))
        (pss_cons (ps_dput hu (pv 0) pe_str (pe_op op_add (pe_dget hu (pv 0) pe_str (fun _ _ => rfl)) pe_int) rfl)
        (pss_one (ps_if (pt_cmpR op_ge (pv 2) (pe_op op_pow pe_int pe_int) (nomark _))
          (pss_one (ps_dput hu (pv 0) pe_str (pe_op op_sub (pv 2) (pe_op op_pow pe_int pe_int)) rfl))
          (pss_one (ps_dput hu (pv 0) pe_str (pe_op op_mod (pe_callTy call_int1 (by rfl) mi (by decide +kernel) (pa_cons (pe_op op_add (pe_op op_mul (pe_dget hu (pv 0) pe_str (fun _ _ => rfl)) pe_int) (pv 2)) pa_nil)) pe_int) rfl))))))
        pss_nil)
      (pss_cons (ps_if (pt_cmpR op_gt (pe_dget hu (pv 0) pe_str (fun _ _ => rfl)) pe_int (nomark _))
        (pss_cons (ps_set (i := 3) scDraw.nd rfl (.inl rfl) (pe_op op_mod (pe_callTy call_int1 (by rfl) mi (by decide +kernel) (pa_cons (pe_dget hu (pv 0) pe_str (fun _ _ => rfl)) pa_nil)) (pv 1)))
        (pss_cons (ps_dput hu (pv 0) pe_str (pe_op op_fdiv (pe_dget hu (pv 0) pe_str (fun _ _ => rfl)) (pv 1)) rfl)
        (pss_one (ps_ret (pv 3)))))
        pss_nil)
      (pss_cons (ps_set (i := 4) scDraw.nd rfl (.inl rfl) (pe_op op_add (pe_op op_add (pe_dget hu (pv 0) pe_str (fun _ _ => rfl)) (pe_op op_mul (pe_dget hu (pv 0) pe_str (fun _ _ => rfl)) pe_int)) pe_int))
      (pss_one (ps_ret (pe_op op_mod (pe_op op_fdiv (pe_callTy call_int1 (by rfl) mi (by decide +kernel) (pa_cons (pe_op op_mod (pe_op op_pow (pv 4) pe_int) pe_int) pa_nil)) pe_int) (pv 1))))))), ?_⟩
    -- count
    refine ⟨.ref p, rfl, p, _, rfl, pget e (getN ..), _, _, rfl, rfl, .ref p, rfl, p, _, rfl, pput e (penl ..) (putN ..), ?_⟩
    have e1 : (L2.upd H p (.dK (penK l (a : Int) d ((c : Int) + 1) f0))) p = some (.dK (penK l (a : Int) d ((c : Int) + 1) f0)) := upd_same
    have l1 : (L2.upd H p (.dK (penK l (a : Int) d ((c : Int) + 1) f0))) l = some (.lst (ns.map V.int)) := by rw [upd_ne npl.symm]; exact hl
    have b1 : But p H (L2.upd H p (.dK (penK l (a : Int) d ((c : Int) + 1) f0))) := But.upd _ _
    generalize L2.upd H p (.dK (penK l (a : Int) d ((c : Int) + 1) f0)) = H1 at e1 l1 b1
    -- the cell
    refine ⟨fun σ H' => ∃ (v2 : Option V) (a : Nat) (d f : Int), σ = [some (.ref p), some (.int m), v2, none, none] ∧ H' p = some (.dK (penK l (a : Int) d ((c : Int) + 1) f)) ∧ a ≤ ns.length ∧ 0 ≤ d ∧ 0 ≤ f ∧ f < 2147483648 ∧ H' l = some (.lst (ns.map V.int)) ∧ But p H H', ?_, ?_⟩
    · refine ⟨.ref p, rfl, p, _, rfl, pget e1 (getD ..), rfl, _, rfl, ?_⟩
      refine ite2 (fun hd0 => ?_) (fun _ => ?_)
      · refine ⟨.ref p, rfl, p, _, rfl, pget e1 (getA ..), .ref p, rfl, p, _, rfl, pget e1 (getC ..), l, _, rfl, .inl (.inl (.inl l1)), _, _, rfl, rfl, _, rfl, ?_⟩
        refine ite2 (fun hlt => ?_) (fun _ => ?_)
        · have hlt' : (a : Int) < ((ns.map V.int).length : Int) := of_decide_eq_true hlt
          have hlt2 : a < ns.length := by
            rw [List.length_map] at hlt'
            omega
          have hz : (ns.map V.int)[a]? = some (.int ns[a]) := by
            rw [List.getElem?_map, List.getElem?_eq_getElem hlt2]
            rfl
          refine ⟨.ref p, rfl, p, _, rfl, pget e1 (getC ..), .ref p, rfl, p, _, rfl, pget e1 (getA ..), l, _, _, _, rfl, rfl, .inl (.inl l1), atI_nat hz, ?_⟩
          refine ⟨.ref p, rfl, p, _, rfl, pget e1 (getA ..), _, _, rfl, rfl, .ref p, rfl, p, _, rfl, pput e1 (penl ..) (putA ..), ?_⟩
          have e2 : (L2.upd H1 p (.dK (penK l ((a : Int) + 1) d ((c : Int) + 1) f0))) p = some (.dK (penK l ((a + 1 : Nat) : Int) d ((c : Int) + 1) f0)) := upd_same
          have l2 : (L2.upd H1 p (.dK (penK l ((a : Int) + 1) d ((c : Int) + 1) f0))) l = some (.lst (ns.map V.int)) := by rw [upd_ne npl.symm]; exact l1
          have b2 : But p H (L2.upd H1 p (.dK (penK l ((a : Int) + 1) d ((c : Int) + 1) f0))) := b1.trans (But.upd _ _)
          generalize L2.upd H1 p (.dK (penK l ((a : Int) + 1) d ((c : Int) + 1) f0)) = H2 at e2 l2 b2
          refine ⟨.int ns[a], rfl, _, _, rfl, rfl, ⟨by decide, by decide, by decide⟩, _, _, rfl, rfl, _, rfl, ?_⟩
          refine ite2 (fun hbig => ?_) (fun _ => ?_)
          · have hb : (10 : Int) ^ (18 : Int).toNat ≤ ns[a] := of_decide_eq_true hbig
            refine ⟨.int ns[a], rfl, _, _, rfl, rfl, ⟨by decide, by decide, by decide⟩, _, _, rfl, rfl, .ref p, rfl, p, _, rfl, pput e2 (penl ..) (putD ..), ?_⟩
            exact ⟨_, a + 1, _, f0, rfl, upd_same, hlt2, by omega, hf, hf2, by rw [upd_ne npl.symm]; exact l2, b2.trans (But.upd _ _)⟩
          · refine ⟨.ref p, rfl, p, _, rfl, pget e2 (getF ..), _, _, rfl, rfl, .inr ⟨by decide, by decide⟩, .int ns[a], rfl, _, _, rfl, rfl, .inl ⟨_, rfl, _, _, rfl, rfl, (by show (0 : Int) < 2147483587; decide), .ref p, rfl, p, _, rfl, pput e2 (penl ..) (putF' ..), ?_⟩⟩
            refine ⟨_, a + 1, d, _, rfl, upd_same, hlt2, hd, Int.emod_nonneg _ (by decide), Int.lt_trans (Int.emod_lt_of_pos _ (by decide)) (by decide), by rw [upd_ne npl.symm]; exact l2, b2.trans (But.upd _ _)⟩
        · exact ⟨none, a, d, f0, rfl, e1, ha, hd, hf, hf2, l1, b1⟩
      · refine iteF ?_
        exact ⟨none, a, d, f0, rfl, e1, ha, hd, hf, hf2, l1, b1⟩
    · rintro σ' H2 ⟨v2, a, d, f0, rfl, e2, ha, hd, hf, hf2, l2, b2⟩
      refine ⟨.ref p, rfl, p, _, rfl, pget e2 (getD ..), _, _, rfl, rfl, _, rfl, ?_⟩
      refine ite2 (fun _ => ?_) (fun _ => ?_)
      · refine ⟨.ref p, rfl, p, _, rfl, pget e2 (getD ..), .inl ⟨_, rfl, .int m, rfl, _, _, rfl, rfl, (by show 0 < m; omega), ?_⟩⟩
        refine ⟨.ref p, rfl, p, _, rfl, pget e2 (getD ..), .int m, rfl, _, _, rfl, rfl, ⟨(by omega), (by omega)⟩, .ref p, rfl, p, _, rfl, pput e2 (penl ..) (putD ..), ?_⟩
        refine ⟨.int (d % m), rfl, ?_⟩
        refine q _ _ (Int.emod_nonneg _ (by omega)) (Int.emod_lt_of_pos _ (by omega)) ⟨⟨a, d / m, f0, upd_same, ha, Int.ediv_nonneg hd (by omega), hf, hf2⟩, by rw [upd_ne npl.symm]; exact l2⟩ (b2.trans (But.upd _ _))
      · refine ⟨.ref p, rfl, p, _, rfl, pget e2 (getF ..), .ref p, rfl, p, _, rfl, pget e2 (getN ..), _, _, rfl, rfl, .inr ⟨by decide, by decide⟩, _, _, rfl, rfl, _, _, rfl, rfl, ?_⟩
        refine ⟨.int (f0 + ((c : Int) + 1) * 7907 + 43), rfl, _, _, rfl, rfl, ⟨by decide, by decide, by omega⟩, _, _, rfl, rfl, (by show (0 : Int) < 2305843009213693951; decide), .inl ⟨_, rfl, _, _, rfl, rfl, ⟨by decide, by decide⟩, .int m, rfl, _, _, rfl, rfl, (by show 0 < m; omega), ?_⟩⟩
        exact q _ _ (Int.emod_nonneg _ (by omega)) (Int.emod_lt_of_pos _ (by omega)) ⟨⟨a, d, f0, e2, ha, hd, hf, hf2⟩, l2⟩ b2
def spPick (K : PySem.W.Frag) : Sp := fun vs H Q _ => ∃ (p l s : Addr) (ns : List Int) (c : Nat) (xs : List V), vs = [.ref p, .ref s] ∧ Pen H p l ns c ∧ ns.length ≤ 1000 ∧ c ≤ 1000000000 ∧ (SqL K H s xs ∨ SqT K H s xs) ∧ xs ≠ [] ∧ xs.length ≤ 1000000 ∧ s ≠ p ∧
  ∀ x H', x ∈ xs → Pen H' p l ns (c + 1) → But p H H' → Q x H'
theorem But.sq {H H' : Hp} {p s : Addr} {xs : List V} (b : But p H H') (n : s ≠ p) (h : SqL K H s xs) : SqL K H' s xs := by
  rcases h with (h | ⟨o, h⟩) | h
  · exact .inl (.inl (b _ _ n h))
  · exact .inl (.inr ⟨o, b _ _ n h⟩)
  · exact .inr h
end
end Pn

namespace Pn
open PySem PySem.Spec PyProof.Rows L2
theorem ix_or {X : Cx} : IxR X (fun x y H Q => rIxL X.K x y H Q ∨ rIxT X.K x y H Q) := ix_list.or ix_tup
section
variable {P : Program} {w : World} {K : PySem.W.Frag} {mg : Str → Option Value} {base : Heap}
theorem ok_pick {f fD : Addr} {fd fdD : FuncData} {k : Nat} (F : Fun K "_law_pick" "_law_pick" sPick f fd) (G : FnOk P w K mg base CX0 (k + 1) fD fdD ["_law_pen_here", "_law_many"] spDraw) (gD : mg "_law_draw" = some (.ref fD)) (kD : PySem.W.keepIn K (.ref fD) = true) (bD : Binds K fdD ["_law_pen_here", "_law_many"] [])
    (ml : mg "len" = none) : FnOk P w K mg base CX0 (k + 2) f fd ["_law_pen_here", "_law_some"] (spPick K) := by
  refine F.ok scPick (fun vs H Q E h => ?_) (fun cdv A outer s H vs Q E hr h => ?_)
  · obtain ⟨p, l, s, ns, c, xs, rfl, _⟩ := h
    rfl
  · obtain ⟨p, l, s, ns, c, xs, rfl, hP, hlen, hc, hS, hne, hx, hsp, q⟩ := h
    refine ⟨_, pss_one (ps_ret (pe_ix ix_or (pv 1) (pe_call G hr (by rfl) gD kD bD .nil pass0 (pa_cons (pv 0) (pa_cons (pe_callB call_len_seq (by rfl) ml PySem.boot_len (pa_cons (pv 1) pa_nil)) pa_nil))) (fun _ _ => rfl))), ?_⟩
    have hpos : 1 ≤ xs.length := by
      cases xs with
      | nil => exact absurd rfl hne
      | cons x r => rw [List.length_cons]; omega
    refine ⟨.ref s, rfl, .ref p, rfl, .ref s, rfl, s, xs, rfl, hS, p, l, ns, c, _, rfl, hP, hlen, hc, by omega, by omega, fun r H' r0 r1 hP' b' => ?_⟩
    obtain ⟨j, rfl⟩ : ∃ j : Nat, r = (j : Int) := ⟨r.toNat, by omega⟩
    have hj : j < xs.length := by omega
    have hg : xs[j]? = some xs[j] := List.getElem?_eq_getElem hj
    rcases hS with hS | hS
    · exact .inl ⟨s, xs, _, _, rfl, rfl, b'.sq hsp hS, atI_nat hg, q _ _ (List.getElem_mem hj) hP' b'⟩
    · refine .inr ⟨s, xs, _, _, rfl, rfl, ?_, atI_nat hg, q _ _ (List.getElem_mem hj) hP' b'⟩
      rcases hS with (h | ⟨o, h⟩) | h
      · exact .inl (.inl (b' _ _ hsp h))
      · exact .inl (.inr ⟨o, b' _ _ hsp h⟩)
      · exact .inr h
end
end Pn

/-! Exceptions of own classes as plain values: made, their fields read, asked for their class. -/
namespace Ev
open PySem PySem.Spec PyProof.Rows L2
/-- a new exception, its __init__ keeping sp -/
def tMkE (C : Addr) (sp : Sp) (ta : TA) : TE := fun σ H Q => ta σ H fun vs G => vs.length ≤ 1000 ∧ ∀ a, G a = none → sp (.ref a :: vs) (upd G a (exo a C none)) (fun v G2 => v = .non ∧ Q (.ref a) G2) (fun _ _ _ => False)
section
variable {X : Cx} {e : Expr} {es : List Expr} {ta : TA} {p pos : Pos}
theorem pe_mkE {CX : CXT} {x : Str} {C fI : Addr} {k : Nat} {fd : FuncData} {ps : List Str} {sp : Sp} (T : OexC X.K C)
    (iC : PySem.W.findIn X.K (.ref C) "__init__" = some (some (.ref fI))) (tI : PySem.W.typeIn X.K (.ref fI) = some (.type "function"))
    (G0 : FnOk X.prog X.w X.K X.mg X.base CX k fI fd ps sp) (room : Room (k + 1) X.A) (hb : Binds X.K fd ps []) (hx : Passes CX X (fun _ _ _ => False)) (hg : Gl X x) (hm : X.mg x = some (.ref C)) (pa : PA X (e :: es) ta)
    (hdb : (x == ("__debug__" : Str)) = false := by decide) (hst : starEach (e :: es) X.env = (false, eval e X.env) :: starEach es X.env := by rfl) (hpl : (backTo pos (starEach es X.env)).any (·.1) = false := by rfl) :
    PE X (.Call (.Name x p) (e :: es) [] pos) (tMkE C sp ta) := by
  constructor
  intro pins s0 σ H Q J0 ask
  obtain ⟨nm, qn, N, bs, bm, sn, sub, ab, col, dd, k0, k1, k2, k3, k5, look, below⟩ := T.cls
  refine wpAny_Call_Name_kw (ld_glob J0 hg hm ?_ hdb)
  refine PySem.W.callWith_K (h₀ := X.base) J0.ok.mod.kin T.kC (thn (pa.run pos pins s0 σ H _ (J0.tok _) ask) fun us s1 back => ?_) hst hpl
  obtain ⟨vs, G, J, rel, few, q⟩ := back
  refine ⟨J.kIn, ?_⟩
  show wpAny _ _ (call (.ref C) us) _ _ _
  obtain ⟨hp, gs, dr, tk, os⟩ := s1
  have up : hp.objs.size ≤ hp.objs.size + 1 := Nat.le_succ _
  have free : G (hp.objs.size + 1) = none := J.hok.fresh up
  have ini := q (hp.objs.size + 1) free
  have at' : ((hp.push (PySem.W.kdv_tup us)).push (PySem.HandSPX.excO C hp.objs.size)).get? (hp.objs.size + 1) = some (PySem.HandSPX.excO C hp.objs.size) := by heap_get
  have J2 := J.laid (t' := tk) (a := hp.objs.size + 1) (o := exo (hp.objs.size + 1) C none) (h' := (hp.push (PySem.W.kdv_tup us)).push (PySem.HandSPX.excO C hp.objs.size)) (fun b o z => Heap.get?_push_of_some _ (Heap.get?_push_of_some _ z)) up (exo_ok at')
  have rel2 : Vals (V.ref (hp.objs.size + 1) :: vs) (Value.ref (hp.objs.size + 1) :: us) := .cons rfl rel
  have many : (Value.ref (hp.objs.size + 1) :: us).length = ps.length := (rel2.length.symm.trans (G0.len _ _ _ _ ini))
  have short : us.length ≤ sizeLine := by
    have z := Paired.length rel
    rw [sizeLine_eq]
    omega
  refine wpAny_call (PySem.HandSPX.call_own F.excBase_ValueError (fun Y => PySem.HandSPX.refsVE_contains Y bm below) (J.kIn _ _ look) (PySem.W.looks_findIn J.kIn iC) (fun self => PySem.W.bind_fn J.kIn self tI) short ?_)
  refine codeAny_mono (G0.run _ X.stack _ _ ⟨Value.ref (hp.objs.size + 1) :: us, []⟩ (Value.ref (hp.objs.size + 1) :: us) _ _ (fun _ _ _ => False) (room.make C us []) (J2.env0.make C us []) ?_ rel2 ini) ?_
  · have b := hb ⟨(hp.push (PySem.W.kdv_tup us)).push (PySem.HandSPX.excO C hp.objs.size), gs, dr, tk, os⟩ (Value.ref (hp.objs.size + 1) :: us) J2.kIn (by rw [List.append_nil]; exact many)
    rw [List.append_nil] at b
    exact b
  · intro r s2 z
    match r, z with
    | .error er, z => exact hx pins σ _ _ er s2 J2 z
    | .ok (.ret u), z =>
      obtain ⟨v, G2, same, bare, un, ok2, rv, ev, q2⟩ := z
      subst ev
      obtain ⟨h2, g2, d2, t2, os2⟩ := s2
      exact ⟨rv, .ref _, G2, J2.call' (ch := []) same un ok2 bare (fun b y => absurd y (by simp)), rfl, q2⟩
    | .ok .next, z => exact False.elim z
    | .ok .brk, z => exact False.elim z
    | .ok .cont, z => exact False.elim z
/-- C() of a class without an own __init__: a new exception without a dict -/
theorem pe_mkE0 {C : Addr} {x : Str} (isx : PySem.W.excIn X.K C [.type "ValueError", .type "Exception", .type "BaseException", .type "object"] "ValueError.__new__" = true)
    (kp : PySem.W.keepIn X.K (.ref C) = true) (hg : Gl X x) (hm : X.mg x = some (.ref C)) (hdb : (x == ("__debug__" : Str)) = false := by decide) :
    PE X (.Call (.Name x p) [] [] pos) (fun _ H Q => ∀ a, H a = none → Q (.ref a) (upd H a (exo a C none))) := by
  constructor
  intro pins s0 σ H Q J ask
  refine wpAny_Call_Name_kw (ld_glob J hg hm (PySem.W.callWith_K0 J.kIn kp ?_) hdb)
  obtain ⟨bm, N, nm, qn, bs, hdct, sn, sub, ab, col, dd, k0, k1, k2, k3, k5, mN, look, hN, noInit, tail⟩ := exc_obj J.kIn isx
  refine wpAny_call_exc_subT F.excBase_ValueError tail look hN noInit (fun h2 a made => ?_) (Nat.zero_le _)
  have free : H a = none := J.hok.gone made.new
  obtain ⟨t, there, _, _⟩ := made.there
  exact ⟨.ref a, _, J.laidN made.keeps made.new free (exo_ok there), rfl, ask a free⟩
/-- an exception with fields stands at a -/
def FldAt (H : Hp) (a C : Addr) (fs : List (Str × V)) : Prop := ∃ d, H a = some (exo a C (some d)) ∧ H d = some (exd d fs)
theorem FldAt.same {H H' : Hp} {a C : Addr} {fs : List (Str × V)} (h : FldAt H a C fs) (s : Same H H') : FldAt H' a C fs := by
  obtain ⟨d, h1, h2⟩ := h
  exact ⟨d, s _ _ h1, s _ _ h2⟩
/-- v.f, v an exception with fields -/
def tGetE (C : Addr) (n : Str) (te : TE) : TE := fun σ H Q => te σ H fun x G => ∃ (a : Addr) (fs : List (Str × V)) (v : V), x = .ref a ∧ FldAt G a C fs ∧ fs.lookup n = some v ∧ Q v G
theorem pe_getE {C : Addr} {te : TE} {n : Str} (T : XfC X.K C) (noCls : PySem.W.findIn X.K (.ref C) n = some none) (he : PE X e te) (base : attributeBase e n X.env (eval e X.env) = eval e X.env := by rfl) :
    PE X (.Attribute e n pos) (tGetE C n te) := by
  constructor
  intro pins s0 σ H Q J ask
  refine attr_of base (thn (he.run pins s0 σ H _ J ask) fun u s1 back => ?_)
  obtain ⟨x, G, J1, rx, a, fs, v, rfl, ⟨d, ea, ed⟩, fnd, q⟩ := back
  cases rx
  obtain ⟨t1, there⟩ := exo_at J1.hok ea
  obtain ⟨mA, ns, agree⟩ := exd_at J1.hok ed
  obtain ⟨od, hod, reads⟩ := lookIn_ns ns
  obtain ⟨u, hu, ru⟩ := RelO.some_of (v := v) (o := mA n) (by rw [← fnd]; exact agree n)
  have inst : PySem.W.InstAt s1.heap a { cls := .ref C, dict := some d, data := .fields #[.ref t1, .none, .none, .none, .bool false, .none] } C (some od) := ⟨there, rfl, rfl, hod⟩
  exact HandSPX.exc_get J1.kIn inst T.ga T.gg T.exC (PySem.W.findObj_own T.hdC noCls rfl (by rw [reads, hu])) (handed_of ru) ⟨v, G, J1.tok _, ru, q⟩
end
end Ev

/-! isinstance of an exception of an own class, with a dict or without one. -/
namespace Ev
open PySem PySem.Spec PySem.Calls PyProof.Rows
section
variable {prog : Program} {w : World} {A : Around} {E : Value → Shared → Prop} {s : Shared} {K : PySem.W.Frag} {x D : Addr} {ox : Obj} {od : Option Obj}
open PySem.W in
/-- the class that its own attribute tells -/
theorem ask_class {Q : Option Value → Shared → Prop} (C : L2.ExcC K D) (X : K.In s.heap) (I : InstAt s.heap x ox D od) (done : Q (some (.ref D)) { s with toks := s.toks + 1 }) :
    wpAny (model prog w) A (getAttr? (.ref x) "__class__") Q E s := by
  obtain ⟨hga, hgt, hsub, hdct, hcls, hget, htk, hmr⟩ := C
  have found : findObj K D od "__class__" = some (.bind (.builtin "getset_descriptor.__get__") (.builtin "object.__class__")) := by
    obtain ⟨cd, hc, _⟩ := any_some hdct
    unfold findObj
    rw [hc, Option.bind_some, hcls, Option.bind_some]
    simp [hget, htk]
  obtain ⟨hp, gs, dr, tk, os⟩ := s
  have T0 := I.type (M := model prog w)
  have T1 := looks_findIn (M := model prog w) X hga
  have T2 := looks_findIn (M := model prog w) X hgt
  have T3 := looks_find (M := model prog w) X I found
  have isx : PySem.W.Looks (model prog w) hp (isInstance (.ref x) (.type "BaseException")) true := T0.andThen (looks_subIn X hsub)
  have g0 : (false && onTheHeap (Value.builtin "BaseException.__getattribute__")) = false := by rfl
  have g1 : (Value.builtin "BaseException.__getattribute__" == .builtin "object.__getattribute__") = false := by decide +kernel
  have g2 : (onTheHeap (Value.ref D) && Value.builtin "BaseException.__getattribute__" == .builtin "object.__getattribute__") = false := by
    rw [g1]
    rfl
  unfold getAttr? getAttrBy? getAttrBy
  refine wpAny_bind ?_
  refine wpAny_mkText ?_
  refine wpAny_bind ?_
  refine wpAny_attempt ?_
  refine wpAny_holding ?_
  refine wpAny_bind (T0.at ?_)
  refine wpAny_bind (T1.at ?_)
  change wpAny _ _ (if (onTheHeap (Value.ref D) && Value.builtin "BaseException.__getattribute__" == .builtin "object.__getattribute__") = true then _ else _) _ _ _
  rw [g2]
  rw [if_neg Bool.false_ne_true]
  unfold getAttrByItsOwn
  unfold hookBefore
  refine wpAny_bind ?_
  rw [if_pos (by rfl : onTheHeap (Value.ref D) = true)]
  refine T2.at ?_
  refine wpAny_bind ?_
  refine wpAny_attempt ?_
  refine wpAny_holding ?_
  unfold callGetattribute
  rw [g0]
  rw [if_neg Bool.false_ne_true]
  unfold boundAndCalled
  rw [PySem.F.excAttr_ValueError.ga.bind (.ref x)]
  refine wpAny_bind ?_
  refine wpAny_pure ?_
  change wpAny _ _ (call (.builtin "BaseException.__getattribute__") [.ref x, .str "__class__" tk]) _ _ _
  refine wpAny_call ?_
  refine codeAny_call_builtin PySem.F.excAttr_ValueError.ga.plain PySem.F.entry_bexc_ga ?_
  refine @check_slot (model prog w) _ _ ⟨hp, gs, dr, tk + 1, os⟩ "BaseException.__getattribute__" "BaseException" "__getattribute__" (.ref x) [.str "__class__" tk] [] _ (by decide +kernel) (by decide +kernel) isx
    (PySem.F.args_bexc_ga (.ref x) (.str "__class__" tk)) ?_
  unfold Builtin.«object.__getattribute__»
  refine wpAny_bind ?_
  refine wpAny_of_eq (a := ((Value.ref x : Value), [Value.str "__class__" tk])) (by first | rfl | (simp only [slotArgs]; rfl)) ?_
  refine wpAny_bind ?_
  refine wpAny_pure ?_
  refine wpAny_bind (T0.at ?_)
  refine wpAny_bind (T3.at ?_)
  change wpAny _ _ (holding [Value.builtin "object.__class__"] (call (.builtin "getset_descriptor.__get__") [.builtin "object.__class__", .ref x, .ref D]) >>= ret) _ _ _
  refine wpAny_bind ?_
  refine wpAny_holding ?_
  refine wpAny_call ?_
  refine class_get (s := ⟨hp, gs, dr, tk + 1, os⟩) (ox := ox) (od := od) X I hmr ?_
  refine wpAny_pure ?_
  change wpAny _ _ (handedOut (.ref D)) _ _ _
  rw [handedOut_of (v := .ref D) rfl]
  first
    | exact wpAny_pure (wpAny_pure done)
    | exact wpAny_pure done
    | exact wpAny_pure (wpAny_bind (wpAny_pure (wpAny_pure done)))
open PySem.W in
theorem kit_exc (C : L2.ExcC K D) : KitX K (.ref x) (.ref D) (fun h => ∃ ox od, InstAt h x ox D od) := by
  obtain ⟨cd, hcd, _⟩ := any_some C.hd
  have stands : ∃ c d n sl, K.lookup D = some ⟨c, d, .cls n, sl⟩ := by
    unfold clsIn at hcd
    split at hcd
    · rename_i c d n sl e
      exact ⟨c, d, n, sl, e⟩
    · cases hcd
  obtain ⟨c, d, n, sl, e⟩ := stands
  constructor
  · rintro _ _ _ ⟨_, _, I⟩
    exact I.type
  · intro _ h X _ A' Q' E' s' kp q
    unfold isType
    unfold loadHead
    exact wpAny_bind (wpAny_loadPart (kp _ _ (X _ _ e)) (wpAny_pure q))
  · intro h tp dd its m sl' X htp
    cases q : (Value.ref D == Value.ref tp) with
    | false => rfl
    | true =>
      have same : D = tp := Value.ref.inj (beq_iff_eq.mp q)
      subst same
      rw [X _ _ e] at htp
      cases htp
  · rintro prog w A E Q s X ⟨ox, od, I⟩ q
    exact ask_class C X I q
end
end Ev
namespace Ev
open PySem PySem.Spec PyProof.Rows L2
/-- isinstance(v, c), v an exception of the class at D -/
def rIsO (K : PySem.W.Frag) : List V → Hp → VK → Prop := fun xs H Q => ∃ (a D : Addr) (d : Option Addr) (c : V) (cv : Value) (b : Bool), xs = [.ref a, c] ∧ H a = some (exo a D d) ∧ (∀ dd, d = some dd → ∃ fs, H dd = some (exd dd fs)) ∧
  ClsV c cv ∧ ExcC K D ∧ PySem.W.kitOne K (.ref D) cv = some b ∧ Q (.bl b) H
theorem call_isO {X : Cx} : CallR X (.builtin "isinstance") (rIsO X.K) := by
  intro pins s σ H xs us Q J rel ask
  obtain ⟨a, D, d, c, cv, b, rfl, ea, edict, hc, C, fact, q⟩ := ask
  match us, rel with
  | [u1, u2], .cons r1 (.cons r2 .nil) =>
    cases r1
    have same := hc.eq r2
    subst same
    obtain ⟨t1, there⟩ := exo_at J.hok ea
    refine PySem.W.kia_one (kit_exc (x := a) C) J.kIn ?_ fact (fun z => nomatch z) fun tk => ⟨.bl b, H, J.kept (t' := tk) fun _ _ z => z, rfl, q⟩
    cases d with
    | none => exact ⟨_, none, there, rfl, rfl, True.intro⟩
    | some dd =>
      obtain ⟨fs, ed⟩ := edict dd rfl
      obtain ⟨mA, ns, _⟩ := exd_at J.hok ed
      obtain ⟨o, hod, _⟩ := lookIn_ns ns
      exact ⟨_, some o, there, rfl, rfl, hod⟩
end Ev

namespace Ev
open PySem PySem.Spec PyProof.Rows L2 Pn
theorem op_neSame {X : Cx} (hu : X.A.units + 64 < cLine) : OpR X (compareOp .NotEq) (fun x y H Q => ∃ a b xs, x = .ref a ∧ y = .ref b ∧ SqL X.K H a xs ∧ SqL X.K H b xs ∧ (∀ v ∈ xs, flatB v = true ∨ ∃ c, v = .ref c) ∧ Q (.bl false) H) := by
  intro pins s σ H x y v u Q J rx ry ask
  obtain ⟨a, b, xs, rfl, rfl, ha, hb, plain, q⟩ := ask
  cases rx
  cases ry
  obtain ⟨us, r1, p1, _⟩ := J.list ha
  obtain ⟨ws, r2, p2, _⟩ := J.list hb
  have same : us.toArray.size = ws.toArray.size := by
    rw [List.size_toArray, List.size_toArray, ← r1.length, ← r2.length]
  have each : ∀ (i : Nat) (h1 : i < us.toArray.size) (h2 : i < ws.toArray.size), SeqAt.EqAt X.A.in1 s us.toArray[i] ws.toArray[i] true := by
    intro i h1 h2
    have l1 : i < us.length := by simpa using h1
    have l2 : i < ws.length := by simpa using h2
    have lx : i < xs.length := by rw [r1.length]; exact l1
    obtain ⟨z1, e1, q1⟩ := Vals.get r1 (List.getElem?_eq_getElem lx)
    obtain ⟨z2, e2, q2⟩ := Vals.get r2 (List.getElem?_eq_getElem lx)
    have g1 : us.toArray[i] = z1 := by
      rw [List.getElem?_eq_getElem l1] at e1
      simpa using Option.some.inj e1
    have g2 : ws.toArray[i] = z2 := by
      rw [List.getElem?_eq_getElem l2] at e2
      simpa using Option.some.inj e2
    rw [g1, g2]
    rcases plain xs[i] (List.getElem_mem lx) with f | ⟨c, e⟩
    · exact eqAt_same q1 q2 f
    · rw [e] at q1 q2
      cases q1
      cases q2
      exact SeqAt.EqAt.same _
  have all : (!(List.range us.toArray.size).all fun _ => true) = false := by simp
  have run := SeqAt.RcNeAt.lists (e := fun _ => true) p1.isList p2.isList same (by omega) each X.prog X.w X.xe (EP X pins σ Q)
  rw [all] at run
  exact run ⟨.bl false, H, J, rfl, q⟩

/-- the classes in the law's order, the base behind them -/
def names : List Str := ["BadLine", "BadName", "BadNumber", "BadRow", "BadStep", "BadText", "Needed", "NoName", "NothingToRedo", "NothingToUndo", "TakenName", "TooGreat", "Unbound", "Unlike", "SettleError"]
/-- what the top has written of the classes -/
structure Tops (K : PySem.W.Frag) (mg : Str → Option Value) (C : Nat → Addr) : Prop where
  g : ∀ i, i < 15 → mg (names.getD i "") = some (.ref (C i))
  kit : ∀ j i, j < 15 → i < 14 → PySem.W.kitOne K (.ref (C j)) (.ref (C i)) = some (decide (j = i))
  kS : ∀ j, j < 15 → PySem.W.kitOne K (.ref (C j)) (.ref (C 14)) = some true
  kV : ∀ j, j < 15 → PySem.W.kitOne K (.ref (C j)) (.type "ValueError") = some true
  xc : ∀ j, j < 15 → ExcC K (C j)
  isi : mg "isinstance" = none
  ve : mg "ValueError" = none
abbrev sKinds : Stmt := topS 20
theorem scKinds : FnScope ["_law_error", "_law_found"] ["_law_error"] (defScope sKinds) := ⟨rfl, rfl, rfl, by decide +kernel, rfl, by decide +kernel, by decide +kernel⟩
/-- an exception of a class stands at a -/
structure ErrAt (H : Hp) (a C : Addr) (d : Option Addr) : Prop where
  ob : H a = some (exo a C d)
  di : ∀ dd, d = some dd → ∃ fs, H dd = some (exd dd fs)
theorem ErrAt.same {H H' : Hp} {a C : Addr} {d : Option Addr} (h : ErrAt H a C d) (s : Same H H') : ErrAt H' a C d := ⟨s _ _ h.ob, fun dd e => by
  obtain ⟨fs, q⟩ := h.di dd e
  exact ⟨fs, s _ _ q⟩⟩
def flags (j : Nat) : List V := (List.range 14).map fun i => V.bl (decide (j = i))
section
variable {P : Program} {w : World} {K : PySem.W.Frag} {mg : Str → Option Value} {base : Heap}
def spKinds (C : Nat → Addr) : Sp := fun vs H Q _ => ∃ (a : Addr) (j : Nat) (d : Option Addr), vs = [.ref a] ∧ j < 15 ∧ ErrAt H a (C j) d ∧ ∀ H' p, Same H H' → H p = none → H' p = some (.lst (flags j)) → Q (.ref p) H'
theorem ok_kinds {f : Addr} {fd : FuncData} {k : Nat} {C : Nat → Addr} (F : Fun K "_law_kinds" "_law_kinds" sKinds f fd) (T : Tops K mg C) : FnOk P w K mg base CX0 (k + 1) f fd ["_law_error"] (spKinds C) := by
  refine F.ok scKinds (fun vs H Q E h => ?_) (fun cdv A outer s H vs Q E hr h => ?_)
  · obtain ⟨a, j, d, rfl, _⟩ := h
    rfl
  · obtain ⟨a, j, d, rfl, hj, hE, q⟩ := h
    refine ⟨_, (pss_cons (ps_set (i := 1) scKinds.nd rfl (.inl rfl) (pe_lst (pa_cons (pe_callB call_isO (by rfl) T.isi PyProof.Rows.boot_isinstance (pa_cons (pv 0) (pa_cons (pe_glob (v := .ref (C 0)) (by rfl) (T.g 0 (by decide)) rfl) pa_nil))) (pa_cons (pe_callB call_isO (by rfl) T.isi PyProof.Rows.boot_isinstance (pa_cons (pv 0) (pa_cons (pe_glob (v := .ref (C 1)) (by rfl) (T.g 1 (by decide)) rfl) pa_nil))) (pa_cons (pe_callB call_isO (by rfl) T.isi PyProof.Rows.boot_isinstance (pa_cons (pv 0) (pa_cons (pe_glob (v := .ref (C 2)) (by rfl) (T.g 2 (by decide)) rfl) pa_nil))) pa_nil)))))
      (pss_cons (ps_set (i := 1) scKinds.nd rfl (.inl rfl) (pe_op op_cat (pv 1) (pe_lst (pa_cons (pe_callB call_isO (by rfl) T.isi PyProof.Rows.boot_isinstance (pa_cons (pv 0) (pa_cons (pe_glob (v := .ref (C 3)) (by rfl) (T.g 3 (by decide)) rfl) pa_nil))) (pa_cons (pe_callB call_isO (by rfl) T.isi PyProof.Rows.boot_isinstance (pa_cons (pv 0) (pa_cons (pe_glob (v := .ref (C 4)) (by rfl) (T.g 4 (by decide)) rfl) pa_nil))) (pa_cons (pe_callB call_isO (by rfl) T.isi PyProof.Rows.boot_isinstance (pa_cons (pv 0) (pa_cons (pe_glob (v := .ref (C 5)) (by rfl) (T.g 5 (by decide)) rfl) pa_nil))) pa_nil))))))
      (pss_cons (ps_set (i := 1) scKinds.nd rfl (.inl rfl) (pe_op op_cat (pv 1) (pe_lst (pa_cons (pe_callB call_isO (by rfl) T.isi PyProof.Rows.boot_isinstance (pa_cons (pv 0) (pa_cons (pe_glob (v := .ref (C 6)) (by rfl) (T.g 6 (by decide)) rfl) pa_nil))) (pa_cons (pe_callB call_isO (by rfl) T.isi PyProof.Rows.boot_isinstance (pa_cons (pv 0) (pa_cons (pe_glob (v := .ref (C 7)) (by rfl) (T.g 7 (by decide)) rfl) pa_nil))) (pa_cons (pe_callB call_isO (by rfl) T.isi PyProof.Rows.boot_isinstance (pa_cons (pv 0) (pa_cons (pe_glob (v := .ref (C 8)) (by rfl) (T.g 8 (by decide)) rfl) pa_nil))) pa_nil))))))
      (pss_cons (ps_set (i := 1) scKinds.nd rfl (.inl rfl) (pe_op op_cat (pv 1) (pe_lst (pa_cons (pe_callB call_isO (by rfl) T.isi PyProof.Rows.boot_isinstance (pa_cons (pv 0) (pa_cons (pe_glob (v := .ref (C 9)) (by rfl) (T.g 9 (by decide)) rfl) pa_nil))) (pa_cons (pe_callB call_isO (by rfl) T.isi PyProof.Rows.boot_isinstance (pa_cons (pv 0) (pa_cons (pe_glob (v := .ref (C 10)) (by rfl) (T.g 10 (by decide)) rfl) pa_nil))) (pa_cons (pe_callB call_isO (by rfl) T.isi PyProof.Rows.boot_isinstance (pa_cons (pv 0) (pa_cons (pe_glob (v := .ref (C 11)) (by rfl) (T.g 11 (by decide)) rfl) pa_nil))) pa_nil))))))
      (pss_cons (ps_set (i := 1) scKinds.nd rfl (.inl rfl) (pe_op op_cat (pv 1) (pe_lst (pa_cons (pe_callB call_isO (by rfl) T.isi PyProof.Rows.boot_isinstance (pa_cons (pv 0) (pa_cons (pe_glob (v := .ref (C 12)) (by rfl) (T.g 12 (by decide)) rfl) pa_nil))) (pa_cons (pe_callB call_isO (by rfl) T.isi PyProof.Rows.boot_isinstance (pa_cons (pv 0) (pa_cons (pe_glob (v := .ref (C 13)) (by rfl) (T.g 13 (by decide)) rfl) pa_nil))) pa_nil)))))
      (pss_one (ps_ret (pe_ifExp (pw_and (pt_val (pe_callB call_isO (by rfl) T.isi PyProof.Rows.boot_isinstance (pa_cons (pv 0) (pa_cons (pe_glob (v := .ref (C 14)) (by rfl) (T.g 14 (by decide)) rfl) pa_nil)))) (pw_and1 (pt_val (pe_callB call_isO (by rfl) T.isi PyProof.Rows.boot_isinstance (pa_cons (pv 0) (pa_cons (pe_bltn (v := .ty "ValueError") (by rfl) T.ve (by decide +kernel) rfl) pa_nil)))))).pt (pv 1) (pe_lst pa_nil))))))))), ?_⟩
    refine ⟨.ref a, rfl, a, C j, d, .ref (C 0), .ref (C 0), decide (j = 0), rfl, hE.ob, hE.di, .own _, T.xc j hj, T.kit j 0 hj (by decide), .ref a, rfl, a, C j, d, .ref (C 1), .ref (C 1), decide (j = 1), rfl, hE.ob, hE.di, .own _, T.xc j hj, T.kit j 1 hj (by decide), .ref a, rfl, a, C j, d, .ref (C 2), .ref (C 2), decide (j = 2), rfl, hE.ob, hE.di, .own _, T.xc j hj, T.kit j 2 hj (by decide), (by show 3 ≤ sizeLine; decide), fun p0 n0 => ?_⟩
    have s0 : Same H (upd H p0 (.lst [.bl (decide (j = 0)), .bl (decide (j = 1)), .bl (decide (j = 2))])) := same_upd n0
    have L0 : (upd H p0 (.lst [.bl (decide (j = 0)), .bl (decide (j = 1)), .bl (decide (j = 2))])) p0 = some (.lst ((flags j).take 3)) := upd_same
    generalize upd H p0 (.lst [.bl (decide (j = 0)), .bl (decide (j = 1)), .bl (decide (j = 2))]) = G0 at s0 L0 ⊢
    have E0 := hE.same s0
    have f0 : H p0 = none := n0
    refine ⟨.ref p0, rfl, .ref a, rfl, a, C j, d, .ref (C 3), .ref (C 3), decide (j = 3), rfl, E0.ob, E0.di, .own _, T.xc j hj, T.kit j 3 hj (by decide), .ref a, rfl, a, C j, d, .ref (C 4), .ref (C 4), decide (j = 4), rfl, E0.ob, E0.di, .own _, T.xc j hj, T.kit j 4 hj (by decide), .ref a, rfl, a, C j, d, .ref (C 5), .ref (C 5), decide (j = 5), rfl, E0.ob, E0.di, .own _, T.xc j hj, T.kit j 5 hj (by decide), (by show 3 ≤ sizeLine; decide), fun t1 m1 => ?_⟩
    have st1 : Same G0 (upd G0 t1 (.lst [.bl (decide (j = 3)), .bl (decide (j = 4)), .bl (decide (j = 5))])) := same_upd m1
    refine ⟨p0, t1, _, _, rfl, rfl, st1 _ _ L0, upd_same, (by show 3+3 ≤ sizeLine; decide), fun p1 n1 => ?_⟩
    have s1 : Same H (upd (upd G0 t1 (.lst [.bl (decide (j = 3)), .bl (decide (j = 4)), .bl (decide (j = 5))])) p1 (.lst ((flags j).take 3 ++ [.bl (decide (j = 3)), .bl (decide (j = 4)), .bl (decide (j = 5))]))) := s0.trans (st1.trans (same_upd n1))
    have L1 : (upd (upd G0 t1 (.lst [.bl (decide (j = 3)), .bl (decide (j = 4)), .bl (decide (j = 5))])) p1 (.lst ((flags j).take 3 ++ [.bl (decide (j = 3)), .bl (decide (j = 4)), .bl (decide (j = 5))]))) p1 = some (.lst ((flags j).take 6)) := upd_same
    have f1 : H p1 = none := (s0.trans st1).free n1
    generalize upd (upd G0 t1 (.lst [.bl (decide (j = 3)), .bl (decide (j = 4)), .bl (decide (j = 5))])) p1 (.lst ((flags j).take 3 ++ [.bl (decide (j = 3)), .bl (decide (j = 4)), .bl (decide (j = 5))])) = G1 at s1 L1 ⊢
    have E1 := hE.same s1
    refine ⟨.ref p1, rfl, .ref a, rfl, a, C j, d, .ref (C 6), .ref (C 6), decide (j = 6), rfl, E1.ob, E1.di, .own _, T.xc j hj, T.kit j 6 hj (by decide), .ref a, rfl, a, C j, d, .ref (C 7), .ref (C 7), decide (j = 7), rfl, E1.ob, E1.di, .own _, T.xc j hj, T.kit j 7 hj (by decide), .ref a, rfl, a, C j, d, .ref (C 8), .ref (C 8), decide (j = 8), rfl, E1.ob, E1.di, .own _, T.xc j hj, T.kit j 8 hj (by decide), (by show 3 ≤ sizeLine; decide), fun t2 m2 => ?_⟩
    have st2 : Same G1 (upd G1 t2 (.lst [.bl (decide (j = 6)), .bl (decide (j = 7)), .bl (decide (j = 8))])) := same_upd m2
    refine ⟨p1, t2, _, _, rfl, rfl, st2 _ _ L1, upd_same, (by show 6+3 ≤ sizeLine; decide), fun p2 n2 => ?_⟩
    have s2 : Same H (upd (upd G1 t2 (.lst [.bl (decide (j = 6)), .bl (decide (j = 7)), .bl (decide (j = 8))])) p2 (.lst ((flags j).take 6 ++ [.bl (decide (j = 6)), .bl (decide (j = 7)), .bl (decide (j = 8))]))) := s1.trans (st2.trans (same_upd n2))
    have L2 : (upd (upd G1 t2 (.lst [.bl (decide (j = 6)), .bl (decide (j = 7)), .bl (decide (j = 8))])) p2 (.lst ((flags j).take 6 ++ [.bl (decide (j = 6)), .bl (decide (j = 7)), .bl (decide (j = 8))]))) p2 = some (.lst ((flags j).take 9)) := upd_same
    have f2 : H p2 = none := (s1.trans st2).free n2
    generalize upd (upd G1 t2 (.lst [.bl (decide (j = 6)), .bl (decide (j = 7)), .bl (decide (j = 8))])) p2 (.lst ((flags j).take 6 ++ [.bl (decide (j = 6)), .bl (decide (j = 7)), .bl (decide (j = 8))])) = G2 at s2 L2 ⊢
    have E2 := hE.same s2
    refine ⟨.ref p2, rfl, .ref a, rfl, a, C j, d, .ref (C 9), .ref (C 9), decide (j = 9), rfl, E2.ob, E2.di, .own _, T.xc j hj, T.kit j 9 hj (by decide), .ref a, rfl, a, C j, d, .ref (C 10), .ref (C 10), decide (j = 10), rfl, E2.ob, E2.di, .own _, T.xc j hj, T.kit j 10 hj (by decide), .ref a, rfl, a, C j, d, .ref (C 11), .ref (C 11), decide (j = 11), rfl, E2.ob, E2.di, .own _, T.xc j hj, T.kit j 11 hj (by decide), (by show 3 ≤ sizeLine; decide), fun t3 m3 => ?_⟩
    have st3 : Same G2 (upd G2 t3 (.lst [.bl (decide (j = 9)), .bl (decide (j = 10)), .bl (decide (j = 11))])) := same_upd m3
    refine ⟨p2, t3, _, _, rfl, rfl, st3 _ _ L2, upd_same, (by show 9+3 ≤ sizeLine; decide), fun p3 n3 => ?_⟩
    have s3 : Same H (upd (upd G2 t3 (.lst [.bl (decide (j = 9)), .bl (decide (j = 10)), .bl (decide (j = 11))])) p3 (.lst ((flags j).take 9 ++ [.bl (decide (j = 9)), .bl (decide (j = 10)), .bl (decide (j = 11))]))) := s2.trans (st3.trans (same_upd n3))
    have L3 : (upd (upd G2 t3 (.lst [.bl (decide (j = 9)), .bl (decide (j = 10)), .bl (decide (j = 11))])) p3 (.lst ((flags j).take 9 ++ [.bl (decide (j = 9)), .bl (decide (j = 10)), .bl (decide (j = 11))]))) p3 = some (.lst ((flags j).take 12)) := upd_same
    have f3 : H p3 = none := (s2.trans st3).free n3
    generalize upd (upd G2 t3 (.lst [.bl (decide (j = 9)), .bl (decide (j = 10)), .bl (decide (j = 11))])) p3 (.lst ((flags j).take 9 ++ [.bl (decide (j = 9)), .bl (decide (j = 10)), .bl (decide (j = 11))])) = G3 at s3 L3 ⊢
    have E3 := hE.same s3
    refine ⟨.ref p3, rfl, .ref a, rfl, a, C j, d, .ref (C 12), .ref (C 12), decide (j = 12), rfl, E3.ob, E3.di, .own _, T.xc j hj, T.kit j 12 hj (by decide), .ref a, rfl, a, C j, d, .ref (C 13), .ref (C 13), decide (j = 13), rfl, E3.ob, E3.di, .own _, T.xc j hj, T.kit j 13 hj (by decide), (by show 2 ≤ sizeLine; decide), fun t4 m4 => ?_⟩
    have st4 : Same G3 (upd G3 t4 (.lst [.bl (decide (j = 12)), .bl (decide (j = 13))])) := same_upd m4
    refine ⟨p3, t4, _, _, rfl, rfl, st4 _ _ L3, upd_same, (by show 12+2 ≤ sizeLine; decide), fun p4 n4 => ?_⟩
    have s4 : Same H (upd (upd G3 t4 (.lst [.bl (decide (j = 12)), .bl (decide (j = 13))])) p4 (.lst ((flags j).take 12 ++ [.bl (decide (j = 12)), .bl (decide (j = 13))]))) := s3.trans (st4.trans (same_upd n4))
    have L4 : (upd (upd G3 t4 (.lst [.bl (decide (j = 12)), .bl (decide (j = 13))])) p4 (.lst ((flags j).take 12 ++ [.bl (decide (j = 12)), .bl (decide (j = 13))]))) p4 = some (.lst ((flags j).take 14)) := upd_same
    have f4 : H p4 = none := (s3.trans st4).free n4
    generalize upd (upd G3 t4 (.lst [.bl (decide (j = 12)), .bl (decide (j = 13))])) p4 (.lst ((flags j).take 12 ++ [.bl (decide (j = 12)), .bl (decide (j = 13))])) = G4 at s4 L4 ⊢
    have E4 := hE.same s4
    refine ⟨.ref a, rfl, a, C j, d, .ref (C 14), .ref (C 14), true, rfl, E4.ob, E4.di, .own _, T.xc j hj, T.kS j hj, _, rfl, iteT ?_⟩
    refine ⟨.ref a, rfl, a, C j, d, .ty "ValueError", .type "ValueError", true, rfl, E4.ob, E4.di, .ty _, T.xc j hj, T.kV j hj, _, rfl, iteT ?_⟩
    exact ⟨.ref p4, rfl, q _ _ s4 f4 L4⟩
end
end Ev

namespace Ev
open PySem PySem.Spec PyProof.Rows L2 Pn
/-- what the top has written of a class with fields -/
structure Ec (K : PySem.W.Frag) (C f : Addr) (fields : List Str) : Prop where
  ox : OexC K C
  xf : XfC K C
  ini : PySem.W.findIn K (.ref C) "__init__" = some (some (.ref f))
  tI : PySem.W.typeIn K (.ref f) = some (.type "function")
  no : ∀ x ∈ fields, PySem.W.findIn K (.ref C) x = some none
theorem look_hit {f : Str} {v : V} {r : List (Str × V)} : ((f, v) :: r).lookup f = some v := by simp [List.lookup]
theorem look_skip {f g : Str} {v : V} {r : List (Str × V)} {y : Option V} (h : ¬ f = g) (q : r.lookup f = y) : ((g, v) :: r).lookup f = y := by
  rw [lookup_put, if_neg h]
  exact q
/-- __init__'s word: the fields' dict stands, all else as it was -/
def spIni (C : Addr) (mk : List V → List (Str × V)) (n : Nat) : Sp := fun vs H Q _ => ∃ (a : Addr) (ws : List V), vs = .ref a :: ws ∧ ws.length = n ∧ H a = some (exo a C none) ∧
  ∀ (d : Addr) (H' : Hp), H d = none → d ≠ a → (∀ b, b ≠ d → b ≠ a → H' b = H b) → H' a = some (exo a C (some d)) → H' d = some (exd d (mk ws)) → Q .non H'
theorem made_same {G G' : Hp} {a d C : Addr} (na : G a = none) (nd : (L2.upd G a (exo a C none)) d = none) (kp : ∀ b, b ≠ d → b ≠ a → G' b = (L2.upd G a (exo a C none)) b) : Same G G' := by
  intro b u e
  have h1 : b ≠ a := ne_of_none e na
  have h2 : b ≠ d := fun z => by
    rw [z] at h1 e
    rw [upd_ne h1, e] at nd
    cases nd
  rw [kp b h2 h1, upd_ne h1]
  exact e
def mk1 (f : Str) : List V → List (Str × V)
  | [v] => [(f, v)]
  | _ => []
def mk2 (f g : Str) : List V → List (Str × V)
  | [v, u] => [(g, u), (f, v)]
  | _ => []
theorem fld_err {H : Hp} {a C : Addr} {fs : List (Str × V)} (h : FldAt H a C fs) : ∃ d, ErrAt H a C d := by
  obtain ⟨d, h1, h2⟩ := h
  exact ⟨some d, h1, fun dd e => ⟨fs, by cases e; exact h2⟩⟩
theorem pair_same {K : PySem.W.Frag} {H : Hp} : ∀ xs : List V, (∀ v ∈ xs, flatB v = true) → Paired (EqV K H 1) xs xs
  | [], _ => .nil
  | x :: r, h => .cons (.inl ⟨rfl, h x List.mem_cons_self⟩) (pair_same r fun v hv => h v (List.mem_cons_of_mem _ hv))
section
variable {P : Program} {w : World} {K : PySem.W.Frag} {mg : Str → Option Value} {base : Heap}
abbrev sIBadLine : Stmt := inClass (topS 3) 0
theorem scBadLine : FnScope ["self", "line", "column"] ["self", "line", "column"] (defScope sIBadLine) := ⟨rfl, rfl, rfl, by decide +kernel, rfl, by decide +kernel, by decide +kernel⟩
theorem iniBadLine {f C : Addr} {fd : FuncData} (F : Fun K "__init__" "BadLine.__init__" sIBadLine f fd) (T : Ec K C f ["line", "column"]) : FnOk P w K mg base CX0 1 f fd ["self", "line", "column"] (spIni C (mk2 "line" "column") 2) := by
  refine F.ok scBadLine (fun vs H Q E h => ?_) (fun cdv A outer s H vs Q E hr h => ?_)
  · obtain ⟨a, ws, rfl, e, _⟩ := h
    show ws.length + 1 = 3
    rw [e]
  · obtain ⟨a, ws, rfl, e, ea, q⟩ := h
    match ws, e with
    | [v, u], _ =>
      refine ⟨_, pss_cons (ps_ost (pv 0) (pv 1)) (pss_one (ps_ost (pv 0) (pv 2))), ?_⟩
      refine ⟨v, rfl, .ref a, rfl, a, C, rfl, T.ox, T.no _ (by decide), .inl ⟨ea, fun d nd ne => ?_⟩⟩
      refine ⟨u, rfl, .ref a, rfl, a, C, rfl, T.ox, T.no _ (by decide), .inr ⟨d, _, upd_same, by rw [upd_ne ne, upd_same], (by show 1 ≤ 900; decide), ?_⟩⟩
      exact q d _ nd ne (fun b h1 h2 => by rw [upd_ne h1, upd_ne h2, upd_ne h1]) (by rw [upd_ne (Ne.symm ne), upd_same]) upd_same
abbrev sIBadName : Stmt := inClass (topS 6) 0
theorem scBadName : FnScope ["self", "name"] ["self", "name"] (defScope sIBadName) := ⟨rfl, rfl, rfl, by decide +kernel, rfl, by decide +kernel, by decide +kernel⟩
theorem iniBadName {f C : Addr} {fd : FuncData} (F : Fun K "__init__" "BadName.__init__" sIBadName f fd) (T : Ec K C f ["name"]) : FnOk P w K mg base CX0 1 f fd ["self", "name"] (spIni C (mk1 "name") 1) := by
  refine F.ok scBadName (fun vs H Q E h => ?_) (fun cdv A outer s H vs Q E hr h => ?_)
  · obtain ⟨a, ws, rfl, e, _⟩ := h
    show ws.length + 1 = 2
    rw [e]
  · obtain ⟨a, ws, rfl, e, ea, q⟩ := h
    match ws, e with
    | [v], _ =>
      refine ⟨_, pss_one (ps_ost (pv 0) (pv 1)), ?_⟩
      refine ⟨v, rfl, .ref a, rfl, a, C, rfl, T.ox, T.no _ (by decide), .inl ⟨ea, fun d nd ne => ?_⟩⟩
      exact q d _ nd ne (fun b h1 h2 => by rw [upd_ne h2, upd_ne h1]) upd_same (by rw [upd_ne ne, upd_same]; rfl)
abbrev sIBadNumber : Stmt := inClass (topS 4) 0
theorem scBadNumber : FnScope ["self", "what", "number"] ["self", "what", "number"] (defScope sIBadNumber) := ⟨rfl, rfl, rfl, by decide +kernel, rfl, by decide +kernel, by decide +kernel⟩
theorem iniBadNumber {f C : Addr} {fd : FuncData} (F : Fun K "__init__" "BadNumber.__init__" sIBadNumber f fd) (T : Ec K C f ["what", "number"]) : FnOk P w K mg base CX0 1 f fd ["self", "what", "number"] (spIni C (mk2 "what" "number") 2) := by
  refine F.ok scBadNumber (fun vs H Q E h => ?_) (fun cdv A outer s H vs Q E hr h => ?_)
  · obtain ⟨a, ws, rfl, e, _⟩ := h
    show ws.length + 1 = 3
    rw [e]
  · obtain ⟨a, ws, rfl, e, ea, q⟩ := h
    match ws, e with
    | [v, u], _ =>
      refine ⟨_, pss_cons (ps_ost (pv 0) (pv 1)) (pss_one (ps_ost (pv 0) (pv 2))), ?_⟩
      refine ⟨v, rfl, .ref a, rfl, a, C, rfl, T.ox, T.no _ (by decide), .inl ⟨ea, fun d nd ne => ?_⟩⟩
      refine ⟨u, rfl, .ref a, rfl, a, C, rfl, T.ox, T.no _ (by decide), .inr ⟨d, _, upd_same, by rw [upd_ne ne, upd_same], (by show 1 ≤ 900; decide), ?_⟩⟩
      exact q d _ nd ne (fun b h1 h2 => by rw [upd_ne h1, upd_ne h2, upd_ne h1]) (by rw [upd_ne (Ne.symm ne), upd_same]) upd_same
abbrev sIBadRow : Stmt := inClass (topS 5) 0
theorem scBadRow : FnScope ["self", "row"] ["self", "row"] (defScope sIBadRow) := ⟨rfl, rfl, rfl, by decide +kernel, rfl, by decide +kernel, by decide +kernel⟩
theorem iniBadRow {f C : Addr} {fd : FuncData} (F : Fun K "__init__" "BadRow.__init__" sIBadRow f fd) (T : Ec K C f ["row"]) : FnOk P w K mg base CX0 1 f fd ["self", "row"] (spIni C (mk1 "row") 1) := by
  refine F.ok scBadRow (fun vs H Q E h => ?_) (fun cdv A outer s H vs Q E hr h => ?_)
  · obtain ⟨a, ws, rfl, e, _⟩ := h
    show ws.length + 1 = 2
    rw [e]
  · obtain ⟨a, ws, rfl, e, ea, q⟩ := h
    match ws, e with
    | [v], _ =>
      refine ⟨_, pss_one (ps_ost (pv 0) (pv 1)), ?_⟩
      refine ⟨v, rfl, .ref a, rfl, a, C, rfl, T.ox, T.no _ (by decide), .inl ⟨ea, fun d nd ne => ?_⟩⟩
      exact q d _ nd ne (fun b h1 h2 => by rw [upd_ne h2, upd_ne h1]) upd_same (by rw [upd_ne ne, upd_same]; rfl)
abbrev sIBadStep : Stmt := inClass (topS 14) 0
theorem scBadStep : FnScope ["self", "step"] ["self", "step"] (defScope sIBadStep) := ⟨rfl, rfl, rfl, by decide +kernel, rfl, by decide +kernel, by decide +kernel⟩
theorem iniBadStep {f C : Addr} {fd : FuncData} (F : Fun K "__init__" "BadStep.__init__" sIBadStep f fd) (T : Ec K C f ["step"]) : FnOk P w K mg base CX0 1 f fd ["self", "step"] (spIni C (mk1 "step") 1) := by
  refine F.ok scBadStep (fun vs H Q E h => ?_) (fun cdv A outer s H vs Q E hr h => ?_)
  · obtain ⟨a, ws, rfl, e, _⟩ := h
    show ws.length + 1 = 2
    rw [e]
  · obtain ⟨a, ws, rfl, e, ea, q⟩ := h
    match ws, e with
    | [v], _ =>
      refine ⟨_, pss_one (ps_ost (pv 0) (pv 1)), ?_⟩
      refine ⟨v, rfl, .ref a, rfl, a, C, rfl, T.ox, T.no _ (by decide), .inl ⟨ea, fun d nd ne => ?_⟩⟩
      exact q d _ nd ne (fun b h1 h2 => by rw [upd_ne h2, upd_ne h1]) upd_same (by rw [upd_ne ne, upd_same]; rfl)
abbrev sIBadText : Stmt := inClass (topS 2) 0
theorem scBadText : FnScope ["self", "column"] ["self", "column"] (defScope sIBadText) := ⟨rfl, rfl, rfl, by decide +kernel, rfl, by decide +kernel, by decide +kernel⟩
theorem iniBadText {f C : Addr} {fd : FuncData} (F : Fun K "__init__" "BadText.__init__" sIBadText f fd) (T : Ec K C f ["column"]) : FnOk P w K mg base CX0 1 f fd ["self", "column"] (spIni C (mk1 "column") 1) := by
  refine F.ok scBadText (fun vs H Q E h => ?_) (fun cdv A outer s H vs Q E hr h => ?_)
  · obtain ⟨a, ws, rfl, e, _⟩ := h
    show ws.length + 1 = 2
    rw [e]
  · obtain ⟨a, ws, rfl, e, ea, q⟩ := h
    match ws, e with
    | [v], _ =>
      refine ⟨_, pss_one (ps_ost (pv 0) (pv 1)), ?_⟩
      refine ⟨v, rfl, .ref a, rfl, a, C, rfl, T.ox, T.no _ (by decide), .inl ⟨ea, fun d nd ne => ?_⟩⟩
      exact q d _ nd ne (fun b h1 h2 => by rw [upd_ne h2, upd_ne h1]) upd_same (by rw [upd_ne ne, upd_same]; rfl)
abbrev sINeeded : Stmt := inClass (topS 11) 0
theorem scNeeded : FnScope ["self", "name", "finding"] ["self", "name", "finding"] (defScope sINeeded) := ⟨rfl, rfl, rfl, by decide +kernel, rfl, by decide +kernel, by decide +kernel⟩
theorem iniNeeded {f C : Addr} {fd : FuncData} (F : Fun K "__init__" "Needed.__init__" sINeeded f fd) (T : Ec K C f ["name", "finding"]) : FnOk P w K mg base CX0 1 f fd ["self", "name", "finding"] (spIni C (mk2 "name" "finding") 2) := by
  refine F.ok scNeeded (fun vs H Q E h => ?_) (fun cdv A outer s H vs Q E hr h => ?_)
  · obtain ⟨a, ws, rfl, e, _⟩ := h
    show ws.length + 1 = 3
    rw [e]
  · obtain ⟨a, ws, rfl, e, ea, q⟩ := h
    match ws, e with
    | [v, u], _ =>
      refine ⟨_, pss_cons (ps_ost (pv 0) (pv 1)) (pss_one (ps_ost (pv 0) (pv 2))), ?_⟩
      refine ⟨v, rfl, .ref a, rfl, a, C, rfl, T.ox, T.no _ (by decide), .inl ⟨ea, fun d nd ne => ?_⟩⟩
      refine ⟨u, rfl, .ref a, rfl, a, C, rfl, T.ox, T.no _ (by decide), .inr ⟨d, _, upd_same, by rw [upd_ne ne, upd_same], (by show 1 ≤ 900; decide), ?_⟩⟩
      exact q d _ nd ne (fun b h1 h2 => by rw [upd_ne h1, upd_ne h2, upd_ne h1]) (by rw [upd_ne (Ne.symm ne), upd_same]) upd_same
abbrev sINoName : Stmt := inClass (topS 9) 0
theorem scNoName : FnScope ["self", "name"] ["self", "name"] (defScope sINoName) := ⟨rfl, rfl, rfl, by decide +kernel, rfl, by decide +kernel, by decide +kernel⟩
theorem iniNoName {f C : Addr} {fd : FuncData} (F : Fun K "__init__" "NoName.__init__" sINoName f fd) (T : Ec K C f ["name"]) : FnOk P w K mg base CX0 1 f fd ["self", "name"] (spIni C (mk1 "name") 1) := by
  refine F.ok scNoName (fun vs H Q E h => ?_) (fun cdv A outer s H vs Q E hr h => ?_)
  · obtain ⟨a, ws, rfl, e, _⟩ := h
    show ws.length + 1 = 2
    rw [e]
  · obtain ⟨a, ws, rfl, e, ea, q⟩ := h
    match ws, e with
    | [v], _ =>
      refine ⟨_, pss_one (ps_ost (pv 0) (pv 1)), ?_⟩
      refine ⟨v, rfl, .ref a, rfl, a, C, rfl, T.ox, T.no _ (by decide), .inl ⟨ea, fun d nd ne => ?_⟩⟩
      exact q d _ nd ne (fun b h1 h2 => by rw [upd_ne h2, upd_ne h1]) upd_same (by rw [upd_ne ne, upd_same]; rfl)
abbrev sITakenName : Stmt := inClass (topS 10) 0
theorem scTakenName : FnScope ["self", "name"] ["self", "name"] (defScope sITakenName) := ⟨rfl, rfl, rfl, by decide +kernel, rfl, by decide +kernel, by decide +kernel⟩
theorem iniTakenName {f C : Addr} {fd : FuncData} (F : Fun K "__init__" "TakenName.__init__" sITakenName f fd) (T : Ec K C f ["name"]) : FnOk P w K mg base CX0 1 f fd ["self", "name"] (spIni C (mk1 "name") 1) := by
  refine F.ok scTakenName (fun vs H Q E h => ?_) (fun cdv A outer s H vs Q E hr h => ?_)
  · obtain ⟨a, ws, rfl, e, _⟩ := h
    show ws.length + 1 = 2
    rw [e]
  · obtain ⟨a, ws, rfl, e, ea, q⟩ := h
    match ws, e with
    | [v], _ =>
      refine ⟨_, pss_one (ps_ost (pv 0) (pv 1)), ?_⟩
      refine ⟨v, rfl, .ref a, rfl, a, C, rfl, T.ox, T.no _ (by decide), .inl ⟨ea, fun d nd ne => ?_⟩⟩
      exact q d _ nd ne (fun b h1 h2 => by rw [upd_ne h2, upd_ne h1]) upd_same (by rw [upd_ne ne, upd_same]; rfl)
abbrev sITooGreat : Stmt := inClass (topS 15) 0
theorem scTooGreat : FnScope ["self", "most"] ["self", "most"] (defScope sITooGreat) := ⟨rfl, rfl, rfl, by decide +kernel, rfl, by decide +kernel, by decide +kernel⟩
theorem iniTooGreat {f C : Addr} {fd : FuncData} (F : Fun K "__init__" "TooGreat.__init__" sITooGreat f fd) (T : Ec K C f ["most"]) : FnOk P w K mg base CX0 1 f fd ["self", "most"] (spIni C (mk1 "most") 1) := by
  refine F.ok scTooGreat (fun vs H Q E h => ?_) (fun cdv A outer s H vs Q E hr h => ?_)
  · obtain ⟨a, ws, rfl, e, _⟩ := h
    show ws.length + 1 = 2
    rw [e]
  · obtain ⟨a, ws, rfl, e, ea, q⟩ := h
    match ws, e with
    | [v], _ =>
      refine ⟨_, pss_one (ps_ost (pv 0) (pv 1)), ?_⟩
      refine ⟨v, rfl, .ref a, rfl, a, C, rfl, T.ox, T.no _ (by decide), .inl ⟨ea, fun d nd ne => ?_⟩⟩
      exact q d _ nd ne (fun b h1 h2 => by rw [upd_ne h2, upd_ne h1]) upd_same (by rw [upd_ne ne, upd_same]; rfl)
abbrev sIUnbound : Stmt := inClass (topS 8) 0
theorem scUnbound : FnScope ["self", "name"] ["self", "name"] (defScope sIUnbound) := ⟨rfl, rfl, rfl, by decide +kernel, rfl, by decide +kernel, by decide +kernel⟩
theorem iniUnbound {f C : Addr} {fd : FuncData} (F : Fun K "__init__" "Unbound.__init__" sIUnbound f fd) (T : Ec K C f ["name"]) : FnOk P w K mg base CX0 1 f fd ["self", "name"] (spIni C (mk1 "name") 1) := by
  refine F.ok scUnbound (fun vs H Q E h => ?_) (fun cdv A outer s H vs Q E hr h => ?_)
  · obtain ⟨a, ws, rfl, e, _⟩ := h
    show ws.length + 1 = 2
    rw [e]
  · obtain ⟨a, ws, rfl, e, ea, q⟩ := h
    match ws, e with
    | [v], _ =>
      refine ⟨_, pss_one (ps_ost (pv 0) (pv 1)), ?_⟩
      refine ⟨v, rfl, .ref a, rfl, a, C, rfl, T.ox, T.no _ (by decide), .inl ⟨ea, fun d nd ne => ?_⟩⟩
      exact q d _ nd ne (fun b h1 h2 => by rw [upd_ne h2, upd_ne h1]) upd_same (by rw [upd_ne ne, upd_same]; rfl)
abbrev sIUnlike : Stmt := inClass (topS 7) 0
theorem scUnlike : FnScope ["self", "what"] ["self", "what"] (defScope sIUnlike) := ⟨rfl, rfl, rfl, by decide +kernel, rfl, by decide +kernel, by decide +kernel⟩
theorem iniUnlike {f C : Addr} {fd : FuncData} (F : Fun K "__init__" "Unlike.__init__" sIUnlike f fd) (T : Ec K C f ["what"]) : FnOk P w K mg base CX0 1 f fd ["self", "what"] (spIni C (mk1 "what") 1) := by
  refine F.ok scUnlike (fun vs H Q E h => ?_) (fun cdv A outer s H vs Q E hr h => ?_)
  · obtain ⟨a, ws, rfl, e, _⟩ := h
    show ws.length + 1 = 2
    rw [e]
  · obtain ⟨a, ws, rfl, e, ea, q⟩ := h
    match ws, e with
    | [v], _ =>
      refine ⟨_, pss_one (ps_ost (pv 0) (pv 1)), ?_⟩
      refine ⟨v, rfl, .ref a, rfl, a, C, rfl, T.ox, T.no _ (by decide), .inl ⟨ea, fun d nd ne => ?_⟩⟩
      exact q d _ nd ne (fun b h1 h2 => by rw [upd_ne h2, upd_ne h1]) upd_same (by rw [upd_ne ne, upd_same]; rfl)
end
end Ev

namespace Ev
open PySem PySem.Spec PyProof.Rows L2 Pn
theorem _root_.Pn.Pen.same {H H' : Hp} {p l : Addr} {ns : List Int} {c : Nat} (h : Pen H p l ns c) (s : Same H H') : Pen H' p l ns c := by
  obtain ⟨⟨a, d, f, e, r⟩, q⟩ := h
  exact ⟨⟨a, d, f, s _ _ e, r⟩, s _ _ q⟩
abbrev sLaw : Stmt := topS 21
theorem scLaw : FnScope ["_law_script", "_law_pen_here", "_law_one", "_law_two", "_law_line", "_law_number", "_law_needed", "_law_told", "_law_single", "_law_errors", "_law_place", "_law_plain", "_law_k"] ["_law_script"] (defScope sLaw) := ⟨rfl, rfl, rfl, by decide +kernel, rfl, by decide +kernel, by decide +kernel⟩
def spLaw (K : PySem.W.Frag) : Sp := fun vs H Q _ => ∃ (a : Addr) (ns : List Int), vs = [.ref a] ∧ SqL K H a (ns.map V.int) ∧ ns.length ≤ 63 ∧ ∀ H', Q (.bl true) H'
def Plain (v : V) : Prop := flatB v = true ∨ ∃ c, v = .ref c
theorem flags_at (j i : Nat) (h : i < 14) : (flags j)[i]? = some (.bl (decide (j = i))) := by
  unfold flags
  rw [List.getElem?_map, List.getElem?_range h]
  rfl
theorem flags_len (j : Nat) : (flags j).length = 14 := by
  unfold flags
  rw [List.length_map, List.length_range]
theorem flags_flat (j : Nat) : ∀ v ∈ flags j, flatB v = true := by
  intro v hv
  unfold flags at hv
  obtain ⟨i, _, rfl⟩ := List.mem_map.mp hv
  rfl
theorem flags_no : flags 14 = (List.replicate 14 [V.bl false]).flatten := by decide +kernel
section
variable {P : Program} {w : World} {K : PySem.W.Frag} {mg : Str → Option Value} {base : Heap}
/-- the facts of the classes with fields, and of those without -/
structure Cls (P : Program) (w : World) (K : PySem.W.Frag) (mg : Str → Option Value) (base : Heap) (C : Nat → Addr) : Prop where
  eBadLine : ∃ f fd, Ec K (C 0) f ["line", "column"] ∧ Fun K "__init__" "BadLine.__init__" sIBadLine f fd ∧ Binds K fd ["self", "line", "column"] []
  eBadName : ∃ f fd, Ec K (C 1) f ["name"] ∧ Fun K "__init__" "BadName.__init__" sIBadName f fd ∧ Binds K fd ["self", "name"] []
  eBadNumber : ∃ f fd, Ec K (C 2) f ["what", "number"] ∧ Fun K "__init__" "BadNumber.__init__" sIBadNumber f fd ∧ Binds K fd ["self", "what", "number"] []
  eBadRow : ∃ f fd, Ec K (C 3) f ["row"] ∧ Fun K "__init__" "BadRow.__init__" sIBadRow f fd ∧ Binds K fd ["self", "row"] []
  eBadStep : ∃ f fd, Ec K (C 4) f ["step"] ∧ Fun K "__init__" "BadStep.__init__" sIBadStep f fd ∧ Binds K fd ["self", "step"] []
  eBadText : ∃ f fd, Ec K (C 5) f ["column"] ∧ Fun K "__init__" "BadText.__init__" sIBadText f fd ∧ Binds K fd ["self", "column"] []
  eNeeded : ∃ f fd, Ec K (C 6) f ["name", "finding"] ∧ Fun K "__init__" "Needed.__init__" sINeeded f fd ∧ Binds K fd ["self", "name", "finding"] []
  eNoName : ∃ f fd, Ec K (C 7) f ["name"] ∧ Fun K "__init__" "NoName.__init__" sINoName f fd ∧ Binds K fd ["self", "name"] []
  eTakenName : ∃ f fd, Ec K (C 10) f ["name"] ∧ Fun K "__init__" "TakenName.__init__" sITakenName f fd ∧ Binds K fd ["self", "name"] []
  eTooGreat : ∃ f fd, Ec K (C 11) f ["most"] ∧ Fun K "__init__" "TooGreat.__init__" sITooGreat f fd ∧ Binds K fd ["self", "most"] []
  eUnbound : ∃ f fd, Ec K (C 12) f ["name"] ∧ Fun K "__init__" "Unbound.__init__" sIUnbound f fd ∧ Binds K fd ["self", "name"] []
  eUnlike : ∃ f fd, Ec K (C 13) f ["what"] ∧ Fun K "__init__" "Unlike.__init__" sIUnlike f fd ∧ Binds K fd ["self", "what"] []
  x8 : ∀ i, i = 8 ∨ i = 9 ∨ i = 14 → PySem.W.excIn K (C i) [.type "ValueError", .type "Exception", .type "BaseException", .type "object"] "ValueError.__new__" = true ∧ PySem.W.keepIn K (.ref (C i)) = true
theorem ok_law {f fP fK fG : Addr} {fd fdP fdK fdG : FuncData} {C : Nat → Addr} (F : Fun K "law" "law" sLaw f fd) (T : Tops K mg C) (U : Cls P w K mg base C)
    (GP : FnOk P w K mg base CX0 1 fP fdP ["_law_script"] (spPen K)) (gP : mg "_law_pen" = some (.ref fP)) (kP : PySem.W.keepIn K (.ref fP) = true) (bP : Binds K fdP ["_law_script"] [])
    (GG : FnOk P w K mg base CX0 2 fG fdG ["_law_pen_here", "_law_some"] (spPick K)) (gG : mg "_law_pick" = some (.ref fG)) (kG : PySem.W.keepIn K (.ref fG) = true) (bG : Binds K fdG ["_law_pen_here", "_law_some"] [])
    (GK : FnOk P w K mg base CX0 1 fK fdK ["_law_error"] (spKinds C)) (gK : mg "_law_kinds" = some (.ref fK)) (kK : PySem.W.keepIn K (.ref fK) = true) (bK : Binds K fdK ["_law_error"] [])
    (rng : mg "range" = none) : FnOk P w K mg base CX0 3 f fd ["_law_script"] (spLaw K) := by
  obtain ⟨fBadLine, dBadLine, EBadLine, FBadLine, bBadLine⟩ := U.eBadLine
  have GBadLine : FnOk P w K mg base CX0 1 fBadLine dBadLine ["self", "line", "column"] _ := iniBadLine FBadLine EBadLine
  obtain ⟨fBadName, dBadName, EBadName, FBadName, bBadName⟩ := U.eBadName
  have GBadName : FnOk P w K mg base CX0 1 fBadName dBadName ["self", "name"] _ := iniBadName FBadName EBadName
  obtain ⟨fBadNumber, dBadNumber, EBadNumber, FBadNumber, bBadNumber⟩ := U.eBadNumber
  have GBadNumber : FnOk P w K mg base CX0 1 fBadNumber dBadNumber ["self", "what", "number"] _ := iniBadNumber FBadNumber EBadNumber
  obtain ⟨fBadRow, dBadRow, EBadRow, FBadRow, bBadRow⟩ := U.eBadRow
  have GBadRow : FnOk P w K mg base CX0 1 fBadRow dBadRow ["self", "row"] _ := iniBadRow FBadRow EBadRow
  obtain ⟨fBadStep, dBadStep, EBadStep, FBadStep, bBadStep⟩ := U.eBadStep
  have GBadStep : FnOk P w K mg base CX0 1 fBadStep dBadStep ["self", "step"] _ := iniBadStep FBadStep EBadStep
  obtain ⟨fBadText, dBadText, EBadText, FBadText, bBadText⟩ := U.eBadText
  have GBadText : FnOk P w K mg base CX0 1 fBadText dBadText ["self", "column"] _ := iniBadText FBadText EBadText
  obtain ⟨fNeeded, dNeeded, ENeeded, FNeeded, bNeeded⟩ := U.eNeeded
  have GNeeded : FnOk P w K mg base CX0 1 fNeeded dNeeded ["self", "name", "finding"] _ := iniNeeded FNeeded ENeeded
  obtain ⟨fNoName, dNoName, ENoName, FNoName, bNoName⟩ := U.eNoName
  have GNoName : FnOk P w K mg base CX0 1 fNoName dNoName ["self", "name"] _ := iniNoName FNoName ENoName
  obtain ⟨fTakenName, dTakenName, ETakenName, FTakenName, bTakenName⟩ := U.eTakenName
  have GTakenName : FnOk P w K mg base CX0 1 fTakenName dTakenName ["self", "name"] _ := iniTakenName FTakenName ETakenName
  obtain ⟨fTooGreat, dTooGreat, ETooGreat, FTooGreat, bTooGreat⟩ := U.eTooGreat
  have GTooGreat : FnOk P w K mg base CX0 1 fTooGreat dTooGreat ["self", "most"] _ := iniTooGreat FTooGreat ETooGreat
  obtain ⟨fUnbound, dUnbound, EUnbound, FUnbound, bUnbound⟩ := U.eUnbound
  have GUnbound : FnOk P w K mg base CX0 1 fUnbound dUnbound ["self", "name"] _ := iniUnbound FUnbound EUnbound
  obtain ⟨fUnlike, dUnlike, EUnlike, FUnlike, bUnlike⟩ := U.eUnlike
  have GUnlike : FnOk P w K mg base CX0 1 fUnlike dUnlike ["self", "what"] _ := iniUnlike FUnlike EUnlike
  refine F.ok scLaw (fun vs H Q E h => ?_) (fun cdv A outer s H vs Q E hr h => ?_)
  · obtain ⟨a, ns, rfl, _⟩ := h
    rfl
  · obtain ⟨a, ns, rfl, hS, hlen, q⟩ := h
    have hr1 : Room 1 _ := hr.mono (by decide)
    refine ⟨_, (pss_cons (ps_set (i := 1) scLaw.nd rfl (.inl rfl) (pe_call GP hr1 (by rfl) gP kP bP .nil pass0 (pa_cons (pv 0) pa_nil)))
      (pss_cons (ps_set (i := 2) scLaw.nd rfl (.inl rfl) (pe_call GG hr (by rfl) gG kG bG .nil pass0 (pa_cons (pv 1) (pa_cons (pe_lst (pa_cons pe_int (pa_cons pe_str (pa_cons pe_non (pa_cons (pe_tup (pa_cons pe_int (pa_cons pe_int pa_nil))) (pa_cons (pe_lst (pa_cons pe_int (pa_cons pe_int pa_nil))) (pa_cons pe_bl pa_nil))))))) pa_nil))))
      (pss_cons (ps_set (i := 3) scLaw.nd rfl (.inl rfl) (pe_call GG hr (by rfl) gG kG bG .nil pass0 (pa_cons (pv 1) (pa_cons (pe_lst (pa_cons pe_int (pa_cons pe_str (pa_cons (pe_tup (pa_cons pe_str pa_nil)) (pa_cons (pe_lst pa_nil) (pa_cons (pe_disp (pps_cons pe_str pe_int pps_nil) (by rfl) (by rfl) (fun z => by cases z) (by decide)) pa_nil)))))) pa_nil))))
      (pss_cons (ps_par3 (i := 4) (j := 5) (l := 6) rfl scLaw.nd rfl rfl rfl (by decide) (by decide) (by decide) rfl rfl rfl (pa_cons (pe_mkE EBadLine.ox EBadLine.ini EBadLine.tI GBadLine hr bBadLine pass0 (by rfl) (T.g 0 (by decide)) (pa_cons (pv 2) (pa_cons (pv 3) pa_nil))) (pa_cons (pe_mkE EBadNumber.ox EBadNumber.ini EBadNumber.tI GBadNumber hr bBadNumber pass0 (by rfl) (T.g 2 (by decide)) (pa_cons (pv 2) (pa_cons (pv 3) pa_nil))) (pa_cons (pe_mkE ENeeded.ox ENeeded.ini ENeeded.tI GNeeded hr bNeeded pass0 (by rfl) (T.g 6 (by decide)) (pa_cons (pv 2) (pa_cons (pv 3) pa_nil))) pa_nil))) (by rfl))
      (pss_cons (ps_set (i := 7) scLaw.nd rfl (.inl rfl) (pe_lst (pa_cons (pe_getE EBadLine.xf (EBadLine.no "line" (by decide)) (pv 4)) (pa_cons (pe_getE EBadLine.xf (EBadLine.no "column" (by decide)) (pv 4)) (pa_cons (pe_getE EBadNumber.xf (EBadNumber.no "what" (by decide)) (pv 5)) (pa_cons (pe_getE EBadNumber.xf (EBadNumber.no "number" (by decide)) (pv 5)) (pa_cons (pe_getE ENeeded.xf (ENeeded.no "name" (by decide)) (pv 6)) (pa_cons (pe_getE ENeeded.xf (ENeeded.no "finding" (by decide)) (pv 6)) pa_nil))))))))
      (pss_cons (ps_if (pt_cmpR (op_neSame hr.units) (pv 7) (pe_op op_rep (pe_lst (pa_cons (pv 2) (pa_cons (pv 3) pa_nil))) pe_int) (nomark _)) (pss_one (ps_ret pe_bl)) pss_nil)
      (pss_cons (ps_set (i := 8) scLaw.nd rfl (.inl rfl) (pe_lst (pa_cons (pe_mkE EBadName.ox EBadName.ini EBadName.tI GBadName hr bBadName pass0 (by rfl) (T.g 1 (by decide)) (pa_cons (pv 2) pa_nil)) (pa_cons (pe_mkE EBadRow.ox EBadRow.ini EBadRow.tI GBadRow hr bBadRow pass0 (by rfl) (T.g 3 (by decide)) (pa_cons (pv 2) pa_nil)) (pa_cons (pe_mkE EBadStep.ox EBadStep.ini EBadStep.tI GBadStep hr bBadStep pass0 (by rfl) (T.g 4 (by decide)) (pa_cons (pv 2) pa_nil)) (pa_cons (pe_mkE EBadText.ox EBadText.ini EBadText.tI GBadText hr bBadText pass0 (by rfl) (T.g 5 (by decide)) (pa_cons (pv 2) pa_nil)) (pa_cons (pe_mkE ENoName.ox ENoName.ini ENoName.tI GNoName hr bNoName pass0 (by rfl) (T.g 7 (by decide)) (pa_cons (pv 2) pa_nil)) (pa_cons (pe_mkE ETakenName.ox ETakenName.ini ETakenName.tI GTakenName hr bTakenName pass0 (by rfl) (T.g 10 (by decide)) (pa_cons (pv 2) pa_nil)) (pa_cons (pe_mkE ETooGreat.ox ETooGreat.ini ETooGreat.tI GTooGreat hr bTooGreat pass0 (by rfl) (T.g 11 (by decide)) (pa_cons (pv 2) pa_nil)) pa_nil)))))))))
      (pss_cons (ps_set (i := 8) scLaw.nd rfl (.inl rfl) (pe_op op_cat (pv 8) (pe_lst (pa_cons (pe_mkE EUnbound.ox EUnbound.ini EUnbound.tI GUnbound hr bUnbound pass0 (by rfl) (T.g 12 (by decide)) (pa_cons (pv 2) pa_nil)) (pa_cons (pe_mkE EUnlike.ox EUnlike.ini EUnlike.tI GUnlike hr bUnlike pass0 (by rfl) (T.g 13 (by decide)) (pa_cons (pv 2) pa_nil)) pa_nil)))))
      (pss_cons (ps_set (i := 7) scLaw.nd rfl (.inl rfl) (pe_lst (pa_cons (pe_getE EBadName.xf (EBadName.no "name" (by decide)) (pe_ix ix_list (pv 8) pe_int (fun _ _ => rfl))) (pa_cons (pe_getE EBadRow.xf (EBadRow.no "row" (by decide)) (pe_ix ix_list (pv 8) pe_int (fun _ _ => rfl))) (pa_cons (pe_getE EBadStep.xf (EBadStep.no "step" (by decide)) (pe_ix ix_list (pv 8) pe_int (fun _ _ => rfl))) (pa_cons (pe_getE EBadText.xf (EBadText.no "column" (by decide)) (pe_ix ix_list (pv 8) pe_int (fun _ _ => rfl))) (pa_cons (pe_getE ENoName.xf (ENoName.no "name" (by decide)) (pe_ix ix_list (pv 8) pe_int (fun _ _ => rfl))) (pa_cons (pe_getE ETakenName.xf (ETakenName.no "name" (by decide)) (pe_ix ix_list (pv 8) pe_int (fun _ _ => rfl))) pa_nil))))))))
      (pss_cons (ps_if (pt_cmpR (op_neSame hr.units) (pe_op op_cat (pv 7) (pe_lst (pa_cons (pe_getE ETooGreat.xf (ETooGreat.no "most" (by decide)) (pe_ix ix_list (pv 8) pe_int (fun _ _ => rfl))) (pa_cons (pe_getE EUnbound.xf (EUnbound.no "name" (by decide)) (pe_ix ix_list (pv 8) pe_int (fun _ _ => rfl))) (pa_cons (pe_getE EUnlike.xf (EUnlike.no "what" (by decide)) (pe_ix ix_list (pv 8) pe_int (fun _ _ => rfl))) pa_nil))))) (pe_op op_rep (pe_lst (pa_cons (pv 2) pa_nil)) pe_int) (nomark _)) (pss_one (ps_ret pe_bl)) pss_nil)
      (pss_cons (ps_set (i := 9) scLaw.nd rfl (.inl rfl) (pe_lst (pa_cons (pv 4) (pa_cons (pe_ix ix_list (pv 8) pe_int (fun _ _ => rfl)) (pa_cons (pv 5) (pa_cons (pe_ix ix_list (pv 8) pe_int (fun _ _ => rfl)) (pa_cons (pe_ix ix_list (pv 8) pe_int (fun _ _ => rfl)) (pa_cons (pe_ix ix_list (pv 8) pe_int (fun _ _ => rfl)) (pa_cons (pv 6) (pa_cons (pe_ix ix_list (pv 8) pe_int (fun _ _ => rfl)) (pa_cons (pe_mkE0 (U.x8 8 (by decide)).1 (U.x8 8 (by decide)).2 (by rfl) (T.g 8 (by decide))) pa_nil)))))))))))
      (pss_cons (ps_set (i := 9) scLaw.nd rfl (.inl rfl) (pe_op op_cat (pv 9) (pe_lst (pa_cons (pe_mkE0 (U.x8 9 (by decide)).1 (U.x8 9 (by decide)).2 (by rfl) (T.g 9 (by decide))) (pa_cons (pe_ix ix_list (pv 8) pe_int (fun _ _ => rfl)) (pa_cons (pe_ix ix_list (pv 8) pe_int (fun _ _ => rfl)) (pa_cons (pe_ix ix_list (pv 8) pe_int (fun _ _ => rfl)) (pa_cons (pe_ix ix_list (pv 8) pe_int (fun _ _ => rfl)) pa_nil))))))))
      (pss_cons (ps_for PassesOwn.never rfl (pi_range1 rfl rng (pa_cons pe_int pa_nil)) (pg_name (i := 10) scLaw.nd rfl (Or.inr rfl)) (pss_one (ps_if (pt_cmpR (op_neSame hr.units) (pe_call GK hr1 (by rfl) gK kK bK .nil pass0 (pa_cons (pe_ix ix_list (pv 9) (pv 10) (fun _ _ => rfl)) pa_nil)) (pe_lc (own := [("_law_k", 12)]) (g := gName 12) (tt := tYes) rfl scLaw.nd (pi_range1 rfl rng (pa_cons pe_int pa_nil)) (blkOk_by (N := ["_law_script", "_law_pen_here", "_law_one", "_law_two", "_law_line", "_law_number", "_law_needed", "_law_told", "_law_single", "_law_errors", "_law_place", "_law_plain", "_law_k"]) (sc := defScope sLaw) (by decide +kernel)) (fun _ _ _ _ _ => pg_name (i := 12) scLaw.nd rfl (Or.inl rfl)) (fun _ _ _ _ _ => pts_nil) (fun _ _ _ _ _ => pe_cmpR op_eq (pv 12) (pv 10) (nomark _))) (nomark _)) (pss_one (ps_ret pe_bl)) pss_nil)))
      (pss_cons (ps_set (i := 11) scLaw.nd rfl (.inl rfl) (pe_mkE0 (U.x8 14 (by decide)).1 (U.x8 14 (by decide)).2 (by rfl) (T.g 14 (by decide))))
      (pss_one (ps_ret (pe_and (pe_callB call_isO (by rfl) T.isi PyProof.Rows.boot_isinstance (pa_cons (pv 11) (pa_cons (pe_bltn (v := .ty "ValueError") (by rfl) T.ve (by decide +kernel) rfl) pa_nil))) (pe_one (pe_cmpR (op_eqV hr.units) (pe_call GK hr1 (by rfl) gK kK bK .nil pass0 (pa_cons (pv 11) pa_nil)) (pe_op op_rep (pe_lst (pa_cons pe_bl pa_nil)) pe_int) (nomark _)))))))))))))))))))), ?_⟩
    refine ⟨.ref a, rfl, a, ns, rfl, hS, hlen, fun H1 p l s1 np nl hP => ?_⟩
    have hlen2 : ns.length ≤ 1000 := by omega
    have ppl : p ≠ l := pen_ne hP
    -- one
    refine ⟨.ref p, rfl, (by show 2 ≤ sizeLine; decide), fun t1 m1 => ?_⟩
    have k1 := hP.same (same_upd (o := .tup [.int 1, .int 2]) m1)
    generalize L2.upd H1 t1 (.tup [.int 1, .int 2]) = H2 at k1 ⊢
    refine ⟨(by show 2 ≤ sizeLine; decide), fun t2 m2 => ?_⟩
    have k2 := k1.same (same_upd (o := .lst [.int 1, .int 2]) m2)
    generalize L2.upd H2 t2 (.lst [.int 1, .int 2]) = H3 at k2 ⊢
    refine ⟨(by show 6 ≤ sizeLine; decide), fun t3 m3 => ?_⟩
    have k3 := k2.same (same_upd (o := .lst [.int 3, .str "name", .non, .ref t1, .ref t2, .bl true]) m3)
    have e3 : p ≠ t3 := by
      obtain ⟨⟨_, _, _, e, _⟩, _⟩ := k2
      exact ne_of_none e m3
    refine ⟨p, l, t3, ns, 0, [.int 3, .str "name", .non, .ref t1, .ref t2, .bl true], rfl, k3, hlen2, by decide, .inl (.inl (.inl upd_same)), (by intro z; cases z), (by show 6 ≤ 1000000; decide), Ne.symm e3, fun x H4 hx k4 _ => ?_⟩
    have px : Plain x := by
      simp only [List.mem_cons, List.not_mem_nil, or_false] at hx
      rcases hx with rfl | rfl | rfl | rfl | rfl | rfl
      all_goals first | exact .inl rfl | exact .inr ⟨_, rfl⟩
    -- two
    refine ⟨.ref p, rfl, (by show 1 ≤ sizeLine; decide), fun t4 m4 => ?_⟩
    have k5 := k4.same (same_upd (o := .tup [.str "a"]) m4)
    generalize L2.upd H4 t4 (.tup [.str "a"]) = H5 at k5 ⊢
    refine ⟨(by show 0 ≤ sizeLine; decide), fun t5 m5 => ?_⟩
    have k6 := k5.same (same_upd (o := .lst []) m5)
    generalize L2.upd H5 t5 (.lst []) = H6 at k6 ⊢
    intro t6 m6
    have k7 := k6.same (same_upd (o := .dK []) m6)
    have e6 : (L2.upd H6 t6 (.dK [])) t6 = some (.dK []) := upd_same
    generalize L2.upd H6 t6 (.dK []) = H7 at k7 e6 ⊢
    have e6p : p ≠ t6 := by
      obtain ⟨⟨_, _, _, e, _⟩, _⟩ := k7
      intro z
      rw [z, e6] at e
      cases e
    have e6l : l ≠ t6 := by
      obtain ⟨_, e⟩ := k7
      intro z
      rw [z, e6] at e
      cases e
    refine ⟨e6, [(.inr "a", .int 1)], rfl, (by show 1 ≤ 15; decide), ?_⟩
    have k8 : Pen (L2.upd H7 t6 (.dK (mergeK [] [(.inr "a", .int 1)]))) p l ns 1 := by
      obtain ⟨⟨a1, d1, f1, e, r⟩, e2⟩ := k7
      exact ⟨⟨a1, d1, f1, by rw [upd_ne e6p]; exact e, r⟩, by rw [upd_ne e6l]; exact e2⟩
    generalize L2.upd H7 t6 (.dK (mergeK [] [(.inr "a", .int 1)])) = H8 at k8 ⊢
    refine ⟨(by show 5 ≤ sizeLine; decide), fun t7 m7 => ?_⟩
    have k9 := k8.same (same_upd (o := .lst [.int 0, .str "", .ref t4, .ref t5, .ref t6]) m7)
    have e7 : p ≠ t7 := by
      obtain ⟨⟨_, _, _, e, _⟩, _⟩ := k8
      exact ne_of_none e m7
    refine ⟨p, l, t7, ns, 1, [.int 0, .str "", .ref t4, .ref t5, .ref t6], rfl, k9, hlen2, by decide, .inl (.inl (.inl upd_same)), (by intro z; cases z), (by show 5 ≤ 1000000; decide), Ne.symm e7, fun y B0 hy _ _ => ?_⟩
    have py : Plain y := by
      simp only [List.mem_cons, List.not_mem_nil, or_false] at hy
      rcases hy with rfl | rfl | rfl | rfl | rfl
      all_goals first | exact .inl rfl | exact .inr ⟨_, rfl⟩
    -- line, number, needed
    refine ⟨x, rfl, y, rfl, (by show 2 ≤ 1000; decide), fun aBadLine nBadLine => ⟨aBadLine, [x, y], rfl, rfl, upd_same, fun zBadLine B1 ndBadLine neBadLine kpBadLine eaBadLine edBadLine => ⟨rfl, ?_⟩⟩⟩
    have S1 : Same B0 B1 := made_same nBadLine ndBadLine kpBadLine
    have XBadLine : FldAt B1 aBadLine (C 0) ([("column", y), ("line", x)]) := ⟨zBadLine, eaBadLine, edBadLine⟩
    clear kpBadLine eaBadLine edBadLine ndBadLine neBadLine
    refine ⟨x, rfl, y, rfl, (by show 2 ≤ 1000; decide), fun aBadNumber nBadNumber => ⟨aBadNumber, [x, y], rfl, rfl, upd_same, fun zBadNumber B2 ndBadNumber neBadNumber kpBadNumber eaBadNumber edBadNumber => ⟨rfl, ?_⟩⟩⟩
    have S2 : Same B1 B2 := made_same nBadNumber ndBadNumber kpBadNumber
    have XBadNumber : FldAt B2 aBadNumber (C 2) ([("number", y), ("what", x)]) := ⟨zBadNumber, eaBadNumber, edBadNumber⟩
    replace XBadLine := XBadLine.same S2
    clear kpBadNumber eaBadNumber edBadNumber ndBadNumber neBadNumber
    refine ⟨x, rfl, y, rfl, (by show 2 ≤ 1000; decide), fun aNeeded nNeeded => ⟨aNeeded, [x, y], rfl, rfl, upd_same, fun zNeeded B3 ndNeeded neNeeded kpNeeded eaNeeded edNeeded => ⟨rfl, ?_⟩⟩⟩
    have S3 : Same B2 B3 := made_same nNeeded ndNeeded kpNeeded
    have XNeeded : FldAt B3 aNeeded (C 6) ([("finding", y), ("name", x)]) := ⟨zNeeded, eaNeeded, edNeeded⟩
    replace XBadLine := XBadLine.same S3
    replace XBadNumber := XBadNumber.same S3
    clear kpNeeded eaNeeded edNeeded ndNeeded neNeeded
    refine ⟨_, _, _, rfl, ?_⟩
    -- told
    refine ⟨.ref aBadLine, rfl, aBadLine, _, x, rfl, XBadLine, (look_skip (by decide +kernel) look_hit), .ref aBadLine, rfl, aBadLine, _, y, rfl, XBadLine, look_hit, .ref aBadNumber, rfl, aBadNumber, _, x, rfl, XBadNumber, (look_skip (by decide +kernel) look_hit), .ref aBadNumber, rfl, aBadNumber, _, y, rfl, XBadNumber, look_hit, .ref aNeeded, rfl, aNeeded, _, x, rfl, XNeeded, (look_skip (by decide +kernel) look_hit), .ref aNeeded, rfl, aNeeded, _, y, rfl, XNeeded, look_hit, (by show 6 ≤ sizeLine; decide), fun t7a nt7 => ?_⟩
    have S4 : Same B3 (L2.upd B3 t7a (.lst [x, y, x, y, x, y])) := same_upd nt7
    have t7 : (L2.upd B3 t7a (.lst [x, y, x, y, x, y])) t7a = some (.lst [x, y, x, y, x, y]) := upd_same
    generalize L2.upd B3 t7a (.lst [x, y, x, y, x, y]) = B4 at S4 t7 ⊢
    replace XBadLine := XBadLine.same S4
    replace XBadNumber := XBadNumber.same S4
    replace XNeeded := XNeeded.same S4
    -- the first comparison
    refine ⟨.ref t7a, rfl, x, rfl, y, rfl, (by show 2 ≤ sizeLine; decide), fun q1a nq1 => ?_⟩
    have S5 : Same B4 (L2.upd B4 q1a (.lst [x, y])) := same_upd nq1
    have q1 : (L2.upd B4 q1a (.lst [x, y])) q1a = some (.lst [x, y]) := upd_same
    generalize L2.upd B4 q1a (.lst [x, y]) = B5 at S5 q1 ⊢
    replace XBadLine := XBadLine.same S5
    replace XBadNumber := XBadNumber.same S5
    replace XNeeded := XNeeded.same S5
    replace t7 := S5 _ _ t7
    refine ⟨q1a, 3, [x, y], rfl, rfl, q1, (by decide), (by decide), (by show 2 * 3 ≤ sizeLine; decide), fun q2a nq2 => ?_⟩
    have S6 : Same B5 (L2.upd B5 q2a (.lst ((List.replicate (3 : Int).toNat [x, y]).flatten))) := same_upd nq2
    have q2 : (L2.upd B5 q2a (.lst ((List.replicate (3 : Int).toNat [x, y]).flatten))) q2a = some (.lst [x, y, x, y, x, y]) := upd_same
    generalize L2.upd B5 q2a (.lst ((List.replicate (3 : Int).toNat [x, y]).flatten)) = B6 at S6 q2 ⊢
    replace XBadLine := XBadLine.same S6
    replace XBadNumber := XBadNumber.same S6
    replace XNeeded := XNeeded.same S6
    replace t7 := S6 _ _ t7
    replace q1 := S6 _ _ q1
    refine ⟨t7a, q2a, [x, y, x, y, x, y], rfl, rfl, .inl (.inl t7), .inl (.inl q2), (by
      intro v hv
      simp only [List.mem_cons, List.not_mem_nil, or_false] at hv
      rcases hv with rfl | rfl | rfl | rfl | rfl | rfl
      all_goals first | exact px | exact py), _, rfl, iteF ?_⟩
    clear t7 q1 q2
    refine ⟨x, rfl, (by show 1 ≤ 1000; decide), fun aBadName nBadName => ⟨aBadName, [x], rfl, rfl, upd_same, fun zBadName B7 ndBadName neBadName kpBadName eaBadName edBadName => ⟨rfl, ?_⟩⟩⟩
    have S7 : Same B6 B7 := made_same nBadName ndBadName kpBadName
    have XBadName : FldAt B7 aBadName (C 1) ([("name", x)]) := ⟨zBadName, eaBadName, edBadName⟩
    replace XBadLine := XBadLine.same S7
    replace XBadNumber := XBadNumber.same S7
    replace XNeeded := XNeeded.same S7
    clear kpBadName eaBadName edBadName ndBadName neBadName
    refine ⟨x, rfl, (by show 1 ≤ 1000; decide), fun aBadRow nBadRow => ⟨aBadRow, [x], rfl, rfl, upd_same, fun zBadRow B8 ndBadRow neBadRow kpBadRow eaBadRow edBadRow => ⟨rfl, ?_⟩⟩⟩
    have S8 : Same B7 B8 := made_same nBadRow ndBadRow kpBadRow
    have XBadRow : FldAt B8 aBadRow (C 3) ([("row", x)]) := ⟨zBadRow, eaBadRow, edBadRow⟩
    replace XBadLine := XBadLine.same S8
    replace XBadNumber := XBadNumber.same S8
    replace XNeeded := XNeeded.same S8
    replace XBadName := XBadName.same S8
    clear kpBadRow eaBadRow edBadRow ndBadRow neBadRow
    refine ⟨x, rfl, (by show 1 ≤ 1000; decide), fun aBadStep nBadStep => ⟨aBadStep, [x], rfl, rfl, upd_same, fun zBadStep B9 ndBadStep neBadStep kpBadStep eaBadStep edBadStep => ⟨rfl, ?_⟩⟩⟩
    have S9 : Same B8 B9 := made_same nBadStep ndBadStep kpBadStep
    have XBadStep : FldAt B9 aBadStep (C 4) ([("step", x)]) := ⟨zBadStep, eaBadStep, edBadStep⟩
    replace XBadLine := XBadLine.same S9
    replace XBadNumber := XBadNumber.same S9
    replace XNeeded := XNeeded.same S9
    replace XBadName := XBadName.same S9
    replace XBadRow := XBadRow.same S9
    clear kpBadStep eaBadStep edBadStep ndBadStep neBadStep
    refine ⟨x, rfl, (by show 1 ≤ 1000; decide), fun aBadText nBadText => ⟨aBadText, [x], rfl, rfl, upd_same, fun zBadText B10 ndBadText neBadText kpBadText eaBadText edBadText => ⟨rfl, ?_⟩⟩⟩
    have S10 : Same B9 B10 := made_same nBadText ndBadText kpBadText
    have XBadText : FldAt B10 aBadText (C 5) ([("column", x)]) := ⟨zBadText, eaBadText, edBadText⟩
    replace XBadLine := XBadLine.same S10
    replace XBadNumber := XBadNumber.same S10
    replace XNeeded := XNeeded.same S10
    replace XBadName := XBadName.same S10
    replace XBadRow := XBadRow.same S10
    replace XBadStep := XBadStep.same S10
    clear kpBadText eaBadText edBadText ndBadText neBadText
    refine ⟨x, rfl, (by show 1 ≤ 1000; decide), fun aNoName nNoName => ⟨aNoName, [x], rfl, rfl, upd_same, fun zNoName B11 ndNoName neNoName kpNoName eaNoName edNoName => ⟨rfl, ?_⟩⟩⟩
    have S11 : Same B10 B11 := made_same nNoName ndNoName kpNoName
    have XNoName : FldAt B11 aNoName (C 7) ([("name", x)]) := ⟨zNoName, eaNoName, edNoName⟩
    replace XBadLine := XBadLine.same S11
    replace XBadNumber := XBadNumber.same S11
    replace XNeeded := XNeeded.same S11
    replace XBadName := XBadName.same S11
    replace XBadRow := XBadRow.same S11
    replace XBadStep := XBadStep.same S11
    replace XBadText := XBadText.same S11
    clear kpNoName eaNoName edNoName ndNoName neNoName
    refine ⟨x, rfl, (by show 1 ≤ 1000; decide), fun aTakenName nTakenName => ⟨aTakenName, [x], rfl, rfl, upd_same, fun zTakenName B12 ndTakenName neTakenName kpTakenName eaTakenName edTakenName => ⟨rfl, ?_⟩⟩⟩
    have S12 : Same B11 B12 := made_same nTakenName ndTakenName kpTakenName
    have XTakenName : FldAt B12 aTakenName (C 10) ([("name", x)]) := ⟨zTakenName, eaTakenName, edTakenName⟩
    replace XBadLine := XBadLine.same S12
    replace XBadNumber := XBadNumber.same S12
    replace XNeeded := XNeeded.same S12
    replace XBadName := XBadName.same S12
    replace XBadRow := XBadRow.same S12
    replace XBadStep := XBadStep.same S12
    replace XBadText := XBadText.same S12
    replace XNoName := XNoName.same S12
    clear kpTakenName eaTakenName edTakenName ndTakenName neTakenName
    refine ⟨x, rfl, (by show 1 ≤ 1000; decide), fun aTooGreat nTooGreat => ⟨aTooGreat, [x], rfl, rfl, upd_same, fun zTooGreat B13 ndTooGreat neTooGreat kpTooGreat eaTooGreat edTooGreat => ⟨rfl, ?_⟩⟩⟩
    have S13 : Same B12 B13 := made_same nTooGreat ndTooGreat kpTooGreat
    have XTooGreat : FldAt B13 aTooGreat (C 11) ([("most", x)]) := ⟨zTooGreat, eaTooGreat, edTooGreat⟩
    replace XBadLine := XBadLine.same S13
    replace XBadNumber := XBadNumber.same S13
    replace XNeeded := XNeeded.same S13
    replace XBadName := XBadName.same S13
    replace XBadRow := XBadRow.same S13
    replace XBadStep := XBadStep.same S13
    replace XBadText := XBadText.same S13
    replace XNoName := XNoName.same S13
    replace XTakenName := XTakenName.same S13
    clear kpTooGreat eaTooGreat edTooGreat ndTooGreat neTooGreat
    refine ⟨(by show 7 ≤ sizeLine; decide), fun u1a nu1 => ?_⟩
    have S14 : Same B13 (L2.upd B13 u1a (.lst [.ref aBadName, .ref aBadRow, .ref aBadStep, .ref aBadText, .ref aNoName, .ref aTakenName, .ref aTooGreat])) := same_upd nu1
    have u1 : (L2.upd B13 u1a (.lst [.ref aBadName, .ref aBadRow, .ref aBadStep, .ref aBadText, .ref aNoName, .ref aTakenName, .ref aTooGreat])) u1a = some (.lst [.ref aBadName, .ref aBadRow, .ref aBadStep, .ref aBadText, .ref aNoName, .ref aTakenName, .ref aTooGreat]) := upd_same
    generalize L2.upd B13 u1a (.lst [.ref aBadName, .ref aBadRow, .ref aBadStep, .ref aBadText, .ref aNoName, .ref aTakenName, .ref aTooGreat]) = B14 at S14 u1 ⊢
    replace XBadLine := XBadLine.same S14
    replace XBadNumber := XBadNumber.same S14
    replace XNeeded := XNeeded.same S14
    replace XBadName := XBadName.same S14
    replace XBadRow := XBadRow.same S14
    replace XBadStep := XBadStep.same S14
    replace XBadText := XBadText.same S14
    replace XNoName := XNoName.same S14
    replace XTakenName := XTakenName.same S14
    replace XTooGreat := XTooGreat.same S14
    refine ⟨.ref u1a, rfl, x, rfl, (by show 1 ≤ 1000; decide), fun aUnbound nUnbound => ⟨aUnbound, [x], rfl, rfl, upd_same, fun zUnbound B15 ndUnbound neUnbound kpUnbound eaUnbound edUnbound => ⟨rfl, ?_⟩⟩⟩
    have S15 : Same B14 B15 := made_same nUnbound ndUnbound kpUnbound
    have XUnbound : FldAt B15 aUnbound (C 12) ([("name", x)]) := ⟨zUnbound, eaUnbound, edUnbound⟩
    replace XBadLine := XBadLine.same S15
    replace XBadNumber := XBadNumber.same S15
    replace XNeeded := XNeeded.same S15
    replace XBadName := XBadName.same S15
    replace XBadRow := XBadRow.same S15
    replace XBadStep := XBadStep.same S15
    replace XBadText := XBadText.same S15
    replace XNoName := XNoName.same S15
    replace XTakenName := XTakenName.same S15
    replace XTooGreat := XTooGreat.same S15
    replace u1 := S15 _ _ u1
    clear kpUnbound eaUnbound edUnbound ndUnbound neUnbound
    refine ⟨x, rfl, (by show 1 ≤ 1000; decide), fun aUnlike nUnlike => ⟨aUnlike, [x], rfl, rfl, upd_same, fun zUnlike B16 ndUnlike neUnlike kpUnlike eaUnlike edUnlike => ⟨rfl, ?_⟩⟩⟩
    have S16 : Same B15 B16 := made_same nUnlike ndUnlike kpUnlike
    have XUnlike : FldAt B16 aUnlike (C 13) ([("what", x)]) := ⟨zUnlike, eaUnlike, edUnlike⟩
    replace XBadLine := XBadLine.same S16
    replace XBadNumber := XBadNumber.same S16
    replace XNeeded := XNeeded.same S16
    replace XBadName := XBadName.same S16
    replace XBadRow := XBadRow.same S16
    replace XBadStep := XBadStep.same S16
    replace XBadText := XBadText.same S16
    replace XNoName := XNoName.same S16
    replace XTakenName := XTakenName.same S16
    replace XTooGreat := XTooGreat.same S16
    replace XUnbound := XUnbound.same S16
    replace u1 := S16 _ _ u1
    clear kpUnlike eaUnlike edUnlike ndUnlike neUnlike
    refine ⟨(by show 2 ≤ sizeLine; decide), fun u2a nu2 => ?_⟩
    have S17 : Same B16 (L2.upd B16 u2a (.lst [.ref aUnbound, .ref aUnlike])) := same_upd nu2
    have u2 : (L2.upd B16 u2a (.lst [.ref aUnbound, .ref aUnlike])) u2a = some (.lst [.ref aUnbound, .ref aUnlike]) := upd_same
    generalize L2.upd B16 u2a (.lst [.ref aUnbound, .ref aUnlike]) = B17 at S17 u2 ⊢
    replace XBadLine := XBadLine.same S17
    replace XBadNumber := XBadNumber.same S17
    replace XNeeded := XNeeded.same S17
    replace XBadName := XBadName.same S17
    replace XBadRow := XBadRow.same S17
    replace XBadStep := XBadStep.same S17
    replace XBadText := XBadText.same S17
    replace XNoName := XNoName.same S17
    replace XTakenName := XTakenName.same S17
    replace XTooGreat := XTooGreat.same S17
    replace XUnbound := XUnbound.same S17
    replace XUnlike := XUnlike.same S17
    replace u1 := S17 _ _ u1
    refine ⟨u1a, u2a, _, _, rfl, rfl, u1, u2, (by show 7 + 2 ≤ sizeLine; decide), fun u3a nu3 => ?_⟩
    have S18 : Same B17 (L2.upd B17 u3a (.lst ([.ref aBadName, .ref aBadRow, .ref aBadStep, .ref aBadText, .ref aNoName, .ref aTakenName, .ref aTooGreat] ++ [.ref aUnbound, .ref aUnlike]))) := same_upd nu3
    have u3 : (L2.upd B17 u3a (.lst ([.ref aBadName, .ref aBadRow, .ref aBadStep, .ref aBadText, .ref aNoName, .ref aTakenName, .ref aTooGreat] ++ [.ref aUnbound, .ref aUnlike]))) u3a = some (.lst [.ref aBadName, .ref aBadRow, .ref aBadStep, .ref aBadText, .ref aNoName, .ref aTakenName, .ref aTooGreat, .ref aUnbound, .ref aUnlike]) := upd_same
    generalize L2.upd B17 u3a (.lst ([.ref aBadName, .ref aBadRow, .ref aBadStep, .ref aBadText, .ref aNoName, .ref aTakenName, .ref aTooGreat] ++ [.ref aUnbound, .ref aUnlike])) = B18 at S18 u3 ⊢
    replace XBadLine := XBadLine.same S18
    replace XBadNumber := XBadNumber.same S18
    replace XNeeded := XNeeded.same S18
    replace XBadName := XBadName.same S18
    replace XBadRow := XBadRow.same S18
    replace XBadStep := XBadStep.same S18
    replace XBadText := XBadText.same S18
    replace XNoName := XNoName.same S18
    replace XTakenName := XTakenName.same S18
    replace XTooGreat := XTooGreat.same S18
    replace XUnbound := XUnbound.same S18
    replace XUnlike := XUnlike.same S18
    replace u1 := S18 _ _ u1
    replace u2 := S18 _ _ u2
    clear u1 u2
    refine ⟨.ref u3a, rfl, u3a, _, 0, .ref aBadName, rfl, rfl, .inl (.inl u3), rfl, aBadName, _, x, rfl, XBadName, look_hit, .ref u3a, rfl, u3a, _, 1, .ref aBadRow, rfl, rfl, .inl (.inl u3), rfl, aBadRow, _, x, rfl, XBadRow, look_hit, .ref u3a, rfl, u3a, _, 2, .ref aBadStep, rfl, rfl, .inl (.inl u3), rfl, aBadStep, _, x, rfl, XBadStep, look_hit, .ref u3a, rfl, u3a, _, 3, .ref aBadText, rfl, rfl, .inl (.inl u3), rfl, aBadText, _, x, rfl, XBadText, look_hit, .ref u3a, rfl, u3a, _, 4, .ref aNoName, rfl, rfl, .inl (.inl u3), rfl, aNoName, _, x, rfl, XNoName, look_hit, .ref u3a, rfl, u3a, _, 5, .ref aTakenName, rfl, rfl, .inl (.inl u3), rfl, aTakenName, _, x, rfl, XTakenName, look_hit, (by show 6 ≤ sizeLine; decide), fun w7a nw7 => ?_⟩
    have S19 : Same B18 (L2.upd B18 w7a (.lst [x, x, x, x, x, x])) := same_upd nw7
    have w7 : (L2.upd B18 w7a (.lst [x, x, x, x, x, x])) w7a = some (.lst [x, x, x, x, x, x]) := upd_same
    generalize L2.upd B18 w7a (.lst [x, x, x, x, x, x]) = B19 at S19 w7 ⊢
    replace XBadLine := XBadLine.same S19
    replace XBadNumber := XBadNumber.same S19
    replace XNeeded := XNeeded.same S19
    replace XBadName := XBadName.same S19
    replace XBadRow := XBadRow.same S19
    replace XBadStep := XBadStep.same S19
    replace XBadText := XBadText.same S19
    replace XNoName := XNoName.same S19
    replace XTakenName := XTakenName.same S19
    replace XTooGreat := XTooGreat.same S19
    replace XUnbound := XUnbound.same S19
    replace XUnlike := XUnlike.same S19
    replace u3 := S19 _ _ u3
    refine ⟨.ref w7a, rfl, .ref u3a, rfl, u3a, _, 6, .ref aTooGreat, rfl, rfl, .inl (.inl u3), rfl, aTooGreat, _, x, rfl, XTooGreat, look_hit, .ref u3a, rfl, u3a, _, 7, .ref aUnbound, rfl, rfl, .inl (.inl u3), rfl, aUnbound, _, x, rfl, XUnbound, look_hit, .ref u3a, rfl, u3a, _, 8, .ref aUnlike, rfl, rfl, .inl (.inl u3), rfl, aUnlike, _, x, rfl, XUnlike, look_hit, (by show 3 ≤ sizeLine; decide), fun w8a nw8 => ?_⟩
    have S20 : Same B19 (L2.upd B19 w8a (.lst [x, x, x])) := same_upd nw8
    have w8 : (L2.upd B19 w8a (.lst [x, x, x])) w8a = some (.lst [x, x, x]) := upd_same
    generalize L2.upd B19 w8a (.lst [x, x, x]) = B20 at S20 w8 ⊢
    replace XBadLine := XBadLine.same S20
    replace XBadNumber := XBadNumber.same S20
    replace XNeeded := XNeeded.same S20
    replace XBadName := XBadName.same S20
    replace XBadRow := XBadRow.same S20
    replace XBadStep := XBadStep.same S20
    replace XBadText := XBadText.same S20
    replace XNoName := XNoName.same S20
    replace XTakenName := XTakenName.same S20
    replace XTooGreat := XTooGreat.same S20
    replace XUnbound := XUnbound.same S20
    replace XUnlike := XUnlike.same S20
    replace u3 := S20 _ _ u3
    replace w7 := S20 _ _ w7
    refine ⟨w7a, w8a, _, _, rfl, rfl, w7, w8, (by show 6 + 3 ≤ sizeLine; decide), fun w9a nw9 => ?_⟩
    have S21 : Same B20 (L2.upd B20 w9a (.lst ([x, x, x, x, x, x] ++ [x, x, x]))) := same_upd nw9
    have w9 : (L2.upd B20 w9a (.lst ([x, x, x, x, x, x] ++ [x, x, x]))) w9a = some (.lst [x, x, x, x, x, x, x, x, x]) := upd_same
    generalize L2.upd B20 w9a (.lst ([x, x, x, x, x, x] ++ [x, x, x])) = B21 at S21 w9 ⊢
    replace XBadLine := XBadLine.same S21
    replace XBadNumber := XBadNumber.same S21
    replace XNeeded := XNeeded.same S21
    replace XBadName := XBadName.same S21
    replace XBadRow := XBadRow.same S21
    replace XBadStep := XBadStep.same S21
    replace XBadText := XBadText.same S21
    replace XNoName := XNoName.same S21
    replace XTakenName := XTakenName.same S21
    replace XTooGreat := XTooGreat.same S21
    replace XUnbound := XUnbound.same S21
    replace XUnlike := XUnlike.same S21
    replace u3 := S21 _ _ u3
    replace w7 := S21 _ _ w7
    replace w8 := S21 _ _ w8
    refine ⟨x, rfl, (by show 1 ≤ sizeLine; decide), fun r1a nr1 => ?_⟩
    have S22 : Same B21 (L2.upd B21 r1a (.lst [x])) := same_upd nr1
    have r1 : (L2.upd B21 r1a (.lst [x])) r1a = some (.lst [x]) := upd_same
    generalize L2.upd B21 r1a (.lst [x]) = B22 at S22 r1 ⊢
    replace XBadLine := XBadLine.same S22
    replace XBadNumber := XBadNumber.same S22
    replace XNeeded := XNeeded.same S22
    replace XBadName := XBadName.same S22
    replace XBadRow := XBadRow.same S22
    replace XBadStep := XBadStep.same S22
    replace XBadText := XBadText.same S22
    replace XNoName := XNoName.same S22
    replace XTakenName := XTakenName.same S22
    replace XTooGreat := XTooGreat.same S22
    replace XUnbound := XUnbound.same S22
    replace XUnlike := XUnlike.same S22
    replace u3 := S22 _ _ u3
    replace w7 := S22 _ _ w7
    replace w8 := S22 _ _ w8
    replace w9 := S22 _ _ w9
    refine ⟨r1a, 9, [x], rfl, rfl, r1, (by decide), (by decide), (by show 1 * 9 ≤ sizeLine; decide), fun r2a nr2 => ?_⟩
    have S23 : Same B22 (L2.upd B22 r2a (.lst ((List.replicate (9 : Int).toNat [x]).flatten))) := same_upd nr2
    have r2 : (L2.upd B22 r2a (.lst ((List.replicate (9 : Int).toNat [x]).flatten))) r2a = some (.lst [x, x, x, x, x, x, x, x, x]) := upd_same
    generalize L2.upd B22 r2a (.lst ((List.replicate (9 : Int).toNat [x]).flatten)) = B23 at S23 r2 ⊢
    replace XBadLine := XBadLine.same S23
    replace XBadNumber := XBadNumber.same S23
    replace XNeeded := XNeeded.same S23
    replace XBadName := XBadName.same S23
    replace XBadRow := XBadRow.same S23
    replace XBadStep := XBadStep.same S23
    replace XBadText := XBadText.same S23
    replace XNoName := XNoName.same S23
    replace XTakenName := XTakenName.same S23
    replace XTooGreat := XTooGreat.same S23
    replace XUnbound := XUnbound.same S23
    replace XUnlike := XUnlike.same S23
    replace u3 := S23 _ _ u3
    replace w7 := S23 _ _ w7
    replace w8 := S23 _ _ w8
    replace w9 := S23 _ _ w9
    replace r1 := S23 _ _ r1
    refine ⟨w9a, r2a, [x, x, x, x, x, x, x, x, x], rfl, rfl, .inl (.inl w9), .inl (.inl r2), (by
      intro v hv
      simp only [List.mem_cons, List.not_mem_nil, or_false] at hv
      rcases hv with rfl | rfl | rfl | rfl | rfl | rfl | rfl | rfl | rfl
      all_goals exact px), _, rfl, iteF ?_⟩
    clear w7 w8 w9 r1 r2
    -- errors
    refine ⟨.ref aBadLine, rfl, .ref u3a, rfl, u3a, _, 0, .ref aBadName, rfl, rfl, .inl (.inl u3), rfl, .ref aBadNumber, rfl, .ref u3a, rfl, u3a, _, 1, .ref aBadRow, rfl, rfl, .inl (.inl u3), rfl, .ref u3a, rfl, u3a, _, 2, .ref aBadStep, rfl, rfl, .inl (.inl u3), rfl, .ref u3a, rfl, u3a, _, 3, .ref aBadText, rfl, rfl, .inl (.inl u3), rfl, .ref aNeeded, rfl, .ref u3a, rfl, u3a, _, 4, .ref aNoName, rfl, rfl, .inl (.inl u3), rfl, ?_⟩
    intro aNothingToRedo nNothingToRedo
    have S24 : Same B23 (L2.upd B23 aNothingToRedo (exo aNothingToRedo (C 8) none)) := same_upd nNothingToRedo
    have XNothingToRedo : ErrAt (L2.upd B23 aNothingToRedo (exo aNothingToRedo (C 8) none)) aNothingToRedo (C 8) none := ⟨upd_same, fun dd e => by cases e⟩
    generalize L2.upd B23 aNothingToRedo (exo aNothingToRedo (C 8) none) = B24 at S24 XNothingToRedo ⊢
    replace XBadLine := XBadLine.same S24
    replace XBadNumber := XBadNumber.same S24
    replace XNeeded := XNeeded.same S24
    replace XBadName := XBadName.same S24
    replace XBadRow := XBadRow.same S24
    replace XBadStep := XBadStep.same S24
    replace XBadText := XBadText.same S24
    replace XNoName := XNoName.same S24
    replace XTakenName := XTakenName.same S24
    replace XTooGreat := XTooGreat.same S24
    replace XUnbound := XUnbound.same S24
    replace XUnlike := XUnlike.same S24
    replace u3 := S24 _ _ u3
    refine ⟨(by show 9 ≤ sizeLine; decide), fun g1a ng1 => ?_⟩
    have S25 : Same B24 (L2.upd B24 g1a (.lst [.ref aBadLine, .ref aBadName, .ref aBadNumber, .ref aBadRow, .ref aBadStep, .ref aBadText, .ref aNeeded, .ref aNoName, .ref aNothingToRedo])) := same_upd ng1
    have g1 : (L2.upd B24 g1a (.lst [.ref aBadLine, .ref aBadName, .ref aBadNumber, .ref aBadRow, .ref aBadStep, .ref aBadText, .ref aNeeded, .ref aNoName, .ref aNothingToRedo])) g1a = some (.lst [.ref aBadLine, .ref aBadName, .ref aBadNumber, .ref aBadRow, .ref aBadStep, .ref aBadText, .ref aNeeded, .ref aNoName, .ref aNothingToRedo]) := upd_same
    generalize L2.upd B24 g1a (.lst [.ref aBadLine, .ref aBadName, .ref aBadNumber, .ref aBadRow, .ref aBadStep, .ref aBadText, .ref aNeeded, .ref aNoName, .ref aNothingToRedo]) = B25 at S25 g1 ⊢
    replace XBadLine := XBadLine.same S25
    replace XBadNumber := XBadNumber.same S25
    replace XNeeded := XNeeded.same S25
    replace XBadName := XBadName.same S25
    replace XBadRow := XBadRow.same S25
    replace XBadStep := XBadStep.same S25
    replace XBadText := XBadText.same S25
    replace XNoName := XNoName.same S25
    replace XTakenName := XTakenName.same S25
    replace XTooGreat := XTooGreat.same S25
    replace XUnbound := XUnbound.same S25
    replace XUnlike := XUnlike.same S25
    replace XNothingToRedo := XNothingToRedo.same S25
    replace u3 := S25 _ _ u3
    refine ⟨.ref g1a, rfl, ?_⟩
    intro aNothingToUndo nNothingToUndo
    have S26 : Same B25 (L2.upd B25 aNothingToUndo (exo aNothingToUndo (C 9) none)) := same_upd nNothingToUndo
    have XNothingToUndo : ErrAt (L2.upd B25 aNothingToUndo (exo aNothingToUndo (C 9) none)) aNothingToUndo (C 9) none := ⟨upd_same, fun dd e => by cases e⟩
    generalize L2.upd B25 aNothingToUndo (exo aNothingToUndo (C 9) none) = B26 at S26 XNothingToUndo ⊢
    replace XBadLine := XBadLine.same S26
    replace XBadNumber := XBadNumber.same S26
    replace XNeeded := XNeeded.same S26
    replace XBadName := XBadName.same S26
    replace XBadRow := XBadRow.same S26
    replace XBadStep := XBadStep.same S26
    replace XBadText := XBadText.same S26
    replace XNoName := XNoName.same S26
    replace XTakenName := XTakenName.same S26
    replace XTooGreat := XTooGreat.same S26
    replace XUnbound := XUnbound.same S26
    replace XUnlike := XUnlike.same S26
    replace XNothingToRedo := XNothingToRedo.same S26
    replace u3 := S26 _ _ u3
    replace g1 := S26 _ _ g1
    refine ⟨.ref u3a, rfl, u3a, _, 5, .ref aTakenName, rfl, rfl, .inl (.inl u3), rfl, .ref u3a, rfl, u3a, _, 6, .ref aTooGreat, rfl, rfl, .inl (.inl u3), rfl, .ref u3a, rfl, u3a, _, 7, .ref aUnbound, rfl, rfl, .inl (.inl u3), rfl, .ref u3a, rfl, u3a, _, 8, .ref aUnlike, rfl, rfl, .inl (.inl u3), rfl, (by show 5 ≤ sizeLine; decide), fun g2a ng2 => ?_⟩
    have S27 : Same B26 (L2.upd B26 g2a (.lst [.ref aNothingToUndo, .ref aTakenName, .ref aTooGreat, .ref aUnbound, .ref aUnlike])) := same_upd ng2
    have g2 : (L2.upd B26 g2a (.lst [.ref aNothingToUndo, .ref aTakenName, .ref aTooGreat, .ref aUnbound, .ref aUnlike])) g2a = some (.lst [.ref aNothingToUndo, .ref aTakenName, .ref aTooGreat, .ref aUnbound, .ref aUnlike]) := upd_same
    generalize L2.upd B26 g2a (.lst [.ref aNothingToUndo, .ref aTakenName, .ref aTooGreat, .ref aUnbound, .ref aUnlike]) = B27 at S27 g2 ⊢
    replace XBadLine := XBadLine.same S27
    replace XBadNumber := XBadNumber.same S27
    replace XNeeded := XNeeded.same S27
    replace XBadName := XBadName.same S27
    replace XBadRow := XBadRow.same S27
    replace XBadStep := XBadStep.same S27
    replace XBadText := XBadText.same S27
    replace XNoName := XNoName.same S27
    replace XTakenName := XTakenName.same S27
    replace XTooGreat := XTooGreat.same S27
    replace XUnbound := XUnbound.same S27
    replace XUnlike := XUnlike.same S27
    replace XNothingToRedo := XNothingToRedo.same S27
    replace XNothingToUndo := XNothingToUndo.same S27
    replace u3 := S27 _ _ u3
    replace g1 := S27 _ _ g1
    refine ⟨g1a, g2a, _, _, rfl, rfl, g1, g2, (by show 9 + 5 ≤ sizeLine; decide), fun g3a ng3 => ?_⟩
    have S28 : Same B27 (L2.upd B27 g3a (.lst ([.ref aBadLine, .ref aBadName, .ref aBadNumber, .ref aBadRow, .ref aBadStep, .ref aBadText, .ref aNeeded, .ref aNoName, .ref aNothingToRedo] ++ [.ref aNothingToUndo, .ref aTakenName, .ref aTooGreat, .ref aUnbound, .ref aUnlike]))) := same_upd ng3
    have g3 : (L2.upd B27 g3a (.lst ([.ref aBadLine, .ref aBadName, .ref aBadNumber, .ref aBadRow, .ref aBadStep, .ref aBadText, .ref aNeeded, .ref aNoName, .ref aNothingToRedo] ++ [.ref aNothingToUndo, .ref aTakenName, .ref aTooGreat, .ref aUnbound, .ref aUnlike]))) g3a = some (.lst [.ref aBadLine, .ref aBadName, .ref aBadNumber, .ref aBadRow, .ref aBadStep, .ref aBadText, .ref aNeeded, .ref aNoName, .ref aNothingToRedo, .ref aNothingToUndo, .ref aTakenName, .ref aTooGreat, .ref aUnbound, .ref aUnlike]) := upd_same
    generalize L2.upd B27 g3a (.lst ([.ref aBadLine, .ref aBadName, .ref aBadNumber, .ref aBadRow, .ref aBadStep, .ref aBadText, .ref aNeeded, .ref aNoName, .ref aNothingToRedo] ++ [.ref aNothingToUndo, .ref aTakenName, .ref aTooGreat, .ref aUnbound, .ref aUnlike])) = B28 at S28 g3 ⊢
    replace XBadLine := XBadLine.same S28
    replace XBadNumber := XBadNumber.same S28
    replace XNeeded := XNeeded.same S28
    replace XBadName := XBadName.same S28
    replace XBadRow := XBadRow.same S28
    replace XBadStep := XBadStep.same S28
    replace XBadText := XBadText.same S28
    replace XNoName := XNoName.same S28
    replace XTakenName := XTakenName.same S28
    replace XTooGreat := XTooGreat.same S28
    replace XUnbound := XUnbound.same S28
    replace XUnlike := XUnlike.same S28
    replace XNothingToRedo := XNothingToRedo.same S28
    replace XNothingToUndo := XNothingToUndo.same S28
    replace u3 := S28 _ _ u3
    replace g1 := S28 _ _ g1
    replace g2 := S28 _ _ g2
    clear g1 g2
    have each : ∀ i, i < 14 → ∃ b d, ([.ref aBadLine, .ref aBadName, .ref aBadNumber, .ref aBadRow, .ref aBadStep, .ref aBadText, .ref aNeeded, .ref aNoName, .ref aNothingToRedo, .ref aNothingToUndo, .ref aTakenName, .ref aTooGreat, .ref aUnbound, .ref aUnlike] : List V)[i]? = some (.ref b) ∧ ErrAt B28 b (C i) d := by
      obtain ⟨yBadLine, YBadLine⟩ := fld_err XBadLine
      obtain ⟨yBadName, YBadName⟩ := fld_err XBadName
      obtain ⟨yBadNumber, YBadNumber⟩ := fld_err XBadNumber
      obtain ⟨yBadRow, YBadRow⟩ := fld_err XBadRow
      obtain ⟨yBadStep, YBadStep⟩ := fld_err XBadStep
      obtain ⟨yBadText, YBadText⟩ := fld_err XBadText
      obtain ⟨yNeeded, YNeeded⟩ := fld_err XNeeded
      obtain ⟨yNoName, YNoName⟩ := fld_err XNoName
      obtain ⟨yTakenName, YTakenName⟩ := fld_err XTakenName
      obtain ⟨yTooGreat, YTooGreat⟩ := fld_err XTooGreat
      obtain ⟨yUnbound, YUnbound⟩ := fld_err XUnbound
      obtain ⟨yUnlike, YUnlike⟩ := fld_err XUnlike
      intro i hi
      match i, hi with
      | 0, _ => exact ⟨_, _, rfl, YBadLine⟩
      | 1, _ => exact ⟨_, _, rfl, YBadName⟩
      | 2, _ => exact ⟨_, _, rfl, YBadNumber⟩
      | 3, _ => exact ⟨_, _, rfl, YBadRow⟩
      | 4, _ => exact ⟨_, _, rfl, YBadStep⟩
      | 5, _ => exact ⟨_, _, rfl, YBadText⟩
      | 6, _ => exact ⟨_, _, rfl, YNeeded⟩
      | 7, _ => exact ⟨_, _, rfl, YNoName⟩
      | 8, _ => exact ⟨_, _, rfl, XNothingToRedo⟩
      | 9, _ => exact ⟨_, _, rfl, XNothingToUndo⟩
      | 10, _ => exact ⟨_, _, rfl, YTakenName⟩
      | 11, _ => exact ⟨_, _, rfl, YTooGreat⟩
      | 12, _ => exact ⟨_, _, rfl, YUnbound⟩
      | 13, _ => exact ⟨_, _, rfl, YUnlike⟩
    refine ⟨14, rfl, by decide, by decide, for_range (n := 14) (fun i σ H => ∃ v10 : Option V, σ = [some (.ref a), some (.ref p), some x, some y, some (.ref aBadLine), some (.ref aBadNumber), some (.ref aNeeded), some (.ref w7a), some (.ref u3a), some (.ref g3a), v10, none, none] ∧ Same B28 H)
      ⟨none, rfl, Same.refl _⟩ ?_ ?_⟩
    · rintro i σ H9 hi ⟨v10, rfl, s9⟩
      obtain ⟨b, d, eb, hE⟩ := each i hi
      have g9 := s9 _ _ g3
      have hE9 := hE.same s9
      refine ⟨.ref g3a, rfl, .int (0 + (i : Int)), rfl, g3a, _, _, .ref b, rfl, rfl, .inl (.inl g9), (by rw [Int.zero_add]; exact atI_nat eb), b, i, d, rfl, by omega, hE9, fun H10 p1 s10 np1 hp1 => ?_⟩
      refine ⟨14, rfl, by decide, by decide, fun D nD => lc_range (n := 14) (fun j H => H D = some (.lst ((flags i).take j)) ∧ ∀ c u, c ≠ D → H10 c = some u → H c = some u) ⟨by rw [upd_same]; rfl, fun c u hc e => by rw [upd_ne hc]; exact e⟩ ?_ ?_⟩
      · rintro j H11 hj ⟨hD, hk⟩
        refine ⟨rfl, .int (0 + (j : Int)), rfl, .int (0 + (i : Int)), rfl, rfl, _, hD, ?_, ?_, ?_⟩
        · exact Nat.lt_of_le_of_lt (List.length_take_le ..) (small1000 (by omega))
        · rw [upd_same, List.take_add_one, flags_at i j hj]
          have e : decide (V.int (0 + (j : Int)) = V.int (0 + (i : Int))) = decide (i = j) := by
            by_cases h : i = j
            · subst h
              simp
            · have h2 : ¬ (V.int (0 + (j : Int)) = V.int (0 + (i : Int))) := fun z => h (by
                have z2 := V.int.inj z
                omega)
              rw [decide_eq_false h, decide_eq_false h2]
          rw [e]
          rfl
        · intro c u hc e
          rw [upd_ne hc]
          exact hk c u hc e
      · rintro H11 ⟨hD, hk⟩
        have np : p1 ≠ D := ne_of_none hp1 nD
        have full : (flags i).take 14 = flags i := List.take_of_length_le (by rw [flags_len]; omega)
        rw [full] at hD
        refine ⟨p1, D, flags i, rfl, rfl, .inl (.inl (hk _ _ np hp1)), .inl (.inl hD), fun v hv => .inl (flags_flat i v hv), _, rfl, iteF ?_⟩
        exact ⟨some (.int (0 + (i : Int))), rfl, fun c u e => hk _ _ (ne_of_none (s10 _ _ (s9 _ _ e)) nD) (s10 _ _ (s9 _ _ e))⟩
    · rintro σ H9 ⟨v10, rfl, s9⟩
      intro b nb
      have E9 : ErrAt (L2.upd H9 b (exo b (C 14) none)) b (C 14) none := ⟨upd_same, fun dd e => by cases e⟩
      generalize L2.upd H9 b (exo b (C 14) none) = H10 at E9 ⊢
      refine ⟨.ref b, rfl, b, C 14, none, .ty "ValueError", .type "ValueError", true, rfl, E9.ob, E9.di, .ty _, T.xc 14 (by decide), T.kV 14 (by decide), _, rfl, iteT ?_⟩
      refine ⟨.ref b, rfl, b, 14, none, rfl, by decide, E9, fun H11 p1 s11 np1 hp1 => ?_⟩
      refine ⟨(by show 1 ≤ sizeLine; decide), fun m1' o1 => ?_⟩
      have h12 : (L2.upd H11 m1' (.lst [.bl false])) p1 = some (.lst (flags 14)) := same_upd o1 _ _ hp1
      have k12 : (L2.upd H11 m1' (.lst [.bl false])) m1' = some (.lst [.bl false]) := upd_same
      generalize L2.upd H11 m1' (.lst [.bl false]) = H12 at h12 k12 ⊢
      refine ⟨m1', 14, [.bl false], rfl, rfl, k12, (by decide), (by decide), (by show 1 * 14 ≤ sizeLine; decide), fun m2' o2 => ?_⟩
      have h13 : (L2.upd H12 m2' (.lst (List.replicate (14 : Int).toNat [V.bl false]).flatten)) p1 = some (.lst (flags 14)) := same_upd o2 _ _ h12
      have k13 : (L2.upd H12 m2' (.lst (List.replicate (14 : Int).toNat [V.bl false]).flatten)) m2' = some (.lst (flags 14)) := by rw [upd_same, flags_no]; rfl
      exact ⟨1, by decide, .inl ⟨p1, m2', flags 14, flags 14, rfl, rfl, .inl (.inl h13), .inl (.inl k13), pair_same _ (flags_flat 14)⟩, q _⟩
end
end Ev

namespace Ev
open PySem PySem.Spec PyProof.Rows L2 Pn
/-- what isinstance asks of a class of exceptions, in one look -/
def exB (K : PySem.W.Frag) (D : Addr) : Bool :=
  decide (PySem.W.findIn K (.ref D) "__class__" = some (some (.builtin "object.__class__"))) && (decide (PySem.W.specialIn K (.builtin "object.__class__") "__get__" = some (some (.builtin "getset_descriptor.__get__"))) &&
  (decide (PySem.W.takesIn K (.builtin "object.__class__") = some true) && (decide (PySem.W.mroIn K D (.type "object") = some true) && (decide (PySem.W.findIn K (.ref D) "__setattr__" = some (some (.builtin "object.__setattr__"))) &&
  (decide (PySem.W.typeIn K (.ref D) = some (.type "type")) && (PySem.W.keepIn K (.ref D) && xfB K D))))))
theorem exB_ok {K : PySem.W.Frag} {D : Addr} (h : exB K D = true) : ExcC K D ∧ XfC K D ∧ PySem.W.findIn K (.ref D) "__setattr__" = some (some (.builtin "object.__setattr__")) ∧ PySem.W.typeIn K (.ref D) = some (.type "type") ∧ PySem.W.keepIn K (.ref D) = true := by
  unfold exB at h
  simp only [Bool.and_eq_true, decide_eq_true_eq] at h
  obtain ⟨h1, h2, h3, h4, h5, h6, h7, h8⟩ := h
  have x := xfB_ok h8
  exact ⟨⟨x.ga, x.gg, x.exC, x.hdC, h1, h2, h3, h4⟩, x, h5, h6, h7⟩
def kitB (K : PySem.W.Frag) (C : Nat → Addr) : Bool := (List.range 15).all fun j =>
  exB K (C j) && (decide (PySem.W.kitOne K (.ref (C j)) (.ref (C 14)) = some true) && (decide (PySem.W.kitOne K (.ref (C j)) (.type "ValueError") = some true) &&
  ((List.range 14).all fun i => decide (PySem.W.kitOne K (.ref (C j)) (.ref (C i)) = some (decide (j = i))))))
def noB (K : PySem.W.Frag) (C : Addr) (fs : List Str) : Bool := fs.all fun x => decide (PySem.W.findIn K (.ref C) x = some none)
theorem noB_ok {K : PySem.W.Frag} {C : Addr} {fs : List Str} (h : noB K C fs = true) : ∀ x ∈ fs, PySem.W.findIn K (.ref C) x = some none := fun x hx => of_decide_eq_true (List.all_eq_true.mp h x hx)

theorem all_mk {l : PySem.W.OpenLaw} {w : World} {K : PySem.W.Frag} {h : Heap} {mg : Str → Option Value} {fa : Addr} (X : K.In h) (G : h.Ns mainGlobals mg) (hfa : mg "law" = some (.ref fa))
    {c0 : Addr}
    {c1 : Addr}
    {c2 : Addr}
    {c3 : Addr}
    {c4 : Addr}
    {c5 : Addr}
    {c6 : Addr}
    {c7 : Addr}
    {c8 : Addr}
    {c9 : Addr}
    {c10 : Addr}
    {c11 : Addr}
    {c12 : Addr}
    {c13 : Addr}
    {c14 : Addr}
    {f0 N0 : Addr} {nm0 q0 : Str} {bs0 bm0 sub0 : List Value} {sn0 : List Str} {ab0 : Bool} {col0 : Option Bool} {dd0 : Option Addr} {u0 v0 w0 x0 y0 : Option Value} {od0 an0 : Option Addr} {sl0 : Array (Option Value)} {oc0 kV0 dc0 pm0 cd0 ct0 : Value}
    {f1 N1 : Addr} {nm1 q1 : Str} {bs1 bm1 sub1 : List Value} {sn1 : List Str} {ab1 : Bool} {col1 : Option Bool} {dd1 : Option Addr} {u1 v1 w1 x1 y1 : Option Value} {od1 an1 : Option Addr} {sl1 : Array (Option Value)} {oc1 kV1 dc1 pm1 cd1 ct1 : Value}
    {f2 N2 : Addr} {nm2 q2 : Str} {bs2 bm2 sub2 : List Value} {sn2 : List Str} {ab2 : Bool} {col2 : Option Bool} {dd2 : Option Addr} {u2 v2 w2 x2 y2 : Option Value} {od2 an2 : Option Addr} {sl2 : Array (Option Value)} {oc2 kV2 dc2 pm2 cd2 ct2 : Value}
    {f3 N3 : Addr} {nm3 q3 : Str} {bs3 bm3 sub3 : List Value} {sn3 : List Str} {ab3 : Bool} {col3 : Option Bool} {dd3 : Option Addr} {u3 v3 w3 x3 y3 : Option Value} {od3 an3 : Option Addr} {sl3 : Array (Option Value)} {oc3 kV3 dc3 pm3 cd3 ct3 : Value}
    {f4 N4 : Addr} {nm4 q4 : Str} {bs4 bm4 sub4 : List Value} {sn4 : List Str} {ab4 : Bool} {col4 : Option Bool} {dd4 : Option Addr} {u4 v4 w4 x4 y4 : Option Value} {od4 an4 : Option Addr} {sl4 : Array (Option Value)} {oc4 kV4 dc4 pm4 cd4 ct4 : Value}
    {f5 N5 : Addr} {nm5 q5 : Str} {bs5 bm5 sub5 : List Value} {sn5 : List Str} {ab5 : Bool} {col5 : Option Bool} {dd5 : Option Addr} {u5 v5 w5 x5 y5 : Option Value} {od5 an5 : Option Addr} {sl5 : Array (Option Value)} {oc5 kV5 dc5 pm5 cd5 ct5 : Value}
    {f6 N6 : Addr} {nm6 q6 : Str} {bs6 bm6 sub6 : List Value} {sn6 : List Str} {ab6 : Bool} {col6 : Option Bool} {dd6 : Option Addr} {u6 v6 w6 x6 y6 : Option Value} {od6 an6 : Option Addr} {sl6 : Array (Option Value)} {oc6 kV6 dc6 pm6 cd6 ct6 : Value}
    {f7 N7 : Addr} {nm7 q7 : Str} {bs7 bm7 sub7 : List Value} {sn7 : List Str} {ab7 : Bool} {col7 : Option Bool} {dd7 : Option Addr} {u7 v7 w7 x7 y7 : Option Value} {od7 an7 : Option Addr} {sl7 : Array (Option Value)} {oc7 kV7 dc7 pm7 cd7 ct7 : Value}
    {f10 N10 : Addr} {nm10 q10 : Str} {bs10 bm10 sub10 : List Value} {sn10 : List Str} {ab10 : Bool} {col10 : Option Bool} {dd10 : Option Addr} {u10 v10 w10 x10 y10 : Option Value} {od10 an10 : Option Addr} {sl10 : Array (Option Value)} {oc10 kV10 dc10 pm10 cd10 ct10 : Value}
    {f11 N11 : Addr} {nm11 q11 : Str} {bs11 bm11 sub11 : List Value} {sn11 : List Str} {ab11 : Bool} {col11 : Option Bool} {dd11 : Option Addr} {u11 v11 w11 x11 y11 : Option Value} {od11 an11 : Option Addr} {sl11 : Array (Option Value)} {oc11 kV11 dc11 pm11 cd11 ct11 : Value}
    {f12 N12 : Addr} {nm12 q12 : Str} {bs12 bm12 sub12 : List Value} {sn12 : List Str} {ab12 : Bool} {col12 : Option Bool} {dd12 : Option Addr} {u12 v12 w12 x12 y12 : Option Value} {od12 an12 : Option Addr} {sl12 : Array (Option Value)} {oc12 kV12 dc12 pm12 cd12 ct12 : Value}
    {f13 N13 : Addr} {nm13 q13 : Str} {bs13 bm13 sub13 : List Value} {sn13 : List Str} {ab13 : Bool} {col13 : Option Bool} {dd13 : Option Addr} {u13 v13 w13 x13 y13 : Option Value} {od13 an13 : Option Addr} {sl13 : Array (Option Value)} {oc13 kV13 dc13 pm13 cd13 ct13 : Value}
    {fP : Addr} {odP anP : Option Addr} {slP : Array (Option Value)} {ocP kVP dcP pmP cdP ctP : Value}
    {fD : Addr} {odD anD : Option Addr} {slD : Array (Option Value)} {ocD kVD dcD pmD cdD ctD : Value}
    {fG : Addr} {odG anG : Option Addr} {slG : Array (Option Value)} {ocG kVG dcG pmG cdG ctG : Value}
    {fK : Addr} {odK anK : Option Addr} {slK : Array (Option Value)} {ocK kVK dcK pmK cdK ctK : Value}
    {fL : Addr} {odL anL : Option Addr} {slL : Array (Option Value)} {ocL kVL dcL pmL cdL ctL : Value}
    (a0 : PySem.W.nsIn K mainGlobals "BadLine" = some (some (.ref c0)))
    (a1 : PySem.W.nsIn K mainGlobals "BadName" = some (some (.ref c1)))
    (a2 : PySem.W.nsIn K mainGlobals "BadNumber" = some (some (.ref c2)))
    (a3 : PySem.W.nsIn K mainGlobals "BadRow" = some (some (.ref c3)))
    (a4 : PySem.W.nsIn K mainGlobals "BadStep" = some (some (.ref c4)))
    (a5 : PySem.W.nsIn K mainGlobals "BadText" = some (some (.ref c5)))
    (a6 : PySem.W.nsIn K mainGlobals "Needed" = some (some (.ref c6)))
    (a7 : PySem.W.nsIn K mainGlobals "NoName" = some (some (.ref c7)))
    (a8 : PySem.W.nsIn K mainGlobals "NothingToRedo" = some (some (.ref c8)))
    (a9 : PySem.W.nsIn K mainGlobals "NothingToUndo" = some (some (.ref c9)))
    (a10 : PySem.W.nsIn K mainGlobals "TakenName" = some (some (.ref c10)))
    (a11 : PySem.W.nsIn K mainGlobals "TooGreat" = some (some (.ref c11)))
    (a12 : PySem.W.nsIn K mainGlobals "Unbound" = some (some (.ref c12)))
    (a13 : PySem.W.nsIn K mainGlobals "Unlike" = some (some (.ref c13)))
    (a14 : PySem.W.nsIn K mainGlobals "SettleError" = some (some (.ref c14)))
    (x_0 : K.lookup c0 = some (excClassObj nm0 q0 c0 N0 bs0 bm0 true sn0 sub0 ab0 col0 dd0 u0 v0 w0 x0 y0 "ValueError.__new__"))
    (r_0 : PySem.HandSPX.refsVE bm0 = true)
    (i_0 : PySem.W.findIn K (.ref c0) "__init__" = some (some (.ref f0)))
    (t_0 : PySem.W.typeIn K (.ref f0) = some (.type "function"))
    (l_0 : K.lookup f0 = some ⟨oc0, od0, .func (PySem.W.fnOf "__init__" "BadLine.__init__" (defArgs sIBadLine) (defBody sIBadLine) (defScope sIBadLine) .none kV0 dc0 pm0 an0 cd0 ct0), sl0⟩)
    (c_0 : PySem.W.codeIn K cd0 "BadLine.__init__" = true)
    (k_0 : PySem.W.keepIn K (.ref f0) = true)
    (n_0 : noB K c0 ["line", "column"] = true)
    (x_1 : K.lookup c1 = some (excClassObj nm1 q1 c1 N1 bs1 bm1 true sn1 sub1 ab1 col1 dd1 u1 v1 w1 x1 y1 "ValueError.__new__"))
    (r_1 : PySem.HandSPX.refsVE bm1 = true)
    (i_1 : PySem.W.findIn K (.ref c1) "__init__" = some (some (.ref f1)))
    (t_1 : PySem.W.typeIn K (.ref f1) = some (.type "function"))
    (l_1 : K.lookup f1 = some ⟨oc1, od1, .func (PySem.W.fnOf "__init__" "BadName.__init__" (defArgs sIBadName) (defBody sIBadName) (defScope sIBadName) .none kV1 dc1 pm1 an1 cd1 ct1), sl1⟩)
    (c_1 : PySem.W.codeIn K cd1 "BadName.__init__" = true)
    (k_1 : PySem.W.keepIn K (.ref f1) = true)
    (n_1 : noB K c1 ["name"] = true)
    (x_2 : K.lookup c2 = some (excClassObj nm2 q2 c2 N2 bs2 bm2 true sn2 sub2 ab2 col2 dd2 u2 v2 w2 x2 y2 "ValueError.__new__"))
    (r_2 : PySem.HandSPX.refsVE bm2 = true)
    (i_2 : PySem.W.findIn K (.ref c2) "__init__" = some (some (.ref f2)))
    (t_2 : PySem.W.typeIn K (.ref f2) = some (.type "function"))
    (l_2 : K.lookup f2 = some ⟨oc2, od2, .func (PySem.W.fnOf "__init__" "BadNumber.__init__" (defArgs sIBadNumber) (defBody sIBadNumber) (defScope sIBadNumber) .none kV2 dc2 pm2 an2 cd2 ct2), sl2⟩)
    (c_2 : PySem.W.codeIn K cd2 "BadNumber.__init__" = true)
    (k_2 : PySem.W.keepIn K (.ref f2) = true)
    (n_2 : noB K c2 ["what", "number"] = true)
    (x_3 : K.lookup c3 = some (excClassObj nm3 q3 c3 N3 bs3 bm3 true sn3 sub3 ab3 col3 dd3 u3 v3 w3 x3 y3 "ValueError.__new__"))
    (r_3 : PySem.HandSPX.refsVE bm3 = true)
    (i_3 : PySem.W.findIn K (.ref c3) "__init__" = some (some (.ref f3)))
    (t_3 : PySem.W.typeIn K (.ref f3) = some (.type "function"))
    (l_3 : K.lookup f3 = some ⟨oc3, od3, .func (PySem.W.fnOf "__init__" "BadRow.__init__" (defArgs sIBadRow) (defBody sIBadRow) (defScope sIBadRow) .none kV3 dc3 pm3 an3 cd3 ct3), sl3⟩)
    (c_3 : PySem.W.codeIn K cd3 "BadRow.__init__" = true)
    (k_3 : PySem.W.keepIn K (.ref f3) = true)
    (n_3 : noB K c3 ["row"] = true)
    (x_4 : K.lookup c4 = some (excClassObj nm4 q4 c4 N4 bs4 bm4 true sn4 sub4 ab4 col4 dd4 u4 v4 w4 x4 y4 "ValueError.__new__"))
    (r_4 : PySem.HandSPX.refsVE bm4 = true)
    (i_4 : PySem.W.findIn K (.ref c4) "__init__" = some (some (.ref f4)))
    (t_4 : PySem.W.typeIn K (.ref f4) = some (.type "function"))
    (l_4 : K.lookup f4 = some ⟨oc4, od4, .func (PySem.W.fnOf "__init__" "BadStep.__init__" (defArgs sIBadStep) (defBody sIBadStep) (defScope sIBadStep) .none kV4 dc4 pm4 an4 cd4 ct4), sl4⟩)
    (c_4 : PySem.W.codeIn K cd4 "BadStep.__init__" = true)
    (k_4 : PySem.W.keepIn K (.ref f4) = true)
    (n_4 : noB K c4 ["step"] = true)
    (x_5 : K.lookup c5 = some (excClassObj nm5 q5 c5 N5 bs5 bm5 true sn5 sub5 ab5 col5 dd5 u5 v5 w5 x5 y5 "ValueError.__new__"))
    (r_5 : PySem.HandSPX.refsVE bm5 = true)
    (i_5 : PySem.W.findIn K (.ref c5) "__init__" = some (some (.ref f5)))
    (t_5 : PySem.W.typeIn K (.ref f5) = some (.type "function"))
    (l_5 : K.lookup f5 = some ⟨oc5, od5, .func (PySem.W.fnOf "__init__" "BadText.__init__" (defArgs sIBadText) (defBody sIBadText) (defScope sIBadText) .none kV5 dc5 pm5 an5 cd5 ct5), sl5⟩)
    (c_5 : PySem.W.codeIn K cd5 "BadText.__init__" = true)
    (k_5 : PySem.W.keepIn K (.ref f5) = true)
    (n_5 : noB K c5 ["column"] = true)
    (x_6 : K.lookup c6 = some (excClassObj nm6 q6 c6 N6 bs6 bm6 true sn6 sub6 ab6 col6 dd6 u6 v6 w6 x6 y6 "ValueError.__new__"))
    (r_6 : PySem.HandSPX.refsVE bm6 = true)
    (i_6 : PySem.W.findIn K (.ref c6) "__init__" = some (some (.ref f6)))
    (t_6 : PySem.W.typeIn K (.ref f6) = some (.type "function"))
    (l_6 : K.lookup f6 = some ⟨oc6, od6, .func (PySem.W.fnOf "__init__" "Needed.__init__" (defArgs sINeeded) (defBody sINeeded) (defScope sINeeded) .none kV6 dc6 pm6 an6 cd6 ct6), sl6⟩)
    (c_6 : PySem.W.codeIn K cd6 "Needed.__init__" = true)
    (k_6 : PySem.W.keepIn K (.ref f6) = true)
    (n_6 : noB K c6 ["name", "finding"] = true)
    (x_7 : K.lookup c7 = some (excClassObj nm7 q7 c7 N7 bs7 bm7 true sn7 sub7 ab7 col7 dd7 u7 v7 w7 x7 y7 "ValueError.__new__"))
    (r_7 : PySem.HandSPX.refsVE bm7 = true)
    (i_7 : PySem.W.findIn K (.ref c7) "__init__" = some (some (.ref f7)))
    (t_7 : PySem.W.typeIn K (.ref f7) = some (.type "function"))
    (l_7 : K.lookup f7 = some ⟨oc7, od7, .func (PySem.W.fnOf "__init__" "NoName.__init__" (defArgs sINoName) (defBody sINoName) (defScope sINoName) .none kV7 dc7 pm7 an7 cd7 ct7), sl7⟩)
    (c_7 : PySem.W.codeIn K cd7 "NoName.__init__" = true)
    (k_7 : PySem.W.keepIn K (.ref f7) = true)
    (n_7 : noB K c7 ["name"] = true)
    (x_10 : K.lookup c10 = some (excClassObj nm10 q10 c10 N10 bs10 bm10 true sn10 sub10 ab10 col10 dd10 u10 v10 w10 x10 y10 "ValueError.__new__"))
    (r_10 : PySem.HandSPX.refsVE bm10 = true)
    (i_10 : PySem.W.findIn K (.ref c10) "__init__" = some (some (.ref f10)))
    (t_10 : PySem.W.typeIn K (.ref f10) = some (.type "function"))
    (l_10 : K.lookup f10 = some ⟨oc10, od10, .func (PySem.W.fnOf "__init__" "TakenName.__init__" (defArgs sITakenName) (defBody sITakenName) (defScope sITakenName) .none kV10 dc10 pm10 an10 cd10 ct10), sl10⟩)
    (c_10 : PySem.W.codeIn K cd10 "TakenName.__init__" = true)
    (k_10 : PySem.W.keepIn K (.ref f10) = true)
    (n_10 : noB K c10 ["name"] = true)
    (x_11 : K.lookup c11 = some (excClassObj nm11 q11 c11 N11 bs11 bm11 true sn11 sub11 ab11 col11 dd11 u11 v11 w11 x11 y11 "ValueError.__new__"))
    (r_11 : PySem.HandSPX.refsVE bm11 = true)
    (i_11 : PySem.W.findIn K (.ref c11) "__init__" = some (some (.ref f11)))
    (t_11 : PySem.W.typeIn K (.ref f11) = some (.type "function"))
    (l_11 : K.lookup f11 = some ⟨oc11, od11, .func (PySem.W.fnOf "__init__" "TooGreat.__init__" (defArgs sITooGreat) (defBody sITooGreat) (defScope sITooGreat) .none kV11 dc11 pm11 an11 cd11 ct11), sl11⟩)
    (c_11 : PySem.W.codeIn K cd11 "TooGreat.__init__" = true)
    (k_11 : PySem.W.keepIn K (.ref f11) = true)
    (n_11 : noB K c11 ["most"] = true)
    (x_12 : K.lookup c12 = some (excClassObj nm12 q12 c12 N12 bs12 bm12 true sn12 sub12 ab12 col12 dd12 u12 v12 w12 x12 y12 "ValueError.__new__"))
    (r_12 : PySem.HandSPX.refsVE bm12 = true)
    (i_12 : PySem.W.findIn K (.ref c12) "__init__" = some (some (.ref f12)))
    (t_12 : PySem.W.typeIn K (.ref f12) = some (.type "function"))
    (l_12 : K.lookup f12 = some ⟨oc12, od12, .func (PySem.W.fnOf "__init__" "Unbound.__init__" (defArgs sIUnbound) (defBody sIUnbound) (defScope sIUnbound) .none kV12 dc12 pm12 an12 cd12 ct12), sl12⟩)
    (c_12 : PySem.W.codeIn K cd12 "Unbound.__init__" = true)
    (k_12 : PySem.W.keepIn K (.ref f12) = true)
    (n_12 : noB K c12 ["name"] = true)
    (x_13 : K.lookup c13 = some (excClassObj nm13 q13 c13 N13 bs13 bm13 true sn13 sub13 ab13 col13 dd13 u13 v13 w13 x13 y13 "ValueError.__new__"))
    (r_13 : PySem.HandSPX.refsVE bm13 = true)
    (i_13 : PySem.W.findIn K (.ref c13) "__init__" = some (some (.ref f13)))
    (t_13 : PySem.W.typeIn K (.ref f13) = some (.type "function"))
    (l_13 : K.lookup f13 = some ⟨oc13, od13, .func (PySem.W.fnOf "__init__" "Unlike.__init__" (defArgs sIUnlike) (defBody sIUnlike) (defScope sIUnlike) .none kV13 dc13 pm13 an13 cd13 ct13), sl13⟩)
    (c_13 : PySem.W.codeIn K cd13 "Unlike.__init__" = true)
    (k_13 : PySem.W.keepIn K (.ref f13) = true)
    (n_13 : noB K c13 ["what"] = true)
    (e_8 : PySem.W.excIn K c8 [.type "ValueError", .type "Exception", .type "BaseException", .type "object"] "ValueError.__new__" = true)
    (e_9 : PySem.W.excIn K c9 [.type "ValueError", .type "Exception", .type "BaseException", .type "object"] "ValueError.__new__" = true)
    (e_14 : PySem.W.excIn K c14 [.type "ValueError", .type "Exception", .type "BaseException", .type "object"] "ValueError.__new__" = true)
    (aP : PySem.W.nsIn K mainGlobals "_law_pen" = some (some (.ref fP)))
    (lP : K.lookup fP = some ⟨ocP, odP, .func (PySem.W.fnOf "_law_pen" "_law_pen" (defArgs sPen) (defBody sPen) (defScope sPen) .none kVP dcP pmP anP cdP ctP), slP⟩)
    (cP : PySem.W.codeIn K cdP "_law_pen" = true)
    (kP : PySem.W.keepIn K (.ref fP) = true)
    (aD : PySem.W.nsIn K mainGlobals "_law_draw" = some (some (.ref fD)))
    (lD : K.lookup fD = some ⟨ocD, odD, .func (PySem.W.fnOf "_law_draw" "_law_draw" (defArgs sDraw) (defBody sDraw) (defScope sDraw) .none kVD dcD pmD anD cdD ctD), slD⟩)
    (cD : PySem.W.codeIn K cdD "_law_draw" = true)
    (kD : PySem.W.keepIn K (.ref fD) = true)
    (aG : PySem.W.nsIn K mainGlobals "_law_pick" = some (some (.ref fG)))
    (lG : K.lookup fG = some ⟨ocG, odG, .func (PySem.W.fnOf "_law_pick" "_law_pick" (defArgs sPick) (defBody sPick) (defScope sPick) .none kVG dcG pmG anG cdG ctG), slG⟩)
    (cG : PySem.W.codeIn K cdG "_law_pick" = true)
    (kG : PySem.W.keepIn K (.ref fG) = true)
    (aK : PySem.W.nsIn K mainGlobals "_law_kinds" = some (some (.ref fK)))
    (lK : K.lookup fK = some ⟨ocK, odK, .func (PySem.W.fnOf "_law_kinds" "_law_kinds" (defArgs sKinds) (defBody sKinds) (defScope sKinds) .none kVK dcK pmK anK cdK ctK), slK⟩)
    (cK : PySem.W.codeIn K cdK "_law_kinds" = true)
    (kK : PySem.W.keepIn K (.ref fK) = true)
    (aL : PySem.W.nsIn K mainGlobals "law" = some (some (.ref fL)))
    (lL : K.lookup fL = some ⟨ocL, odL, .func (PySem.W.fnOf "law" "law" (defArgs sLaw) (defBody sLaw) (defScope sLaw) .none kVL dcL pmL anL cdL ctL), slL⟩)
    (cL : PySem.W.codeIn K cdL "law" = true)
    (kL : PySem.W.keepIn K (.ref fL) = true)
    (z_int : PySem.W.nsIn K mainGlobals "int" = some none)
    (z_list : PySem.W.nsIn K mainGlobals "list" = some none)
    (z_len : PySem.W.nsIn K mainGlobals "len" = some none)
    (z_isinstance : PySem.W.nsIn K mainGlobals "isinstance" = some none)
    (z_range : PySem.W.nsIn K mainGlobals "range" = some none)
    (z_ValueError : PySem.W.nsIn K mainGlobals "ValueError" = some none)
    (kits : kitB K (fun i => [c0, c1, c2, c3, c4, c5, c6, c7, c8, c9, c10, c11, c12, c13, c14].getD i 0) = true)
    : ∃ fd : FuncData, (∀ (s : Shared) (v : Value), BindsTo s fd ⟨[v], []⟩ [("_law_script", v)]) ∧ ∀ base : Heap, K.In base → base.Ns mainGlobals mg → FnOk l.prog w K mg base CX0 3 fa fd ["_law_script"] (spLaw K) := by
  have e := hfa.symm.trans (PySem.W.mg_of X G aL)
  cases e
  have kits' := List.all_eq_true.mp kits
  have kit : ∀ j, j < 15 → exB K ((fun i => [c0, c1, c2, c3, c4, c5, c6, c7, c8, c9, c10, c11, c12, c13, c14].getD i 0) j) = true ∧ PySem.W.kitOne K (.ref ((fun i => [c0, c1, c2, c3, c4, c5, c6, c7, c8, c9, c10, c11, c12, c13, c14].getD i 0) j)) (.ref ((fun i => [c0, c1, c2, c3, c4, c5, c6, c7, c8, c9, c10, c11, c12, c13, c14].getD i 0) 14)) = some true ∧ PySem.W.kitOne K (.ref ((fun i => [c0, c1, c2, c3, c4, c5, c6, c7, c8, c9, c10, c11, c12, c13, c14].getD i 0) j)) (.type "ValueError") = some true ∧ ∀ i, i < 14 → PySem.W.kitOne K (.ref ((fun i => [c0, c1, c2, c3, c4, c5, c6, c7, c8, c9, c10, c11, c12, c13, c14].getD i 0) j)) (.ref ((fun i => [c0, c1, c2, c3, c4, c5, c6, c7, c8, c9, c10, c11, c12, c13, c14].getD i 0) i)) = some (decide (j = i)) := by
    intro j hj
    have z := kits' j (List.mem_range.mpr hj)
    rw [Bool.and_eq_true, Bool.and_eq_true, Bool.and_eq_true] at z
    exact ⟨z.1, of_decide_eq_true z.2.1, of_decide_eq_true z.2.2.1, fun i hi => of_decide_eq_true (List.all_eq_true.mp z.2.2.2 i (List.mem_range.mpr hi))⟩
  have T : Tops K mg (fun i => [c0, c1, c2, c3, c4, c5, c6, c7, c8, c9, c10, c11, c12, c13, c14].getD i 0) := by
    refine ⟨?_, fun j i hj hi => (kit j hj).2.2.2 i hi, fun j hj => (kit j hj).2.1, fun j hj => (kit j hj).2.2.1, fun j hj => (exB_ok (kit j hj).1).1, PySem.W.mg_none_of X G z_isinstance, PySem.W.mg_none_of X G z_ValueError⟩
    intro i hi
    match i, hi with
    | 0, _ => exact PySem.W.mg_of X G a0
    | 1, _ => exact PySem.W.mg_of X G a1
    | 2, _ => exact PySem.W.mg_of X G a2
    | 3, _ => exact PySem.W.mg_of X G a3
    | 4, _ => exact PySem.W.mg_of X G a4
    | 5, _ => exact PySem.W.mg_of X G a5
    | 6, _ => exact PySem.W.mg_of X G a6
    | 7, _ => exact PySem.W.mg_of X G a7
    | 8, _ => exact PySem.W.mg_of X G a8
    | 9, _ => exact PySem.W.mg_of X G a9
    | 10, _ => exact PySem.W.mg_of X G a10
    | 11, _ => exact PySem.W.mg_of X G a11
    | 12, _ => exact PySem.W.mg_of X G a12
    | 13, _ => exact PySem.W.mg_of X G a13
    | 14, _ => exact PySem.W.mg_of X G a14
  have F0 := fun_mk (st := sIBadLine) l_0 c_0 k_0
  have b0 := F0.binds (ps := ["self", "line", "column"]) fun _ _ _ _ _ _ us hl => match us, hl with | [_, _, _], _ => rfl
  have o0 := exB_ok (kit 0 (by decide)).1
  have F1 := fun_mk (st := sIBadName) l_1 c_1 k_1
  have b1 := F1.binds (ps := ["self", "name"]) fun _ _ _ _ _ _ us hl => match us, hl with | [_, _], _ => rfl
  have o1 := exB_ok (kit 1 (by decide)).1
  have F2 := fun_mk (st := sIBadNumber) l_2 c_2 k_2
  have b2 := F2.binds (ps := ["self", "what", "number"]) fun _ _ _ _ _ _ us hl => match us, hl with | [_, _, _], _ => rfl
  have o2 := exB_ok (kit 2 (by decide)).1
  have F3 := fun_mk (st := sIBadRow) l_3 c_3 k_3
  have b3 := F3.binds (ps := ["self", "row"]) fun _ _ _ _ _ _ us hl => match us, hl with | [_, _], _ => rfl
  have o3 := exB_ok (kit 3 (by decide)).1
  have F4 := fun_mk (st := sIBadStep) l_4 c_4 k_4
  have b4 := F4.binds (ps := ["self", "step"]) fun _ _ _ _ _ _ us hl => match us, hl with | [_, _], _ => rfl
  have o4 := exB_ok (kit 4 (by decide)).1
  have F5 := fun_mk (st := sIBadText) l_5 c_5 k_5
  have b5 := F5.binds (ps := ["self", "column"]) fun _ _ _ _ _ _ us hl => match us, hl with | [_, _], _ => rfl
  have o5 := exB_ok (kit 5 (by decide)).1
  have F6 := fun_mk (st := sINeeded) l_6 c_6 k_6
  have b6 := F6.binds (ps := ["self", "name", "finding"]) fun _ _ _ _ _ _ us hl => match us, hl with | [_, _, _], _ => rfl
  have o6 := exB_ok (kit 6 (by decide)).1
  have F7 := fun_mk (st := sINoName) l_7 c_7 k_7
  have b7 := F7.binds (ps := ["self", "name"]) fun _ _ _ _ _ _ us hl => match us, hl with | [_, _], _ => rfl
  have o7 := exB_ok (kit 7 (by decide)).1
  have F10 := fun_mk (st := sITakenName) l_10 c_10 k_10
  have b10 := F10.binds (ps := ["self", "name"]) fun _ _ _ _ _ _ us hl => match us, hl with | [_, _], _ => rfl
  have o10 := exB_ok (kit 10 (by decide)).1
  have F11 := fun_mk (st := sITooGreat) l_11 c_11 k_11
  have b11 := F11.binds (ps := ["self", "most"]) fun _ _ _ _ _ _ us hl => match us, hl with | [_, _], _ => rfl
  have o11 := exB_ok (kit 11 (by decide)).1
  have F12 := fun_mk (st := sIUnbound) l_12 c_12 k_12
  have b12 := F12.binds (ps := ["self", "name"]) fun _ _ _ _ _ _ us hl => match us, hl with | [_, _], _ => rfl
  have o12 := exB_ok (kit 12 (by decide)).1
  have F13 := fun_mk (st := sIUnlike) l_13 c_13 k_13
  have b13 := F13.binds (ps := ["self", "what"]) fun _ _ _ _ _ _ us hl => match us, hl with | [_, _], _ => rfl
  have o13 := exB_ok (kit 13 (by decide)).1
  have FP := fun_mk (st := sPen) lP cP kP
  have bP := FP.binds (ps := ["_law_script"]) fun _ _ _ _ _ _ us hl => match us, hl with | [_], _ => rfl
  have FD := fun_mk (st := sDraw) lD cD kD
  have bD := FD.binds (ps := ["_law_pen_here", "_law_many"]) fun _ _ _ _ _ _ us hl => match us, hl with | [_, _], _ => rfl
  have FG := fun_mk (st := sPick) lG cG kG
  have bG := FG.binds (ps := ["_law_pen_here", "_law_some"]) fun _ _ _ _ _ _ us hl => match us, hl with | [_, _], _ => rfl
  have FK := fun_mk (st := sKinds) lK cK kK
  have bK := FK.binds (ps := ["_law_error"]) fun _ _ _ _ _ _ us hl => match us, hl with | [_], _ => rfl
  have FL := fun_mk (st := sLaw) lL cL kL
  refine ⟨PySem.W.fnOf "law" "law" (defArgs sLaw) (defBody sLaw) (defScope sLaw) .none kVL dcL pmL anL cdL ctL, fun s v => .of_eq rfl, fun base _ _ => ?_⟩
  have U : Cls l.prog w K mg base (fun i => [c0, c1, c2, c3, c4, c5, c6, c7, c8, c9, c10, c11, c12, c13, c14].getD i 0) := {
    eBadLine := ⟨f0, _, ⟨⟨⟨nm0, q0, N0, bs0, bm0, sn0, sub0, ab0, col0, dd0, u0, v0, w0, x0, y0, x_0, r_0⟩, o0.2.2.1, o0.2.1.exC, o0.2.2.2.1, o0.2.2.2.2⟩, o0.2.1, i_0, t_0, noB_ok n_0⟩, F0, b0⟩
    eBadName := ⟨f1, _, ⟨⟨⟨nm1, q1, N1, bs1, bm1, sn1, sub1, ab1, col1, dd1, u1, v1, w1, x1, y1, x_1, r_1⟩, o1.2.2.1, o1.2.1.exC, o1.2.2.2.1, o1.2.2.2.2⟩, o1.2.1, i_1, t_1, noB_ok n_1⟩, F1, b1⟩
    eBadNumber := ⟨f2, _, ⟨⟨⟨nm2, q2, N2, bs2, bm2, sn2, sub2, ab2, col2, dd2, u2, v2, w2, x2, y2, x_2, r_2⟩, o2.2.2.1, o2.2.1.exC, o2.2.2.2.1, o2.2.2.2.2⟩, o2.2.1, i_2, t_2, noB_ok n_2⟩, F2, b2⟩
    eBadRow := ⟨f3, _, ⟨⟨⟨nm3, q3, N3, bs3, bm3, sn3, sub3, ab3, col3, dd3, u3, v3, w3, x3, y3, x_3, r_3⟩, o3.2.2.1, o3.2.1.exC, o3.2.2.2.1, o3.2.2.2.2⟩, o3.2.1, i_3, t_3, noB_ok n_3⟩, F3, b3⟩
    eBadStep := ⟨f4, _, ⟨⟨⟨nm4, q4, N4, bs4, bm4, sn4, sub4, ab4, col4, dd4, u4, v4, w4, x4, y4, x_4, r_4⟩, o4.2.2.1, o4.2.1.exC, o4.2.2.2.1, o4.2.2.2.2⟩, o4.2.1, i_4, t_4, noB_ok n_4⟩, F4, b4⟩
    eBadText := ⟨f5, _, ⟨⟨⟨nm5, q5, N5, bs5, bm5, sn5, sub5, ab5, col5, dd5, u5, v5, w5, x5, y5, x_5, r_5⟩, o5.2.2.1, o5.2.1.exC, o5.2.2.2.1, o5.2.2.2.2⟩, o5.2.1, i_5, t_5, noB_ok n_5⟩, F5, b5⟩
    eNeeded := ⟨f6, _, ⟨⟨⟨nm6, q6, N6, bs6, bm6, sn6, sub6, ab6, col6, dd6, u6, v6, w6, x6, y6, x_6, r_6⟩, o6.2.2.1, o6.2.1.exC, o6.2.2.2.1, o6.2.2.2.2⟩, o6.2.1, i_6, t_6, noB_ok n_6⟩, F6, b6⟩
    eNoName := ⟨f7, _, ⟨⟨⟨nm7, q7, N7, bs7, bm7, sn7, sub7, ab7, col7, dd7, u7, v7, w7, x7, y7, x_7, r_7⟩, o7.2.2.1, o7.2.1.exC, o7.2.2.2.1, o7.2.2.2.2⟩, o7.2.1, i_7, t_7, noB_ok n_7⟩, F7, b7⟩
    eTakenName := ⟨f10, _, ⟨⟨⟨nm10, q10, N10, bs10, bm10, sn10, sub10, ab10, col10, dd10, u10, v10, w10, x10, y10, x_10, r_10⟩, o10.2.2.1, o10.2.1.exC, o10.2.2.2.1, o10.2.2.2.2⟩, o10.2.1, i_10, t_10, noB_ok n_10⟩, F10, b10⟩
    eTooGreat := ⟨f11, _, ⟨⟨⟨nm11, q11, N11, bs11, bm11, sn11, sub11, ab11, col11, dd11, u11, v11, w11, x11, y11, x_11, r_11⟩, o11.2.2.1, o11.2.1.exC, o11.2.2.2.1, o11.2.2.2.2⟩, o11.2.1, i_11, t_11, noB_ok n_11⟩, F11, b11⟩
    eUnbound := ⟨f12, _, ⟨⟨⟨nm12, q12, N12, bs12, bm12, sn12, sub12, ab12, col12, dd12, u12, v12, w12, x12, y12, x_12, r_12⟩, o12.2.2.1, o12.2.1.exC, o12.2.2.2.1, o12.2.2.2.2⟩, o12.2.1, i_12, t_12, noB_ok n_12⟩, F12, b12⟩
    eUnlike := ⟨f13, _, ⟨⟨⟨nm13, q13, N13, bs13, bm13, sn13, sub13, ab13, col13, dd13, u13, v13, w13, x13, y13, x_13, r_13⟩, o13.2.2.1, o13.2.1.exC, o13.2.2.2.1, o13.2.2.2.2⟩, o13.2.1, i_13, t_13, noB_ok n_13⟩, F13, b13⟩
    x8 := fun i hi => by
      rcases hi with rfl | rfl | rfl
      · exact ⟨e_8, (exB_ok (kit 8 (by decide)).1).2.2.2.2⟩
      · exact ⟨e_9, (exB_ok (kit 9 (by decide)).1).2.2.2.2⟩
      · exact ⟨e_14, (exB_ok (kit 14 (by decide)).1).2.2.2.2⟩ }
  have mint := PySem.W.mg_none_of X G z_int
  have mlist := PySem.W.mg_none_of X G z_list
  have mlen := PySem.W.mg_none_of X G z_len
  have mrange := PySem.W.mg_none_of X G z_range
  have gP := PySem.W.mg_of X G aP
  have gD := PySem.W.mg_of X G aD
  have gG := PySem.W.mg_of X G aG
  have gK := PySem.W.mg_of X G aK
  have OD : FnOk l.prog w K mg base CX0 1 fD _ ["_law_pen_here", "_law_many"] spDraw := ok_draw FD mint mlen
  exact ok_law FL T U (ok_pen FP mint mlist) gP FP.kp bP (ok_pick FG OD gD FD.kp bD mlen) gG FG.kp bG (ok_kinds FK T) gK FK.kp bK mrange
theorem walk {l : PySem.W.OpenLaw} {q : Program} {loose : List Str} {XP : (Str → Option Value) → Heap → Prop} {YP : World → Heap → Prop} {d : DefRec} {K : Params → PySem.W.Frag} (hn : l.most = some 63) (hdf : d.params.defaults = [])
    (hY : ∀ (w : World) (h : Heap), YP w h → (K w.params).In h)
    (F : ∀ (w : World) (mg : Str → Option Value) (fa : Addr) (h : Heap), (K w.params).In h → h.Ns mainGlobals mg → mg d.name = some (.ref fa) →
      ∃ fd : FuncData, (∀ (s : Shared) (u : Value), BindsTo s fd ⟨[u], []⟩ [("_law_script", u)]) ∧ ∀ base : Heap, (K w.params).In base → base.Ns mainGlobals mg → FnOk l.prog w (K w.params) mg base CX0 3 fa fd ["_law_script"] (spLaw (K w.params))) :
    PySem.W.WalkO q loose XP YP l.row.toRowW d [] (fun f vs => PySem.call f vs) :=
  L2.walk_of (n := 63) (k := 3) (x := "_law_script") (CX := fun _ => CX0) (sp := fun w => spLaw (K w.params)) hn (by decide) hdf ⟨rfl, by decide, by decide⟩ hY F (fun _ _ a ns hl _ hS => ⟨a, ns, rfl, hS, hl, fun _ => rfl⟩) fun _ _ _ _ _ z => z
end Ev
open PySem PySem.W PyProof.Rows
set_option maxRecDepth 100000 in
set_option maxHeartbeats 0 in
theorem PySem.Challenge.cw_downtoground_k00_errors_holds : PySem.Challenge.rw_downtoground_k00_errors.Holds := by
  w_on; o_law; k_head; (case hw => w_witness2)
  k_fill
  refine Ev.walk (l := PySem.Challenge.rw_downtoground_k00_errors) rfl rfl (fun w h Y => PySem.W.kIn_of Y) ?F
  case F =>
    intro w mg fa h KX G hmg
    refine' Ev.all_mk KX G hmg ?a0 ?a1 ?a2 ?a3 ?a4 ?a5 ?a6 ?a7 ?a8 ?a9 ?a10 ?a11 ?a12 ?a13 ?a14 ?x_0 ?r_0 ?i_0 ?t_0 ?l_0 ?c_0 ?k_0 ?n_0 ?x_1 ?r_1 ?i_1 ?t_1 ?l_1 ?c_1 ?k_1 ?n_1 ?x_2 ?r_2 ?i_2 ?t_2 ?l_2 ?c_2 ?k_2 ?n_2 ?x_3 ?r_3 ?i_3 ?t_3 ?l_3 ?c_3 ?k_3 ?n_3 ?x_4 ?r_4 ?i_4 ?t_4 ?l_4 ?c_4 ?k_4 ?n_4 ?x_5 ?r_5 ?i_5 ?t_5 ?l_5 ?c_5 ?k_5 ?n_5 ?x_6 ?r_6 ?i_6 ?t_6 ?l_6 ?c_6 ?k_6 ?n_6 ?x_7 ?r_7 ?i_7 ?t_7 ?l_7 ?c_7 ?k_7 ?n_7 ?x_10 ?r_10 ?i_10 ?t_10 ?l_10 ?c_10 ?k_10 ?n_10 ?x_11 ?r_11 ?i_11 ?t_11 ?l_11 ?c_11 ?k_11 ?n_11 ?x_12 ?r_12 ?i_12 ?t_12 ?l_12 ?c_12 ?k_12 ?n_12 ?x_13 ?r_13 ?i_13 ?t_13 ?l_13 ?c_13 ?k_13 ?n_13 ?e_8 ?e_9 ?e_14 ?aP ?lP ?cP ?kP ?aD ?lD ?cD ?kD ?aG ?lG ?cG ?kG ?aK ?lK ?cK ?kK ?aL ?lL ?cL ?kL ?z_int ?z_list ?z_len ?z_isinstance ?z_range ?z_ValueError ?kits
    (case a0 => k_is)
    (case a1 => k_is)
    (case a2 => k_is)
    (case a3 => k_is)
    (case a4 => k_is)
    (case a5 => k_is)
    (case a6 => k_is)
    (case a7 => k_is)
    (case a8 => k_is)
    (case a9 => k_is)
    (case a10 => k_is)
    (case a11 => k_is)
    (case a12 => k_is)
    (case a13 => k_is)
    (case a14 => k_is)
    (case x_0 => k_is)
    (case r_0 => first | rfl | decide +kernel)
    (case i_0 => k_is)
    (case t_0 => k_is)
    (case l_0 => k_is)
    (case c_0 => k_is)
    (case k_0 => k_is)
    (case n_0 => kernel_rfl)
    (case x_1 => k_is)
    (case r_1 => first | rfl | decide +kernel)
    (case i_1 => k_is)
    (case t_1 => k_is)
    (case l_1 => k_is)
    (case c_1 => k_is)
    (case k_1 => k_is)
    (case n_1 => kernel_rfl)
    (case x_2 => k_is)
    (case r_2 => first | rfl | decide +kernel)
    (case i_2 => k_is)
    (case t_2 => k_is)
    (case l_2 => k_is)
    (case c_2 => k_is)
    (case k_2 => k_is)
    (case n_2 => kernel_rfl)
    (case x_3 => k_is)
    (case r_3 => first | rfl | decide +kernel)
    (case i_3 => k_is)
    (case t_3 => k_is)
    (case l_3 => k_is)
    (case c_3 => k_is)
    (case k_3 => k_is)
    (case n_3 => kernel_rfl)
    (case x_4 => k_is)
    (case r_4 => first | rfl | decide +kernel)
    (case i_4 => k_is)
    (case t_4 => k_is)
    (case l_4 => k_is)
    (case c_4 => k_is)
    (case k_4 => k_is)
    (case n_4 => kernel_rfl)
    (case x_5 => k_is)
    (case r_5 => first | rfl | decide +kernel)
    (case i_5 => k_is)
    (case t_5 => k_is)
    (case l_5 => k_is)
    (case c_5 => k_is)
    (case k_5 => k_is)
    (case n_5 => kernel_rfl)
    (case x_6 => k_is)
    (case r_6 => first | rfl | decide +kernel)
    (case i_6 => k_is)
    (case t_6 => k_is)
    (case l_6 => k_is)
    (case c_6 => k_is)
    (case k_6 => k_is)
    (case n_6 => kernel_rfl)
    (case x_7 => k_is)
    (case r_7 => first | rfl | decide +kernel)
    (case i_7 => k_is)
    (case t_7 => k_is)
    (case l_7 => k_is)
    (case c_7 => k_is)
    (case k_7 => k_is)
    (case n_7 => kernel_rfl)
    (case x_10 => k_is)
    (case r_10 => first | rfl | decide +kernel)
    (case i_10 => k_is)
    (case t_10 => k_is)
    (case l_10 => k_is)
    (case c_10 => k_is)
    (case k_10 => k_is)
    (case n_10 => kernel_rfl)
    (case x_11 => k_is)
    (case r_11 => first | rfl | decide +kernel)
    (case i_11 => k_is)
    (case t_11 => k_is)
    (case l_11 => k_is)
    (case c_11 => k_is)
    (case k_11 => k_is)
    (case n_11 => kernel_rfl)
    (case x_12 => k_is)
    (case r_12 => first | rfl | decide +kernel)
    (case i_12 => k_is)
    (case t_12 => k_is)
    (case l_12 => k_is)
    (case c_12 => k_is)
    (case k_12 => k_is)
    (case n_12 => kernel_rfl)
    (case x_13 => k_is)
    (case r_13 => first | rfl | decide +kernel)
    (case i_13 => k_is)
    (case t_13 => k_is)
    (case l_13 => k_is)
    (case c_13 => k_is)
    (case k_13 => k_is)
    (case n_13 => kernel_rfl)
    (case e_8 => k_exc)
    (case e_9 => k_exc)
    (case e_14 => k_exc)
    (case aP => k_is)
    (case lP => k_is)
    (case cP => k_is)
    (case kP => k_is)
    (case aD => k_is)
    (case lD => k_is)
    (case cD => k_is)
    (case kD => k_is)
    (case aG => k_is)
    (case lG => k_is)
    (case cG => k_is)
    (case kG => k_is)
    (case aK => k_is)
    (case lK => k_is)
    (case cK => k_is)
    (case kK => k_is)
    (case aL => k_is)
    (case lL => k_is)
    (case cL => k_is)
    (case kL => k_is)
    (case z_int => k_is)
    (case z_list => k_is)
    (case z_len => k_is)
    (case z_isinstance => k_is)
    (case z_range => k_is)
    (case z_ValueError => k_is)
    (case kits => kernel_rfl)

