import PyProof.Rows.All
import Wide.All
import OpenK.AllK
import Wide.FinOn
import HandS.ForMost
import HandS.More
import HandS.Style
import HandS.TupAny
import HandS.IsInst
import HandS.Codes
import HandS.Exc
import HandS.Ends
import HandS.JoinGen
import PyProof.TupleOfGen
import PyProof.GenCompT
import PyProof.WalksPairs
import HandS.SetBool
import HandS.Strs
import HandS.SetFor
import PyProof.P3Eq
import HandS.Walk
import HandS.EndTab
import HandS.Head0
import HandS.Head1
import HandS.Head2
import HandS.HeadEnd
import HandS.HeadHook1
import HandS.HeadHook2
import HandS.HeadHook3
import HandS.HeadHook4
import PySem.Challenge.RW_downtoground_k05_whole_terms_and_paths
set_option Elab.async false
set_option linter.all false
set_option maxRecDepth 100000
set_option maxHeartbeats 0
/-! A tuple's tail from behind: t[:0:-1]. -/
namespace Ad
open PySem PySem.Spec PySem.Calls PyProof.Rows L2
section
variable {prog : Program} {w : World} {A : Around} {E : Value → Shared → Prop} {s : Shared}
theorem adj_back {n : Nat} (h : 1 ≤ n) : Builtin.Slice.sliceAdjust none (some 0) (-1) (n : Int) = ((n : Int) - 1, 0) := by
  unfold Builtin.Slice.sliceAdjust
  have h1 : ((-1 : Int) < 0) := by decide
  have h0 : ¬ ((0 : Int) < 0) := by decide
  simp only [h1, h0, if_true, if_false]
  congr 1
  omega
theorem places_back (n : Nat) : Builtin.Slice.slicePlaces ((n : Int) - 1) 0 (-1) = n - 1 := by
  unfold Builtin.Slice.slicePlaces
  have h1 : ¬ ((-1 : Int) > 0) := by decide
  have h2 : (- (-1 : Int)) = 1 := by decide
  simp only [h1, if_false, h2, Int.ediv_one]
  split <;> omega
theorem pick_back (xs : Array Value) : ((List.range (xs.size - 1)).filterMap fun (k : Nat) => xs[(((xs.size : Int) - 1) + (k : Int) * (-1)).toNat]?).toArray = (xs.toList.drop 1).reverse.toArray := by
  congr 1
  obtain ⟨l⟩ := xs
  simp only [List.size_toArray]
  have key : ∀ m, m ≤ l.length - 1 → (List.range m).filterMap (fun (k : Nat) => (l.toArray)[(((l.length : Int) - 1) + (k : Int) * (-1)).toNat]?) = (l.drop (l.length - m)).reverse := by
    intro m
    induction m with
    | zero =>
      intro _
      rw [List.range_zero, List.filterMap_nil, Nat.sub_zero, List.drop_length, List.reverse_nil]
    | succ m ih =>
      intro hm
      rw [List.range_succ, List.filterMap_append, ih (by omega), List.filterMap_cons, List.filterMap_nil]
      have e : (((l.length : Int) - 1) + (m : Int) * (-1)).toNat = l.length - (m + 1) := by omega
      rw [e]
      have hlt : l.length - (m + 1) < l.length := by omega
      rw [List.getElem?_toArray, List.getElem?_eq_getElem hlt]
      have d : l.drop (l.length - (m + 1)) = l[l.length - (m + 1)] :: l.drop (l.length - m) := by
        rw [List.drop_eq_getElem_cons hlt]
        congr 2
        omega
      rw [d, List.reverse_cons]
  have k1 := key (l.length - 1) (Nat.le_refl _)
  rw [k1]
  by_cases h : l.length = 0
  · have : l = [] := List.length_eq_zero_iff.mp h
    subst this
    rfl
  · congr 2
    omega
theorem applied_back {sl : Addr} {vu vs : Value} {n : Nat} {Q : Int × Int × Nat → Shared → Prop} (here : s.heap.IsSliceOf sl .none vu vs) (pu : IsPart vu (some 0)) (ps : IsPart vs (some (-1))) (hn : 1 ≤ n)
    (h : Q ((n : Int) - 1, -1, n - 1) s) : wpAny (model prog w) A (Builtin.Slice.sliceApplied (.ref sl) (pure (n : Int))) Q E s := by
  obtain ⟨ob, at', _, dat⟩ := id here
  unfold Builtin.Slice.sliceApplied Builtin.Slice.sliceFields
  refine wpAny_bind (wpAny_bind ?_)
  refine wpAny_field at' dat (x := .none) rfl (wpAny_bind ?_)
  refine wpAny_field at' dat (x := vu) rfl (wpAny_bind ?_)
  refine wpAny_field at' dat (x := vs) rfl (wpAny_pure ?_)
  refine wpAny_bind (HT.slicePart_ ps ?_)
  show wpAny _ _ (if ((-1 : Int) == 0) = true then _ else _) _ _ s
  rw [if_neg (by decide)]
  refine wpAny_bind (slicePart_none (wpAny_bind ?_))
  refine HT.slicePart_ pu (wpAny_bind (wpAny_pure ?_))
  show wpAny _ _ (match Builtin.Slice.sliceAdjust none (some 0) (-1) (n : Int) with | (lo, hi) => pure (lo, (-1 : Int), Builtin.Slice.slicePlaces lo hi (-1))) _ _ s
  rw [adj_back hn]
  show wpAny _ _ (pure ((n : Int) - 1, (-1 : Int), Builtin.Slice.slicePlaces ((n : Int) - 1) 0 (-1))) _ _ s
  rw [places_back]
  exact wpAny_pure h
theorem item_back {t sl : Addr} {items : Array Value} {vu vs : Value} {Q : Value → Shared → Prop} (ht : IsTup s.heap t items) (here : s.heap.IsSliceOf sl .none vu vs) (pu : IsPart vu (some 0)) (ps : IsPart vs (some (-1))) (hn : 1 ≤ items.size)
    (h : Q (.ref s.heap.objs.size) { s with heap := s.heap.push { cls := .type "tuple", data := .seq (items.toList.drop 1).reverse.toArray } }) (hsz : items.size ≤ sizeLine) :
    wpAny (model prog w) A (getItem (.ref t) (.ref sl)) Q E s := by
  have fits : sizeOk (.seq (items.toList.drop 1).reverse.toArray) := by
    show (items.toList.drop 1).reverse.toArray.size ≤ sizeLine
    rw [List.size_toArray, List.length_reverse, List.length_drop, Array.length_toList]
    omega
  obtain ⟨ob, at', cl, _⟩ := id here
  have isSl : s.TypeIs (.ref sl) "slice" := ⟨ob, at', cl⟩
  unfold getItem
  try (with_reducible refine wpAny_holding ?_)
  first
    | refine wpAny_bind (wpAny_pure ?_)
    | skip
  refine wpAny_bind (wpAny_sequenceKey ht.typeIs (by decide) ?_)
  refine wpAny_bind (wpAny_callSpecial?_slot (name := Str.ofString "__getitem__") ht.typeIs slot_tuple_getitem ?_)
  refine wpAny_call_entry slot_tuple_getitem ht.typeIs entry_tuple_getitem ?_ (args_tuple_getitem _ _)
  show wpAny _ _ (Builtin.Tuple.tupleItemsOf (.ref t) >>= _) _ _ s
  refine wpAny_bind (tupleItemsOf_ ht (wpAny_bind (wpAny_typeOf isSl ?_)))
  rw [if_pos (by decide)]
  refine wpAny_bind (applied_back here pu ps hn ?_)
  have not1 : ¬ ((((items.size : Int) - 1) == 0 && (-1 : Int) == 1 && (items.size - 1) == items.size) = true) := by
    intro q
    rw [Bool.and_eq_true, Bool.and_eq_true] at q
    exact absurd q.1.2 (by decide)
  show wpAny _ _ (if (((items.size : Int) - 1) == 0 && (-1 : Int) == 1 && (items.size - 1) == items.size) = true then _ else _) _ _ s
  rw [if_neg not1]
  rw [pick_back]
  first
    | exact wpAny_bind (wpAny_bind (m := Builtin.Tuple.tupleExact _) (wpAny_newObj_type (wpAny_pure ⟨_, rfl, wpAny_pure h⟩) fits))
    | exact wpAny_bind (wpAny_bind (m := Builtin.Tuple.tupleExact _) (wpAny_newObj_type (wpAny_pure (wpAny_pure ⟨_, rfl, wpAny_pure h⟩)) fits))
    | exact wpAny_bind (m := Builtin.Tuple.tupleExact _) (wpAny_newObj_type (wpAny_bind (wpAny_pure (wpAny_pure ⟨_, rfl, wpAny_pure h⟩))) fits)
    | exact wpAny_bind (m := Builtin.Tuple.tupleExact _) (wpAny_newObj_type (wpAny_pure ⟨_, rfl, wpAny_pure h⟩) fits)
end
section
variable {X : Cx}
/-- t[:0:-1], t a tuple that is not empty -/
def tBack (K : PySem.W.Frag) (te : TE) : TE := fun σ H Q => te σ H fun x G => ∃ a xs, x = .ref a ∧ SqT K G a xs ∧ 1 ≤ xs.length ∧ ∀ p, G p = none → Q (.ref p) (upd G p (.tup (xs.drop 1).reverse))
theorem pe_back {e : Expr} {te : TE} {k k0 : Nat} {p0 p1 p2 p3 pos : Pos} (he : PE X e te) :
    PE X (.Subscript e (.Slice none (some (.Constant (.int 0) k0 p0)) (some (.UnaryOp .USub (.Constant (.int 1) k p1) p2)) p3) pos) (tBack X.K te) := by
  constructor
  intro pins s0 σ H Q J ask
  refine Subscript_ (thn (he.run pins s0 σ H _ J ask) fun v s1 back => ?_)
  obtain ⟨x, G, J1, rx, a, xs, rfl, hx, hne, q⟩ := back
  cases rx
  have up : PO X (some (.Constant (.int 0) k0 p0)) (tPart (tC (.int 0))) := po_some pe_int
  have st : PO X (some (.UnaryOp .USub (.Constant (.int 1) k p1) p2)) (tPart (tUn (rU fun i => .int (-i)) (tC (.int 1)))) := po_some (pe_un un_neg pe_int)
  refine wpAny_Slice (thn (po_none.run pins s1 σ G (fun o G2 => o = none ∧ G2 = G) J1 ⟨rfl, rfl⟩) fun vl s2 r2 => ?_)
  obtain ⟨l, G2, J2, pl, rfl, rfl⟩ := r2
  refine thn (up.run pins s2 σ G2 (fun o G3 => o = some 0 ∧ G3 = G2) J2 ⟨0, rfl, rfl, rfl⟩) fun vu s3 r3 => ?_
  obtain ⟨u, G3, J3, pu, rfl, rfl⟩ := r3
  refine thn (st.run pins s3 σ G3 (fun o G4 => o = some (-1) ∧ G4 = G3) J3 ⟨1, rfl, -1, rfl, rfl, rfl⟩) fun vs s4 r4 => ?_
  obtain ⟨o, G4, J4, ps, rfl, rfl⟩ := r4
  cases pl
  have J5 : Inv X pins σ G4 { s4 with heap := s4.heap.push { cls := .type "slice", data := .fields #[.none, vu, vs] } } := J4.kept (t' := s4.toks) fun b ob z => Heap.get?_push_of_some _ z
  obtain ⟨its, r, ht, hz⟩ := J5.tuple hx
  have len := r.length
  show wpAny (model X.prog X.w) X.A (subscriptTail e (.Slice none (some (.Constant (.int 0) k0 p0)) (some (.UnaryOp .USub (.Constant (.int 1) k p1) p2)) p3) (.ref a) (.ref s4.heap.objs.size)) (EP X pins σ Q) X.xe _
  refine tail_any (ops := [.ref a, .ref s4.heap.objs.size]) ht.typeIs slot_tuple_getitem.lookup ?_ (by with_unfolding_all rfl)
  refine item_back ht (Heap.IsSliceOf.new _ .none vu vs) pu ps (by rw [List.size_toArray]; omega) ?_ (by rw [List.size_toArray]; omega)
  refine ⟨.ref _, _, J5.laid (t' := s4.toks) (o := .tup (xs.drop 1).reverse) (fun b ob z => Heap.get?_push_of_some _ z) (Nat.le_refl _) ?_, rfl, q _ (J5.hok.fresh (Nat.le_refl _))⟩
  refine ⟨by rw [List.length_reverse, List.length_drop]; omega, _, (r.drop 1).reverse, IsTup.new _ _⟩
end
end Ad

/-! Defs that are called where no repr is under way; repr of data; the end of a law of such a def. -/
namespace Ad
open PySem PySem.Spec PySem.Calls PyProof.Rows L2
theorem deeper_guards {A : Around} {env : Env} (h : A.guards = some []) : (A.deeper env).guards = some [] := by
  first
    | exact h
    | (show (A.deeper env).guards = _; simp [Around.deeper, h])
    | (obtain ⟨a, b, c, d, e⟩ := A; cases h; rfl)
/-- a def's promise, kept wherever no repr is under way -/
structure FnG (P : Program) (w : World) (K : PySem.W.Frag) (mg : Str → Option Value) (base : Heap) (CX : CXT) (k : Nat) (f : Addr) (fd : FuncData) (ps : List Str) (sp : Sp) : Prop where
  len : ∀ vs H Q E, sp vs H Q E → vs.length = ps.length
  run : ∀ (A : Around) (outer : List Env) (s : Shared) (H : Hp) (args : Args) (us : List Value) (vs : List V) (Q : VK) (E : XK), A.guards = some [] → Room k A → Env0 P w K mg base A outer s H → BindsTo s fd args (ps.zip us) → Vals vs us → sp vs H Q E →
    codeAny (model P w) A (.call (.ref f) args) (CR CX outer P w H s Q E) s
/-- a def of the text, its code object told -/
structure FunC (K : PySem.W.Frag) (x qual : Str) (st : Stmt) (f : Addr) (cdv : Value) (fd : FuncData) : Prop where
  ex : ∃ (oc : Value) (od : Option Addr) (kV doc pm : Value) (an : Option Addr) (ct : Value) (osl : Array (Option Value)),
    fd = PySem.W.fnOf x qual (defArgs st) (defBody st) (defScope st) .none kV doc pm an cdv ct ∧ K.lookup f = some ⟨oc, od, .func fd, osl⟩ ∧ PySem.W.codeIn K cdv qual = true
  kp : PySem.W.keepIn K (.ref f) = true
theorem FunC.fun {K : PySem.W.Frag} {x qual : Str} {st : Stmt} {f : Addr} {cdv : Value} {fd : FuncData} (F : FunC K x qual st f cdv fd) : Fun K x qual st f fd := by
  obtain ⟨⟨oc, od, kV, doc, pm, an, ct, osl, h⟩, k⟩ := F
  exact ⟨⟨oc, od, kV, doc, pm, an, cdv, ct, osl, h⟩, k⟩
theorem fng_ofC {CX : CXT} {P : Program} {w : World} {K : PySem.W.Frag} {mg : Str → Option Value} {base : Heap} {k : Nat} {x qual : Str} {st : Stmt} {f : Addr} {cdv : Value} {fd : FuncData} {N ps : List Str} {sp : Sp} (F : FunC K x qual st f cdv fd) (S : FnScope N ps (defScope st))
    (len : ∀ vs H Q E, sp vs H Q E → vs.length = ps.length)
    (body : ∀ (A : Around) (outer : List Env) (s : Shared) (H : Hp) (vs : List V) (Q : VK) (E : XK), A.guards = some [] → Room k (A.deeper (envOfC qual (defScope st) s.heap.objs.size f cdv)) → sp vs H Q E →
      ∃ t, PSs (cxOf CX P w K mg base N qual (defScope st) f cdv A outer s H E) (defBody st) t ∧ t { nx := fun _ H' => Q .non H', rt := Q } (start N vs) H) : FnG P w K mg base CX (k + 1) f fd ps sp := by
  obtain ⟨oc, od, kV, doc, pm, an, ct, osl, rfl, look, code⟩ := F.ex
  constructor
  · exact len
  · intro A outer s H args us vs Q E gd room e0 binds rel asked
    have many := len _ _ _ _ asked
    have kin : K.In s.heap := e0.mod.kin.keeps fun b o e => (e0.bs b o e).1
    have lim : s.heap.NoLimit := e0.mod.nolimit.keeps fun b o e => (e0.bs b o e).1
    have kinds : ∀ y ∈ ps.zip us, (defScope st).names.lookup y.1 = some .local ∨ ((defScope st).names.lookup y.1 = some .cell ∧ ((cellsFrom (s.heap.objs.size + 1) (defScope st).names []).lookup y.1).isSome = true) := by
      rintro ⟨n, v⟩ hy
      rcases S.par n (List.of_mem_zip hy).1 with q | q
      · exact .inl q
      · exact .inr ⟨q, PySem.W.cellsFrom_some _ _ _ (.inl q)⟩
    refine codeAny_call_function room.depth (kin _ _ look) rfl S.co S.gen rfl (PySem.W.codeRec_of kin code) (binds _ _ _ _ ?_)
    refine wpAny_newFunctionEnv_cells S.kind kinds fun env he s1 ready => ?_
    subst he
    refine ⟨lim.keeps ready.toInCall.keep, codeAny_func ?_⟩
    obtain ⟨t, ht, hq⟩ := body A outer s H vs Q E gd (room.deeper _) asked
    have J : Inv (cxOf CX P w K mg base N qual (defScope st) f cdv A outer s H E) [] (start N vs) H s1 := inv_start S room.hd e0 many rel ready
    refine wpAny_mono (ht.run [] s1 (start N vs) H _ J hq) (fun fl s' hs => ?_) fun e s' hs => hs
    have fin : ∀ {σ' : L2.St} {H' : Hp} {v : V} {u : Value}, Inv (cxOf CX P w K mg base N qual (defScope st) f cdv A outer s H E) [] σ' H' s' → RelV v u → Q v H' → CE outer P w H s Q u s' := by
      intro σ' H' v u J' rv q
      exact ⟨v, H', J'.os, J'.bare, J'.base, J'.hok, rv, q⟩
    match fl, hs with
    | .ret u, ⟨v, σ', H', J', rv, q⟩ => exact fin J' rv q
    | .next, ⟨σ', H', J', q⟩ => exact fin (v := V.non) (u := Value.none) J' rfl q
    | .brk, ⟨_, _, _, q⟩ => exact False.elim q
    | .cont, ⟨_, _, _, q⟩ => exact False.elim q
theorem fng_of {CX : CXT} {P : Program} {w : World} {K : PySem.W.Frag} {mg : Str → Option Value} {base : Heap} {k : Nat} {x qual : Str} {st : Stmt} {f : Addr} {fd : FuncData} {N ps : List Str} {sp : Sp} (F : Fun K x qual st f fd) (S : FnScope N ps (defScope st))
    (len : ∀ vs H Q E, sp vs H Q E → vs.length = ps.length)
    (body : ∀ (cdv : Value) (A : Around) (outer : List Env) (s : Shared) (H : Hp) (vs : List V) (Q : VK) (E : XK), A.guards = some [] → Room k (A.deeper (envOfC qual (defScope st) s.heap.objs.size f cdv)) → sp vs H Q E →
      ∃ t, PSs (cxOf CX P w K mg base N qual (defScope st) f cdv A outer s H E) (defBody st) t ∧ t { nx := fun _ H' => Q .non H', rt := Q } (start N vs) H) : FnG P w K mg base CX (k + 1) f fd ps sp := by
  obtain ⟨⟨oc, od, kV, doc, pm, an, cdv, ct, osl, h⟩, kp⟩ := F
  exact fng_ofC (F := ⟨⟨oc, od, kV, doc, pm, an, ct, osl, h⟩, kp⟩) S len (body cdv)
/-- a def that keeps its promise everywhere -/
theorem FnG.of {CX : CXT} {P : Program} {w : World} {K : PySem.W.Frag} {mg : Str → Option Value} {base : Heap} {k : Nat} {f : Addr} {fd : FuncData} {ps : List Str} {sp : Sp} (F : FnOk P w K mg base CX k f fd ps sp) : FnG P w K mg base CX k f fd ps sp :=
  ⟨F.len, fun A outer s H args us vs Q E _ => F.run A outer s H args us vs Q E⟩
section
variable {X : Cx} {CX : CXT} {k : Nat} {f : Addr} {fd : FuncData} {ps : List Str} {sp : Sp} {E : XK} {x : Str} {p pos : Pos} {e : Expr} {es : List Expr} {t : TA}
/-- f(e, ..) of such a def, where no repr is under way -/
theorem pe_callG (F : FnG X.prog X.w X.K X.mg X.base CX k f fd ps sp) (gd : X.A.guards = some []) (hr : Room k X.A) (hg : Gl X x) (hm : X.mg x = some (.ref f)) (hk : PySem.W.keepIn X.K (.ref f) = true) (hb : Binds X.K fd ps []) (hx : Passes CX X E)
    (pa : PA X (e :: es) t) (hdb : (x == ("__debug__" : Str)) = false := by decide) (hst : starEach (e :: es) X.env = (false, eval e X.env) :: starEach es X.env := by rfl) (hpl : (backTo pos (starEach es X.env)).any (·.1) = false := by rfl) :
    PE X (.Call (.Name x p) (e :: es) [] pos) (tCall sp [] E t) := by
  constructor
  intro pins s σ H Q J ask
  refine wpAny_Call_Name_kw (ld_glob J hg hm ?_ hdb)
  refine PySem.W.callWith_K (h₀ := X.base) J.ok.mod.kin hk (thn (pa.run pos pins s σ H _ (J.tok _) ask) fun us s1 back => ?_) hst hpl
  obtain ⟨vs, G, J1, rel, q⟩ := back
  refine ⟨J1.kIn, ?_⟩
  have q' : sp vs G Q E := by
    have z : sp (vs ++ []) G Q E := q
    rw [List.append_nil] at z
    exact z
  have many : us.length = ps.length := by
    rw [← rel.length]
    exact F.len _ _ _ _ q'
  have b := hb s1 us J1.kIn (by rw [List.append_nil]; exact many)
  rw [List.append_nil] at b
  refine wpAny_call (codeAny_mono (F.run X.A X.stack s1 G ⟨us, []⟩ us vs Q E gd hr J1.env0 b rel q') fun r s' back => ?_)
  match r, back with
  | .error er, back => exact hx pins σ G s1 er s' J1 back
  | .ok (.ret u), back => exact J1.after back
  | .ok .next, back => exact False.elim back
  | .ok .brk, back => exact False.elim back
  | .ok .cont, back => exact False.elim back
/-- repr(x) of data, where no repr is under way -/
theorem call_reprD (gd : X.A.guards = some []) (hu : X.A.units + 64 < cLine) : CallR X (.builtin "repr") (fun xs H Q => ∃ (v : V) (d : PyData), xs = [v] ∧ Dp X.K H v d ∧ d.showable = true ∧ d.hasDict = false ∧ d.depth ≤ 60 ∧ d.shown.length ≤ sizeLine ∧ Q (.str d.shown) H) := by
  intro pins s σ H xs us Q J rel ask
  obtain ⟨v, d, rfl, hd, show', plain, deep, fits, q⟩ := ask
  match us, rel with
  | [u], .cons r .nil =>
    obtain ⟨as, reads⟩ := Dp.reads J d v u hd r
    cases reads with
    | none => exact P.repr_of_none ⟨.str _, H, J.tok _, ⟨_, rfl⟩, q⟩
    | bool b =>
      refine P.repr_of_bool ⟨.str _, H, J.tok _, ⟨_, rfl⟩, ?_⟩
      cases b <;> exact q
    | int i tk => exact P.repr_of_int (of_decide_eq_true show') ⟨.str _, H, J.tok _, ⟨_, rfl⟩, q⟩
    | str z tk => exact P.repr_of_str ⟨.str _, H, J.tok _, ⟨_, rfl⟩, q⟩ fits
    | list h1 h2 h3 h4 => exact repr_of_reads' (Reads.list h1 h2 h3 h4) show' (PyData.noDict_hsm plain) gd (by omega) (fun _ _ z => z) (fun h' u tk kp => ⟨.str _, H, J.kept (t' := tk) kp, ⟨_, rfl⟩, q⟩) fits
    | tuple h1 h2 h3 h4 => exact repr_of_reads' (Reads.tuple h1 h2 h3 h4) show' (PyData.noDict_hsm plain) gd (by omega) (fun _ _ z => z) (fun h' u tk kp => ⟨.str _, H, J.kept (t' := tk) kp, ⟨_, rfl⟩, q⟩) fits
    | dict h1 h2 h3 h4 h5 => cases plain
end
/-- the call of a law by such a def, from the state behind the top -/
theorem lawG {P : Program} {w : World} {K : PySem.W.Frag} {mg mb : Str → Option Value} {CX : CXT} {k : Nat} {fa a : Addr} {fd : FuncData} {x : Str} {sp : Sp} {s : Shared} {vs : List Value} {ns : List Int}
    (kin : K.In s.heap) (gl : s.heap.Ns mainGlobals mg) (bl : s.heap.Ns builtinsNs mb) (same : ∀ x : Str, x ≠ "__name__" → mb x = bootBuiltins x) (lim : s.heap.NoLimit) (gens : s.gens = #[])
    (at' : s.heap.get? a = some { cls := .type "list", data := .seq vs.toArray }) (nums : IntsAre vs ns) (few : ns.length ≤ sizeLine) (room : Room k callerA)
    (F : ∀ base : Heap, K.In base → base.Ns mainGlobals mg → FnG P w K mg base CX k fa fd [x] sp) (bind : ∀ (s : Shared) (u : Value), BindsTo s fd ⟨[u], []⟩ [(x, u)])
    (asked : ∀ H : Hp, Only H → SqL K H a (ns.map V.int) → sp [.ref a] H (fun v _ => v = .bl true) fun _ _ _ => False) (noExc : ∀ H e s', CX [] H s (fun _ _ _ => False) e s' → False) :
    codeAny (model P w) callerA (.call (.ref fa) ⟨[.ref a], []⟩) (fun r s' => r = .ok (.ret (.bool true)) ∧ OldK s.heap s'.heap ∧ s'.os = s.os ∧ AllBare s'.gens) s := by
  have rel := vals_ints nums
  have many := nums.length
  have from' : ∀ H : Hp, Only H → SqL K H a (ns.map V.int) → HOk P w H s.heap → (∀ b, H b ≠ none → b = a) → (H a ≠ none → K.lookup a = none) →
      codeAny (model P w) callerA (.call (.ref fa) ⟨[.ref a], []⟩) (fun r s' => r = .ok (.ret (.bool true)) ∧ OldK s.heap s'.heap ∧ s'.os = s.os ∧ AllBare s'.gens) s := by
    intro H only seq ok onlyA notK
    have hid : ∀ {b : Addr} {o : Obj}, s.heap.get? b = some o → H b = none → (hidT s.heap H).get? b = some o := by
      intro b o e n
      exact hidT_get e n
    have dict0 : ∀ {b : Addr} {o : Obj} {es : Array DictEntry} {ep : Nat}, s.heap.get? b = some o → o.data = .dict es ep → H b = none := by
      intro b o es ep e d
      cases q : H b with
      | none => rfl
      | some u =>
        obtain rfl : b = a := onlyA b (by rw [q]; exact Option.some_ne_none u)
        rw [at'] at e
        cases e
        exact nomatch (show Data.seq vs.toArray _ = Data.dict es ep from d)
    have ns' : ∀ {b : Addr} {m : Str → Option Value}, s.heap.Ns b m → (hidT s.heap H).Ns b m := by
      rintro b m ⟨o, es, ep, e, d, r⟩
      exact ⟨o, es, ep, hid e (dict0 e d), d, r⟩
    have kin' : K.In (hidT s.heap H) := by
      intro b o e
      refine hid (kin b o e) ?_
      cases q : H b with
      | none => rfl
      | some u =>
        obtain rfl : b = a := onlyA b (by rw [q]; exact Option.some_ne_none u)
        rw [notK (by rw [q]; exact Option.some_ne_none u)] at e
        cases e
    have mod : Mod K mg (hidT s.heap H) := by
      refine ⟨kin', ns' gl, ⟨mb, ns' bl, same⟩, ?_⟩
      obtain ⟨mc, h1, h2⟩ := lim
      exact ⟨mc, ns' h1, h2⟩
    have none' : ∀ {q : Prop} (b : Addr), b ∈ ([] : List Addr) → q := fun {q} b hb => absurd hb (by simp)
    have env : Env0 P w K mg (hidT s.heap H) callerA [] s H := ⟨rfl, mod, fun b o e => of_hidT e, Nat.le_of_eq (hidT_size _ _), trivial, fun b hb => none' b hb, ok, .of_eq gens⟩
    have run := (F _ kin' (ns' gl)).run callerA [] s H ⟨[.ref a], []⟩ [.ref a] [.ref a] _ _ rfl room env (bind s (.ref a)) (.cons rfl .nil) (asked H only seq)
    refine codeAny_mono run fun r s' back => ?_
    match r, back with
    | .error e, back => exact (noExc H e s' back).elim
    | .ok .next, back => exact False.elim back
    | .ok .brk, back => exact False.elim back
    | .ok .cont, back => exact False.elim back
    | .ok (.ret u), ⟨v, H', os, bare, un, ok', rv, (q : v = .bl true)⟩ =>
      subst q
      obtain rfl : u = Value.bool true := rv
      refine ⟨rfl, OldK.of_keep fun b o e => ?_, os, bare⟩
      cases q : H b with
      | none => exact un.keep b o e q (fun z => none' b z) (by simp)
      | some u =>
        rcases only b with z | ⟨ob, xs, z⟩
        · rw [q] at z
          cases z
        · obtain ⟨e1, _⟩ := ok b _ z
          obtain ⟨e2, _⟩ := ok' b _ (un.frzs b ob _ z)
          rw [e] at e1
          cases e1
          exact e2
  cases look : K.lookup a with
  | some o =>
    have e := kin a o look
    rw [at'] at e
    cases e
    refine from' (fun _ => none) (fun _ => .inl rfl) (.inr ⟨_, vs.toArray, _, look, rfl, rfl, rfl, ?_, by simpa using rel⟩) ?_ (fun b z => absurd rfl z) fun z => absurd rfl z
    · rw [List.size_toArray, many]
      exact few
    · intro b u z
      exact nomatch (show (none : Option HO) = some u from z)
  | none =>
    refine from' (fun b => if b = a then some (.frz { cls := .type "list", data := .seq vs.toArray } (.lst (ns.map V.int))) else none) (fun b => ?_) (.inl (.inr ⟨{ cls := .type "list", data := .seq vs.toArray }, if_pos rfl⟩)) (fun b u z => ?_) (fun b z => ?_) fun _ => look
    all_goals by_cases hb : b = a
    · exact .inr ⟨_, _, if_pos hb⟩
    · exact .inl (if_neg hb)
    · cases (if_pos hb).symm.trans z
      subst hb
      refine ⟨at', ?_, vs, _, rel, at'⟩
      rw [List.length_map]
      exact few
    · cases (if_neg hb).symm.trans z
    · exact hb
    · exact absurd (if_neg hb) z
/-- the head's goal from such a law's promise -/
theorem walkG {l : PySem.W.OpenLaw} {n k : Nat} {q : Program} {loose : List Str} {XP : (Str → Option Value) → Heap → Prop} {YP : World → Heap → Prop} {d : DefRec} {K : Params → PySem.W.Frag} {CX : World → CXT} {sp : World → Sp} {x : Str}
    (hn : l.most = some n) (hn2 : n ≤ sizeLine) (hdf : d.params.defaults = []) (room : Room k callerA) (hY : ∀ (w : World) (h : Heap), YP w h → (K w.params).In h)
    (F : ∀ (w : World) (mg : Str → Option Value) (fa : Addr) (h : Heap), (K w.params).In h → h.Ns mainGlobals mg → mg d.name = some (.ref fa) →
      ∃ fd : FuncData, (∀ (s : Shared) (u : Value), BindsTo s fd ⟨[u], []⟩ [(x, u)]) ∧ ∀ base : Heap, (K w.params).In base → base.Ns mainGlobals mg → FnG l.prog w (K w.params) mg base (CX w) k fa fd [x] (sp w))
    (asked : ∀ (w : World) (H : Hp) (a : Addr) (ns : List Int), ns.length ≤ n → Only H → SqL (K w.params) H a (ns.map V.int) → sp w [.ref a] H (fun v _ => v = .bl true) fun _ _ _ => False)
    (noExc : ∀ (w : World) (H : Hp) (s : Shared) (e : Value) (s' : Shared), CX w [] H s (fun _ _ _ => False) e s' → False) :
    PySem.W.WalkO q loose XP YP l.row.toRowW d [] (fun f vs => PySem.call f vs) := by
  refine Att.attach_call hn hdf ?_
  intro w s0 s1 mg mb fa o pm cd doc a vs ns G Y ho hd hcd hmg hobj nums short gens
  have kin := hY w _ Y
  obtain ⟨fd, binds, prom⟩ := F w mg fa _ kin G.T.g hmg
  exact lawG kin G.T.g G.T.b G.T.builtins G.T.nolimit gens hobj nums (Nat.le_trans short hn2) room prom binds (fun H only seq => asked w H a ns short only seq) fun H e s' => noExc w H s1 e s'
end Ad

/-! tuple(x for x, y in pairs). -/
namespace Ad
open PySem PySem.Spec PySem.Calls PyProof.Rows L2 GxR
/-- tuple(xa for xa, xb in te), te a list of pairs; P the def's table of code objects -/
def tTupT (K : PySem.W.Frag) (P : Addr) (te : TE) : TE := fun σ H Q => te σ H fun v G => ∃ (l : Addr) (ps : List (Addr × V × V)), v = .ref l ∧ SqL K G l (ps.map fun t => V.ref t.1) ∧ (∀ t ∈ ps, G t.1 = some (.tup [t.2.1, t.2.2])) ∧ TabG G P ∧
  ps.length ≤ 100000 ∧ ∀ q G2, Tabbed P G G2 → G2 q = none → Q (.ref q) (upd G2 q (.tup (ps.map (·.2.1))))
theorem tup2 {h : Heap} {a : Addr} {x y : Value} (is : IsTup h a [x, y].toArray) : h.IsTuple a #[x, y] := by
  obtain ⟨o, e, c, n, d⟩ := is
  exact ⟨o, e, c, n, d⟩
theorem vals_each : ∀ {ps : List (Addr × V × V)} {us : List Value}, us.length = ps.length → (∀ (j : Nat) (u : Value), us[j]? = some u → ∃ t : Addr × V × V, ps[j]? = some t ∧ RelV t.2.1 u) → Vals (ps.map (·.2.1)) us
  | [], [], _, _ => .nil
  | [], _ :: _, h, _ => nomatch h
  | _ :: _, [], h, _ => nomatch h
  | t :: ps, u :: us, h, each => by
    obtain ⟨t', e, r⟩ := each 0 u rfl
    cases e
    exact .cons r (vals_each (Nat.succ.inj h) fun j u e => each (j + 1) u e)
section
variable {X : Cx}
theorem pe_tupT {c P : Addr} {iter : Expr} {xa xb : Str} {pa pb pt pe p pos gpos : Pos} {kt : Nat} {scope : Scope} {te : TE} {k : Nat}
    (room : Room k X.A) (hg : Gl X "tuple") (hm : X.mg "tuple" = none) (TB : TabB X.base X.mg c P) (code : X.env.code = .ref c) (S : GenS X.env scope xa) (lb : scope.names.lookup xb = some .local) (hab : xa ≠ xb) (hi : PE X iter te) (fold : ∀ v, genFold iter X.env v = pure v)
    (hdb : (xa == ("__debug__" : Str)) = false := by decide)
    (hst : starEach [.GeneratorExp (.Name xa pe) [⟨.Tuple [.Name xa pa, .Name xb pb] kt pt, iter, [], 0⟩] scope gpos] X.env = (false, eval (.GeneratorExp (.Name xa pe) [⟨.Tuple [.Name xa pa, .Name xb pb] kt pt, iter, [], 0⟩] scope gpos) X.env) :: starEach [] X.env := by rfl) :
    PE X (.Call (.Name "tuple" p) [.GeneratorExp (.Name xa pe) [⟨.Tuple [.Name xa pa, .Name xb pb] kt pt, iter, [], 0⟩] scope gpos] [] pos) (tTupT X.K P te) := by
  constructor
  intro pins s σ H Q J0 ask
  refine wpAny_Call_Name_kw (ld_blt J0 hg hm boot_tuple ?_)
  refine PyProof.Rows.callWith_type1 ?_ hst (by rfl)
  rw [hst]
  show wpAny _ _ (spliced ((false, eval (.GeneratorExp (.Name xa pe) [⟨.Tuple [.Name xa pa, .Name xb pb] kt pt, iter, [], 0⟩] scope gpos) X.env) :: backTo pos (starEach [] X.env))) _ _ s
  refine Calls.spliced_cons ?_
  refine wpAny_GeneratorExp_walksQT room.hd S.co (closure_ok S.free) S.cell S.dot S.loc lb hab S.kind (by have := room.dp; omega) ?_ fold
  refine thn (hi.run pins s σ H _ J0 ask) fun xv s1 back => ?_
  obtain ⟨v, G, J, rv, l, ps, rfl, seq, pairs, ⟨tab, hP, ht⟩, short, done⟩ := back
  obtain rfl : xv = Value.ref l := rv
  obtain ⟨its, rel, isl, _⟩ := J.list seq
  have isL := isl.isList
  have len : its.length = ps.length := by rw [← rel.length, List.length_map]
  have item : ∀ j, j < its.toArray.size → ∃ t, ps[j]? = some t ∧ its.toArray[j]? = some (.ref t.1) := by
    intro j hj
    have h1 : j < ps.length := by rw [← len]; simpa using hj
    refine ⟨ps[j], List.getElem?_eq_getElem h1, ?_⟩
    have e : (ps.map fun t => V.ref t.1)[j]? = some (V.ref ps[j].1) := by rw [List.getElem?_map, List.getElem?_eq_getElem h1]; rfl
    obtain ⟨u, hu, ru⟩ := Vals.get rel e
    cases ru
    rw [List.getElem?_toArray]
    exact hu
  have tupAt : ∀ t ∈ ps, ∃ va vb, RelV t.2.1 va ∧ RelV t.2.2 vb ∧ s1.heap.IsTuple t.1 #[va, vb] := by
    intro t hmem
    obtain ⟨_, us, r, is⟩ := (show ObjOk X.prog X.w G s1.heap t.1 (.tup [t.2.1, t.2.2]) from J.hok _ _ (pairs t hmem))
    cases r with
    | cons r1 r =>
      cases r with
      | cons r2 r =>
        cases r
        exact ⟨_, _, r1, r2, tup2 is⟩
  let Ts : Nat → Addr := fun j => (ps[j]?.map (·.1)).getD 0
  have hit : ∀ j, j < its.toArray.size → its.toArray[j]? = some (.ref (Ts j)) := by
    intro j hj
    obtain ⟨t, e1, e2⟩ := item j hj
    simp only [Ts, e1, Option.map_some, Option.getD_some]
    exact e2
  have some' : ∀ j, ∃ va vb : Value, j < its.toArray.size → ∃ t, ps[j]? = some t ∧ RelV t.2.1 va ∧ RelV t.2.2 vb ∧ s1.heap.IsTuple (Ts j) #[va, vb] := by
    intro j
    by_cases hj : j < its.toArray.size
    · obtain ⟨t, e1, _⟩ := item j hj
      obtain ⟨va, vb, r1, r2, is⟩ := tupAt t (List.mem_of_getElem? e1)
      refine ⟨va, vb, fun _ => ⟨t, e1, r1, r2, ?_⟩⟩
      simp only [Ts, e1, Option.map_some, Option.getD_some]
      exact is
    · exact ⟨.none, .none, fun h => absurd h hj⟩
  let va : Nat → Value := fun j => Classical.choose (some' j)
  let vb : Nat → Value := fun j => Classical.choose (Classical.choose_spec (some' j))
  have at' : ∀ j, j < its.toArray.size → ∃ t, ps[j]? = some t ∧ RelV t.2.1 (va j) ∧ RelV t.2.2 (vb j) ∧ s1.heap.IsTuple (Ts j) #[va j, vb j] := fun j => Classical.choose_spec (Classical.choose_spec (some' j))
  refine wpAny_pyIter_list isL ?_
  generalize ho : ({ cls := .type "list_iterator", data := .fields #[.ref l, .int 0 0] } : Obj) = o
  have iter0 : (s1.heap.push o).IsListIter s1.heap.objs.size l 0 := by
    subst ho
    exact ⟨_, Heap.get?_push_size _ rfl, rfl, rfl⟩
  have lLt : l < s1.heap.objs.size := by
    obtain ⟨_, e, _⟩ := _root_.id isL
    exact Heap.lt_size e
  have tabS : s1.heap.get? P = some { cls := .none, data := .fields tab } := J.hok P _ hP
  have pLt : P < s1.heap.objs.size := Heap.lt_size tabS
  have tab2 : (s1.heap.push o).get? P = some { cls := .none, data := .fields tab } := Heap.get?_push_of_some _ tabS
  have cd : PySem.W.CodeHd (s1.heap.push o) c P := TB.code.keeps fun b u e => Heap.get?_push_of_some _ (J.bk b u e)
  have lim2 : (s1.heap.push o).NoLimit := J.nolimit.push o
  have tLt : ∀ j, j < its.toArray.size → Ts j < s1.heap.objs.size := by
    intro j hj
    obtain ⟨_, _, _, _, _, e, _⟩ := at' j hj
    exact Heap.lt_size e
  have tNe : ∀ j, j < its.toArray.size → Ts j ≠ P := by
    intro j hj z
    obtain ⟨_, _, _, _, ob, e, cl, _⟩ := at' j hj
    rw [z, tabS] at e
    cases e
    cases cl
  have lNe : l ≠ P := by
    intro z
    obtain ⟨_, e, _, _, d⟩ := _root_.id isL
    rw [z, tabS] at e
    cases e
    cases d
  have sz2 : (s1.heap.push o).objs.size = s1.heap.objs.size + 1 := Heap.size_push ..
  have goOn : ∀ (cv : Value) (h3 : Heap) (tk : Nat) (tab' : Array Value), Heap.ExtBut P (s1.heap.push o) h3 → (s1.heap.push o).objs.size ≤ h3.objs.size → h3.get? P = some { cls := .none, data := .fields tab' } → (∃ more, tab' = tab ++ more) → TriplesOk tab'.toList →
      wpAny (model X.prog X.w) X.A (builtinsFor X.env.globals X.env.builtins) (fun bi s₄ =>
        ∃ I fp wr n₀ Pt St₀ Mid pz F, Value.ref s1.heap.objs.size = .ref I ∧ (∀ A' : Around, A'.handled = none → WalksU X.prog X.w A' I fp wr n₀ Pt St₀ Mid) ∧ (∀ i vals, Pt i vals → ∃ va vb, vals = #[va, vb]) ∧ St₀ 0 s₄.heap ∧ (∀ b ∈ fp, b < s₄.heap.objs.size) ∧ s₄.heap.NoLimit ∧ cStatics ∉ wr ∧
          (∀ href : Heap, (∀ b o, s₄.heap.get? b = some o → href.get? b = some o) →
            QuietGenT X.prog X.w (genEnv scope (cloFrom X.env.cells scope.names []) s₄.heap.objs.size cv bi X.env) xa xb [] (.Name xa pe) (List.range s₄.heap.objs.size) wr Pt pz F href) ∧
          (∀ a h₅ tk gs, gs.bare = true → s₄.heap.objs.size < a → h₅.objs.size = a + 1 → (∀ b o, s₄.heap.get? b = some o → h₅.get? b = some o) →
            WalksS X.prog X.w X.A.in4 a (a :: s₄.heap.objs.size :: List.range s₄.heap.objs.size) (s₄.heap.objs.size :: wr) (GenOnlyQ s₄.gens.size) (passing pz n₀ 0).length
              (fun j y => ∃ i, (passing pz n₀ 0)[j]? = some i ∧ F i y) (GenAt X.prog X.w X.A.in4 a s₄.gens.size s₄.heap.objs.size (List.range s₄.heap.objs.size) wr pz n₀ F) →
            GenAt X.prog X.w X.A.in4 a s₄.gens.size s₄.heap.objs.size (List.range s₄.heap.objs.size) wr pz n₀ F 0 { s₄ with gens := s₄.gens.push gs, toks := tk, heap := h₅ } →
            wpAny (model X.prog X.w) X.A (spliced (backTo pos (starEach [] X.env))) (fun us s₁ => wpAny (model X.prog X.w) X.A (call (.type "tuple") (.ref a :: us)) (EP X pins σ Q) X.xe s₁) X.xe { s₄ with gens := s₄.gens.push gs, toks := tk, heap := h₅ })) X.xe { s1 with heap := h3, toks := tk } := by
    intro cv h3 tk tab' ext grown tab3 more ok3
    obtain ⟨bm, ob, e1, e2, e3, e4, e5, e6, e7, e8⟩ := TB.bm
    have statP : cStatics ≠ P := by
      intro e
      obtain ⟨_, hns, _⟩ := J.nolimit
      obtain ⟨o', es, ep, ho', hd, _⟩ := hns
      rw [e, tabS] at ho'
      cases ho'
      cases hd
    have statLt : cStatics < s1.heap.objs.size := by
      obtain ⟨_, hns, _⟩ := J.nolimit
      exact hns.lt
    have keep3 : ∀ b u, b ≠ P → s1.heap.get? b = some u → h3.get? b = some u := fun b u hb e => ext b u hb (Heap.get?_push_of_some _ e)
    refine wpAny_builtinsFor (m := X.mg) (by rw [J.ok.glob]; exact ((J.mod.glob.keeps J.bk).push o).extBut ext TB.gP) e1 e2 (keep3 _ _ e4 (J.bk _ _ e5)) e6 e7 e8 ?_
    have isL3 : h3.IsList l its.toArray := by
      obtain ⟨ob', e, r⟩ := _root_.id isL
      exact ⟨ob', keep3 _ _ lNe e, r⟩
    have iter3 : h3.IsListIter s1.heap.objs.size l 0 := iter0.at fun u e => ext _ u (Nat.ne_of_gt pLt) e
    have tup3 : ∀ j, j < its.toArray.size → h3.IsTuple (Ts j) #[va j, vb j] := by
      intro j hj
      obtain ⟨_, _, _, _, ob', e, r⟩ := at' j hj
      exact ⟨ob', keep3 _ _ (tNe j hj) e, r⟩
    refine ⟨s1.heap.objs.size, _, [s1.heap.objs.size], its.toArray.size, (fun j v => v = #[va j, vb j]), _, _, (fun _ => true), (fun j y => y = va j), rfl,
      (fun A' hA => WalksU.listOfTuples hA s1.heap.objs.size l (Nat.ne_of_lt lLt) its.toArray Ts (fun j => #[va j, vb j]) hit fun j hj => Nat.ne_of_lt (tLt j hj)), (fun i vals e => ⟨_, _, e⟩), ⟨iter3, isL3, tup3⟩, ?_, lim2.extBut ext statP, ?_, ?_, ?_⟩
    · intro b hb
      show b < h3.objs.size
      have up : s1.heap.objs.size < h3.objs.size := by omega
      rcases List.mem_cons.mp hb with z | hb
      · rw [z]
        exact up
      · rcases List.mem_cons.mp hb with z | hb
        · rw [z]
          exact Nat.lt_trans lLt up
        · obtain ⟨j, hj, z⟩ := List.mem_map.mp hb
          rw [← z]
          exact Nat.lt_trans (tLt j (List.mem_range.mp hj)) up
    · intro z
      rcases List.mem_cons.mp z with z | z
      · exact Nat.ne_of_lt statLt z
      · cases z
    · intro href _
      constructor
      · intro A' E' i a b s₂ m₂ _ _ _ _ _ _
        simp only [List.forIn_nil]
        exact wpAny_pure ⟨rfl, keeps_refl _⟩
      · intro A' E' i a b s₂ m₂ _ hP' _ hn hma _ _
        refine wpAny_Name (wpAny_loadName_local S.kind S.loc hn hma ?_) hdb
        refine ⟨?_, keeps_refl _⟩
        have z := congrArg Array.toList hP'
        simpa using congrArg List.head? z
    · intro g h5 tk5 gs bare hag hsz5 keep5 W5 gat
      simp only [GxR.passing_true, List.length_range] at W5
      show wpAny _ _ (spliced []) _ _ _
      refine Calls.spliced_nil ?_
      have below : ∀ b ∈ g :: h3.objs.size :: List.range h3.objs.size, b < h5.objs.size := by
        intro b hb
        have e5 : h5.objs.size = g + 1 := hsz5
        have e6 : h3.objs.size < g := hag
        rw [e5]
        rcases List.mem_cons.mp hb with z | hb
        · rw [z]
          exact Nat.lt_succ_self _
        · rcases List.mem_cons.mp hb with z | hb
          · rw [z]
            exact Nat.lt_succ_of_lt e6
          · exact Nat.lt_succ_of_lt (Nat.lt_trans (List.mem_range.mp hb) e6)
      refine PySem.call_tuple_gen W5.in4_3 (fun i s9 h9 => h9.1.typeIs) gat below List.mem_cons_self (fun s' acc hmv hit' => ?_) (by rw [List.size_toArray, len, sizeLine_eq]; omega)
      obtain ⟨mo, em⟩ := more
      have out : ∀ b u, s1.heap.get? b = some u → b ∉ h3.objs.size :: [s1.heap.objs.size] := by
        intro b u e hb
        have hl := Heap.lt_size e
        rcases List.mem_cons.mp hb with z | z
        · rw [z] at hl
          have : h3.objs.size < s1.heap.objs.size := hl
          omega
        · rcases List.mem_cons.mp z with z | z
          · rw [z] at hl
            exact Nat.lt_irrefl _ hl
          · cases z
      have J2 := inv_tab (more := mo) (h' := s'.heap) (g' := s'.gens) (d' := s'.drawn) (t' := s'.toks) J hP (fun b u hb e => hmv.heap b u (out b u e) (keep5 b u (keep3 b u hb e)))
        (by rw [← em]; exact hmv.heap P _ (out P _ tabS) (keep5 P _ tab3)) (AllBare.movedS (J.bare.push bare) hmv)
      rw [sh_eta s1 s' hmv.os] at J2
      have new : (upd G P (.tbl (tab ++ mo))) s'.heap.objs.size = none := J2.hok.fresh (Nat.le_refl _)
      have vals : Vals (ps.map (·.2.1)) acc.toList := by
        have sz : acc.toList.length = ps.length := by
          rw [Array.length_toList, hit'.1, List.size_toArray, len]
        refine vals_each sz ?_
        intro j u e
        obtain ⟨i, hi, e2⟩ := hit'.2 j u (by rw [← Array.getElem?_toList]; exact e)
        obtain ⟨hj, ej⟩ := List.getElem?_eq_some_iff.mp hi
        rw [List.getElem_range] at ej
        subst ej
        have hj' : j < its.toArray.size := by simpa using hj
        obtain ⟨t, e1, r1, _⟩ := at' j hj'
        rw [e2]
        exact ⟨t, e1, r1⟩
      refine ⟨.ref _, upd (upd G P (.tbl (tab ++ mo))) s'.heap.objs.size (.tup (ps.map (·.2.1))), J2.laid (t' := s'.toks) (fun b u e => Heap.get?_push_of_some _ e) (Nat.le_refl _) ?_, rfl, ?_⟩
      · refine ⟨by rw [List.length_map, sizeLine_eq]; omega, acc.toList, vals, ?_⟩
        have e : acc.toList.toArray = acc := by simp
        rw [e]
        exact ⟨_, Heap.get?_push_size _ rfl, rfl, _, rfl⟩
      · exact done _ _ ⟨⟨tab ++ mo, upd_same, by rw [← em]; exact ok3⟩, fun b hb => upd_ne hb⟩ new
  refine ⟨lim2, ?_⟩
  cases hf : codeAmong gpos tab.toList with
  | none =>
    refine wpAny_genexprCodeX code (cd.code tab2 ht) (cd.tab tab2) hf fun c' h' tk hx hge hlt hco' _ htab' _ => ?_
    obtain ⟨o1, vs, f1, tf, fl, tg, inF, tx, tt, op, _, _, _, _, _, _, _, _, _, htr, _⟩ := hco'
    exact goOn _ h' tk _ hx (Nat.le_trans hge (Nat.le_of_lt hlt)) htab'.2 ⟨_, rfl⟩ htr
  | some cv =>
    refine wpAny_genexprCode_hit code (cd.code tab2 ht) hf ?_
    exact goOn cv (s1.heap.push o) s1.toks tab (Heap.ExtBut.refl _ _) (Nat.le_refl _) tab2 ⟨#[], by simp⟩ ht
end
end Ad

/-! Sets of whole numbers: by a comprehension, from a list. -/
namespace Ad
open PySem PySem.Spec PySem.Calls PyProof.Rows L2
abbrev no' : Int → Bool := fun _ => false
abbrev add' (S : Int → Bool) (c : Int) : Int → Bool := fun j => S j || decide (j = c)
section
variable {X : Cx}
theorem setO_add {pins : List (Addr × Obj)} {σ : L2.St} {G : Hp} {s : Shared} {E : Value → Shared → Prop} {D : Addr} {S : Int → Bool} {n : Nat} {y : Int} {tk : Tok} {Q : Value → Shared → Prop} (J : Inv X pins σ G s) (hD : G D = some (SetO X.w D S n)) (room : n + 1 < scanBound)
    (go : ∀ s', Inv X pins σ (upd G D (SetO X.w D (add' S y) (if S y = true then n else n + 1))) s' → Q .none s') : wpAny (model X.prog X.w) X.A (call (.builtin "set.add") [.ref D, .int y tk]) Q E s := by
  refine setR_add (setO_get J hD) room fun h2 only grown => ?_
  have there : ∃ u, h2.get? D = some u := by
    obtain ⟨ob, _, _, _, e, _⟩ := grown
    exact ⟨ob, e⟩
  refine go _ (J.write (e := D) (t' := s.toks + 1) ?_ (.inl rfl) (fun b u hb hu => (only.2 b hb).trans hu) there (setO_new grown))
  rw [hD]
  exact True.intro
/-- {elt for target in iter if ..}, elt a whole number: D the new set -/
def tSetI (w : World) (wi : TI) (g : TG) (tt : TT) (te : TE) (vs : List Nat) : TE := fun σ H Q => wi σ H fun J G => ∀ D, G D = none → ∃ W : Nat → Nat → Hp → Prop, (∃ m, W 0 m (upd G D (SetO w D no' 0))) ∧ ∀ i m H, W i m H →
  (J.stop i H ∧ Q (.ref D) H) ∨ (J.go i H ∧ ∃ Nx : Hp → Prop, (∀ H', Nx H' → ∃ m', m' < m ∧ W (i + 1) m' H') ∧ ∀ x H', J.yld i H x H' → g x (wipe σ vs) H' fun σ2 H2 => wipe σ2 vs = wipe σ vs ∧ tt σ2 H2 fun b H3 =>
    if b = true then te σ2 H3 fun y H4 => ∃ (c : Int) (S : Int → Bool) (n : Nat), y = .int c ∧ H4 D = some (SetO w D S n) ∧ n + 1 < scanBound ∧ Nx (upd H4 D (SetO w D (add' S c) (if S c = true then n else n + 1))) else Nx H3)
theorem set_fresh (w : World) (h : Heap) : SetR w (h.push { cls := .type "set", dict := none, data := .set #[] 0 (.fresh 0 0 (!w.params.followText "set-order")) }) h.objs.size no' 0 := setR_fresh w
theorem setI_core {pins : List (Addr × Obj)} {s : Shared} {σ : L2.St} {H : Hp} {Q : VK} {elt tg iter : Expr} {ifs : List Expr} {scope : Scope} {own : List (PySem.Str × Nat)} {pos pos' : Pos} {wi : TI} {g : TG} {tt : TT} {te : TE} {use : Option (Value → Sem Unit)} {Qf : Value → Shared → Prop}
    (calm : X.calm = true) (nodup : X.N.Nodup) (I0 : Inv X pins σ H s) (walked : PI X tg iter wi) (blk : BlkOk X.N X.env.scope scope own)
    (gg : ∀ (s : Shared) (H : Hp) (C : Addr) (cl : List (PySem.Str × Addr)) (fp : List Addr), PG (X.blk s H scope (compEnvC scope cl C X.env) fp) tg g) (gt : ∀ (s : Shared) (H : Hp) (C : Addr) (cl : List (PySem.Str × Addr)) (fp : List Addr), PTs (X.blk s H scope (compEnvC scope cl C X.env) fp) ifs tt)
    (ge : ∀ (s : Shared) (H : Hp) (C : Addr) (cl : List (PySem.Str × Addr)) (fp : List Addr), PE (X.blk s H scope (compEnvC scope cl C X.env) fp) elt te) (fold : ∀ x, foldedSetIterable iter X.env x = pure x)
    (ask : tSetI X.w wi g tt te (own.map (·.2)) σ H Q)
    (back : ∀ D C s' m H', Inv X pins σ H' s' → Q (.ref D) H' → s'.heap.Ns C m → FpOk X pins H' C → compPost (model X.prog X.w) X.A X.xe use Qf (.ref D) C (.ok .next) s') :
    wpAny (model X.prog X.w) X.A (comprehension (.SetComp elt [⟨tg, iter, ifs, 0⟩] scope pos) scope X.env pos' (newSet (.type "set")) false (eval iter X.env) use) Qf X.xe s := by
  have free : ∀ y ∈ scope.names, y.2 = .free → ∃ c, X.env.cells.lookup y.1 = some c := by
    intro y hy e
    rcases blk.free y hy e with z | z
    · exact I0.ok.has _ (.inl z)
    · exact I0.ok.has _ (.inr z)
  refine wpAny_comprehension_free (use := use) rfl fold (closure_ok free) blk.kind (fun y hy e => by rw [blk.uniq y hy, e]) ?_
  refine thn (walked.run pins s σ H _ I0 ask) fun xv s1 r1 => thn r1 fun itv s2 r2 => ?_
  obtain ⟨it, fp, tn, J, H2, rfl, I2, T, st2, f2, q⟩ := r2
  refine PpSet.newSet_ok (newEnv_comp ?_)
  generalize eD : s2.heap.objs.size = D
  have newD : H2 D = none := I2.hok.fresh (Nat.le_of_eq eD)
  obtain ⟨W, ⟨m0, w0⟩, turn⟩ := q D newD
  generalize e3 : ({ s2 with heap := s2.heap.push { cls := .type "set", dict := none, data := .set #[] 0 (.fresh 0 0 (!X.w.params.followText "set-order")) } } : Shared) = s3
  have h3 : s3.heap = s2.heap.push { cls := .type "set", dict := none, data := .set #[] 0 (.fresh 0 0 (!X.w.params.followText "set-order")) } := congrArg Shared.heap e3.symm
  have kp3 : ∀ b o, s2.heap.get? b = some o → s3.heap.get? b = some o := fun b o e => by rw [h3]; exact Heap.get?_push_of_some _ e
  have I3 : Inv X pins σ (upd H2 D (SetO X.w D no' 0)) s3 := by
    rw [← e3, ← eD]
    exact I2.laid (t' := s2.toks) (fun b o e => Heap.get?_push_of_some _ e) (Nat.le_refl _) (setO_new (set_fresh X.w s2.heap))
  have lt2 : ∀ b ∈ fp, b < s2.heap.objs.size := by
    intro b hb
    obtain ⟨_, e, _⟩ := T.obj _ _ st2 b hb
    exact Heap.lt_size e
  have f3 : ∀ b ∈ fp, FpOk X pins (upd H2 D (SetO X.w D no' 0)) b ∧ b < s3.heap.objs.size := by
    intro b hb
    have lt := lt2 b hb
    have ne : b ≠ D := by rw [← eD]; exact Nat.ne_of_lt lt
    refine ⟨⟨by rw [upd_ne ne]; exact (f2 b hb).1, (f2 b hb).2⟩, ?_⟩
    rw [h3, Heap.size_push]
    exact Nat.lt_succ_of_lt lt
  have st3 : tn 0 s3.heap := T.keep _ _ _ st2 fun b _ o e => kp3 b o e
  have I4 := block_start I3 blk nodup f3
  generalize ecl : cellsFrom (s3.heap.objs.size + 1) scope.names (cloFrom X.env.cells scope.names []) = cl at I4
  have pg := gg s3 (upd H2 D (SetO X.w D no' 0)) s3.heap.objs.size cl fp
  have pt := gt s3 (upd H2 D (SetO X.w D no' 0)) s3.heap.objs.size cl fp
  have pe := ge s3 (upd H2 D (SetO X.w D no' 0)) s3.heap.objs.size cl fp
  show codeAny _ _ (.compStart (.SetComp elt [⟨tg, iter, ifs, 0⟩] scope pos) 0 (.ref it) (.ref D) (compEnvC scope cl s3.heap.objs.size X.env)) (compPost (model X.prog X.w) X.A X.xe use Qf (.ref D) s3.heap.objs.size) { s3 with heap := pushCells (s3.heap.push { cls := .type "dict", data := .dict #[] }) scope.names }
  have none3 : ∀ b ∈ fp, (upd H2 D (SetO X.w D no' 0)) b = none := fun b hb => (f3 b hb).1.1
  generalize ece : compEnvC scope cl s3.heap.objs.size X.env = ce at I4 pg pt pe ⊢
  have loc : ce.locals = s3.heap.objs.size := congrArg Env.locals ece.symm
  generalize upd H2 D (SetO X.w D no' 0) = H3 at I3 I4 pg pt pe w0 none3 f3
  generalize e4 : ({ s3 with heap := pushCells (s3.heap.push { cls := .type "dict", data := .dict #[] }) scope.names } : Shared) = s4 at I4 ⊢
  have st4 : tn 0 s4.heap := by
    refine T.keep _ _ _ st3 fun b _ o e => ?_
    rw [← e4]
    exact pushCells_keeps _ _ _ _ (Heap.get?_push_of_some _ e)
  have apart : ∀ {σ' : L2.St} {H' : Hp} {s' : Shared}, Inv (X.blk s3 H3 scope ce fp) [] σ' H' s' → (∀ b ∈ fp, H' b = none) → ∀ b ∈ fp, FpOk (X.blk s3 H3 scope ce fp) [] H' b := by
    intro σ' H' s' I' hn b hb
    refine ⟨hn b hb, (I'.ok.exf b hb).1, I'.ok.exfs b hb, .inl hb, fun x c e => (I'.ok.exf b hb).2 x c e, fun p hp => ?_⟩
    have hp' : p ∈ ([] : List (Addr × Obj)) ++ [] := hp
    simp at hp'
  have loop : codeAny (model X.prog X.w) X.A (.compLoop (.SetComp elt [⟨tg, iter, ifs, 0⟩] scope pos) 0 (.ref it) (.ref D) ce) (compPost (model X.prog X.w) X.A X.xe use Qf (.ref D) s3.heap.objs.size) s4 := by
    refine PpSet.compLoopS_any (fun n s' => ∃ i H', Inv (X.blk s3 H3 scope ce fp) [] (wipe σ (own.map (·.2))) H' s' ∧ tn i s'.heap ∧ (∀ b ∈ fp, H' b = none) ∧ W i n H') ?_ m0 ⟨0, H3, I4, st4, none3, w0⟩
    rintro n s5 ⟨i, H5, I5, st5, n5, w5⟩
    rcases turn i n H5 w5 with ⟨stop, here⟩ | ⟨more, Nx, down, step⟩
    · refine thnF (T.done (X.blk s3 H3 scope ce fp) rfl rfl rfl calm i [] s5 _ H5 (fun _ _ => False) I5 (apart I5 n5) st5 stop) fun r s6 r6 => ?_
      obtain ⟨rfl, I6⟩ := r6
      have I7 : Inv X pins σ H5 s6 := by
        refine I3.call' (ch := fp) I6.os I6.base I6.hok I6.bare fun b hb => ?_
        obtain ⟨_, z1, z2, z3, z4, z5⟩ := (f3 b hb).1
        exact ⟨z3, z1, z4, z5⟩
      have nC : H5 s3.heap.objs.size = none := loc ▸ (show H5 ce.locals = none from I6.free)
      obtain ⟨m, hn, _⟩ := I6.loc
      have hn' : s6.heap.Ns s3.heap.objs.size m := loc ▸ (show s6.heap.Ns ce.locals m from hn)
      exact back D s3.heap.objs.size s6 m H5 I7 here hn' (I3.fpOk (Nat.le_refl _) nC)
    · refine thnF (T.item (X.blk s3 H3 scope ce fp) rfl rfl rfl calm i [] s5 _ H5 (fun _ _ => False) I5 (apart I5 n5) st5 more) fun r s6 r6 => ?_
      obtain ⟨u, rfl, h6⟩ := r6
      refine thnF h6 fun _ s7 r7 => ?_
      obtain ⟨x, H7, I7, rx, y7, st7, n7⟩ := r7
      refine thnF (pg.run _ s7 _ H7 x u _ (I7.pinned (apart I7 n7) (T.obj _ _ st7)) rx (step x H7 y7)) fun _ s8 r8 => ?_
      obtain ⟨σ8, H8, I8, same, q8⟩ := r8
      refine thnF (pt.run _ s8 σ8 H8 _ I8 q8) fun b s9 r9 => ?_
      obtain ⟨H9, I9, q9⟩ := r9
      have turnEnd : ∀ {s' : Shared} {H' : Hp}, Inv (X.blk s3 H3 scope ce fp) ([] ++ pinsAt fp s7.heap) σ8 H' s' → Nx H' → ∃ m, m < n ∧ ∃ i H', Inv (X.blk s3 H3 scope ce fp) [] (wipe σ (own.map (·.2))) H' s' ∧ tn i s'.heap ∧ (∀ b ∈ fp, H' b = none) ∧ W i m H' := by
        intro s' H' I' nx
        obtain ⟨m', less, w'⟩ := down H' nx
        have pinned : ∀ b ∈ fp, ∀ o, s7.heap.get? b = some o → s'.heap.get? b = some o ∧ H' b = none := by
          intro b hb o e
          have z := I'.pin (b, o) (List.mem_append_right _ (List.mem_append_right _ (mem_pinsAt hb e)))
          exact ⟨z.1, z.2.1⟩
        have len : (wipe σ (own.map (·.2))).length = σ8.length := by
          rw [← same]
          exact wipe_length ..
        refine ⟨m', less, i + 1, H', (I'.unpinned (pins := [])).weak len ?_, T.keep _ _ _ st7 fun b hb o e => (pinned b hb o e).1, ?_, w'⟩
        · intro j v e
          rw [← same] at e
          exact (wipe_some e).1
        · intro b hb
          obtain ⟨o, e, _⟩ := T.obj _ _ st7 b hb
          exact (pinned b hb o e).2
      cases b with
      | false =>
        rw [if_neg Bool.false_ne_true] at q9 ⊢
        exact turnEnd I9 q9
      | true =>
        rw [if_pos rfl] at q9 ⊢
        refine thnF (pe.run _ s9 σ8 H9 _ I9 q9) fun z s10 r10 => ?_
        obtain ⟨yv, H10, I10, ry, c, S0, n0, rfl, atD, room, nx⟩ := r10
        obtain ⟨tk, rfl⟩ := (show ∃ t, z = Value.int c t from ry)
        exact setO_add (X := X.blk s3 H3 scope ce fp) I10 atD room fun s11 I11 => turnEnd I11 nx
  exact PpSet.codeAny_compStart_set loop (T.self X.A 0 _ _ _ st4 loop)
theorem pe_setI {elt tg iter : Expr} {ifs : List Expr} {scope : Scope} {own : List (PySem.Str × Nat)} {pos : Pos} {wi : TI} {g : TG} {tt : TT} {te : TE} (calm : X.calm = true) (nodup : X.N.Nodup) (walked : PI X tg iter wi) (blk : BlkOk X.N X.env.scope scope own)
    (gg : ∀ (s : Shared) (H : Hp) (C : Addr) (cl : List (PySem.Str × Addr)) (fp : List Addr), PG (X.blk s H scope (compEnvC scope cl C X.env) fp) tg g) (gt : ∀ (s : Shared) (H : Hp) (C : Addr) (cl : List (PySem.Str × Addr)) (fp : List Addr), PTs (X.blk s H scope (compEnvC scope cl C X.env) fp) ifs tt)
    (ge : ∀ (s : Shared) (H : Hp) (C : Addr) (cl : List (PySem.Str × Addr)) (fp : List Addr), PE (X.blk s H scope (compEnvC scope cl C X.env) fp) elt te) (fold : ∀ x, foldedSetIterable iter X.env x = pure x := by intro _; rfl) :
    PE X (.SetComp elt [⟨tg, iter, ifs, 0⟩] scope pos) (tSetI X.w wi g tt te (own.map (·.2))) := by
  constructor
  intro pins s σ H Q J ask
  rw [PpSet.eval_SetComp]
  refine setI_core calm nodup J walked blk gg gt ge fold ask fun D C s' m H' J' q hn f => ⟨m, hn, fun h2 only => ?_⟩
  exact ⟨.ref D, H', J'.turned (t' := s'.toks) (fun b o hb e => (only.2 b hb).trans e) f.1 f.2.1 f.2.2.2.1 f.2.2.2.2.1 f.2.2.2.2.2, rfl, q⟩
end
/-- over a list that the block leaves as it is -/
theorem setI_list {w : World} {K : PySem.W.Frag} {a : Addr} {xs : List V} {g : TG} {tt : TT} {te : TE} {vs : List Nat} {σ : L2.St} {G : Hp} {D : Addr} {Qd : Hp → Prop} (Pv : Nat → Hp → Prop) (start : Pv 0 (upd G D (SetO w D no' 0))) (stays : ∀ i H, i ≤ xs.length → Pv i H → SqL K H a xs)
    (turn : ∀ i x H, xs[i]? = some x → Pv i H → g x (wipe σ vs) H fun σ2 H2 => wipe σ2 vs = wipe σ vs ∧ tt σ2 H2 fun b H3 =>
      if b = true then te σ2 H3 fun y H4 => ∃ (c : Int) (S : Int → Bool) (n : Nat), y = .int c ∧ H4 D = some (SetO w D S n) ∧ n + 1 < scanBound ∧ Pv (i + 1) (upd H4 D (SetO w D (add' S c) (if S c = true then n else n + 1))) else Pv (i + 1) H3) (after : ∀ H, Pv xs.length H → Qd H) :
    ∃ W : Nat → Nat → Hp → Prop, (∃ m, W 0 m (upd G D (SetO w D no' 0))) ∧ ∀ i m H, W i m H →
      ((Itl K a).stop i H ∧ Qd H) ∨ ((Itl K a).go i H ∧ ∃ Nx : Hp → Prop, (∀ H', Nx H' → ∃ m', m' < m ∧ W (i + 1) m' H') ∧ ∀ x H', (Itl K a).yld i H x H' → g x (wipe σ vs) H' fun σ2 H2 => wipe σ2 vs = wipe σ vs ∧ tt σ2 H2 fun b H3 =>
        if b = true then te σ2 H3 fun y H4 => ∃ (c : Int) (S : Int → Bool) (n : Nat), y = .int c ∧ H4 D = some (SetO w D S n) ∧ n + 1 < scanBound ∧ Nx (upd H4 D (SetO w D (add' S c) (if S c = true then n else n + 1))) else Nx H3) := by
  refine ⟨fun i m H => m = xs.length - i ∧ i ≤ xs.length ∧ Pv i H, ⟨xs.length, (Nat.sub_zero _).symm, Nat.zero_le _, start⟩, ?_⟩
  rintro i m H ⟨rfl, le, p⟩
  have seq := stays i H le p
  rcases Nat.lt_or_ge i xs.length with lt | ge
  · refine .inr ⟨⟨xs, xs[i], seq, List.getElem?_eq_getElem lt⟩, Pv (i + 1), fun H' p' => ⟨xs.length - (i + 1), by omega, rfl, lt, p'⟩, fun x H' y => ?_⟩
    obtain ⟨rfl, y⟩ := y
    exact turn i x _ (y xs seq) p
  · have e : i = xs.length := by omega
    subst e
    exact .inl ⟨⟨xs, seq, Nat.le_refl _⟩, after H p⟩
end Ad

/-! set(xs) of a list of ints; xs.extend(t) of a tuple. -/
namespace Ad
open PySem PySem.Spec PySem.Calls PyProof.Rows L2
section
variable {P : Program} {w : World} {A : Around} {E : Value → Shared → Prop} {s : Shared}
abbrev emptySet (w : World) : Obj := { cls := .type "set", dict := none, data := .set #[] 0 (.fresh 0 0 (!w.params.followText "set-order")) }
set_option maxHeartbeats 3200000 in
theorem set_of_ints {l : Addr} {zs : Array Value} (ns : List Int) {Q : Value → Shared → Prop} (hh : A.handled = none) (hl : s.heap.IsList l zs) (are : IntsAre zs.toList ns) (fits : ns.length + 1 < scanBound)
    (go : ∀ (h2 : Heap) (tk2 c2 : Nat), SetR w h2 s.heap.objs.size (fun j => decide (j ∈ ns)) c2 → c2 ≤ ns.length → (∀ b o, s.heap.get? b = some o → h2.get? b = some o) → Q (.ref s.heap.objs.size) { s with heap := h2, toks := tk2 }) :
    wpAny (model P w) A (call (.type "set") [.ref l]) Q E s := by
  have many : zs.size = ns.length := by
    have q := are.length
    rwa [Array.length_toList] at q
  obtain ⟨c, tl, hmro⟩ := F.called_set.mro
  have hmade := F.called_set.made
  have hsub := F.called_set.sub
  refine wpAny_call (codeAny_of_tree ?_)
  show wpAny _ _ (callAny (.type "set") _) _ _ _
  refine wpAny_pure ⟨Code.quiet_builtin _ (by decide +kernel), codeAny_builtin F.entry_type_call ?_⟩
  rw [Around.under_plain (weight_type_call_type "set" [.ref l] []) rfl]
  have g1 := F.called_set.notType
  have g2 := F.called_set.canCreate
  have g3 := F.typeCall_set_1 (.ref l)
  repeat (any_goals (first | assumption | wp_step))
  refine codeAny_mono (code_set_led1 (w := w) (.ref l) (E := E) (Q₁ := fun v sA => v = .ref s.heap.objs.size ∧ sA = { s with heap := s.heap.push (emptySet w) }) ⟨rfl, rfl⟩) fun r sA hr => ?_
  cases r with
  | error e => exact hr
  | ok fl =>
    cases fl with
    | ret v =>
      obtain ⟨rfl, rfl⟩ := hr
      have laid : (s.heap.push (emptySet w)).get? s.heap.objs.size = some (emptySet w) := Heap.get?_push_size _ rfl
      have isSet : Shared.TypeIs { s with heap := s.heap.push (emptySet w) } (.ref s.heap.objs.size) "set" := ⟨_, laid, rfl⟩
      have g4 := F.called_set.init.lookup
      have g5 := F.called_set.init.bind (.ref s.heap.objs.size)
      repeat (any_goals (first | assumption | wp_step))
      refine codeAny_mono (codeAny_call_builtin (R := wants (fun y sB => y = .none ∧ ∃ h2 tk2 c2, sB = { s with heap := h2, toks := tk2 } ∧ SetR w h2 s.heap.objs.size (fun j => decide (j ∈ ns)) c2 ∧ c2 ≤ ns.length ∧
          (∀ b o, s.heap.get? b = some o → h2.get? b = some o)) E) F.called_set.init.plain F.entry_set_init (check_set_init_1 isSet ?_)) fun y sB hy => ?_
      · obtain ⟨⟨ocls, odict, odata, oslots⟩, hol, hcl, nl, hdl⟩ := hl
        simp only at hcl hdl
        subst hcl hdl
        have hol2 : (s.heap.push (emptySet w)).get? l = some { cls := .type "list", dict := odict, data := .seq zs nl, slots := oslots } := Heap.get?_push_of_some _ hol
        have g6 := F.sub_list_set
        have g7 := F.sub_list_frozenset
        have g8 : (Value.type "list" == Value.type "dict") = false := by decide
        have isL : (s.heap.push (emptySet w)).IsList l zs := ⟨_, hol2, rfl, nl, rfl⟩
        unfold Builtin.«set.__init__» noKeywords Builtin.Frozenset.updateFrom
        generalize hPI : pyIter = PI
        wp_walk
        subst hPI
        refine wpAny_pyIter_list isL ?_
        refine wpAny_bind (wpAny_runValue ?_)
        have low : l < s.heap.objs.size := Heap.lt_size hol
        have calm3 : A.in1.in1.in1.handled = none := by simp [hh]
        have size1 : (s.heap.push (emptySet w)).objs.size = s.heap.objs.size + 1 := Heap.size_push ..
        have unlike : l ≠ (s.heap.push (emptySet w)).objs.size := by
          rw [size1]
          exact Nat.ne_of_lt (Nat.lt_succ_of_lt low)
        have away : s.heap.objs.size ∉ [(s.heap.push (emptySet w)).objs.size, l] := by
          rw [size1]
          simp only [List.mem_cons, List.mem_singleton, List.not_mem_nil, or_false, not_or]
          exact ⟨Nat.ne_of_lt (Nat.lt_succ_self _), Nat.ne_of_gt low⟩
        have each : ∀ (i : Nat) (v : Value), zs[i]? = some v → ∃ k t, ns[i]? = some k ∧ v = .int k t := fun i v hv => by
          have hi : i < ns.length := by rw [← many]; exact (Array.getElem?_eq_some_iff.mp hv).1
          obtain ⟨t, e⟩ := IntsAre.int_at are i v (by rw [Array.getElem?_toList]; exact hv)
          refine ⟨ns[i], t, List.getElem?_eq_getElem hi, ?_⟩
          rw [e, List.getD_eq_getElem?_getD, List.getElem?_eq_getElem hi] <;> rfl
        refine set_update_ints ((Walks.list calm3 _ l unlike zs).toS) s.heap.objs.size away ns many fits each (zs.size - 0) 0 _ (by omega) (Nat.zero_le _) ⟨⟨_, Heap.get?_push_size _ rfl, rfl, rfl⟩, (isL.push _)⟩ ?start ?end'
        case start =>
          have g9 : ((s.heap.push (emptySet w)).push { cls := .type "list_iterator", data := .fields #[.ref l, .int 0 0] }).get? s.heap.objs.size = some (emptySet w) := Heap.get?_push_of_some _ laid
          exact ⟨0, Nat.le_refl 0, setR_new_at g9⟩
        case end' =>
          intro s9 c9 mv hc9 R9
          obtain ⟨h2, gg, dd, tk2, oo⟩ := s9
          obtain rfl : gg = s.gens := mv.gens
          obtain rfl : dd = s.drawn := mv.drawn
          obtain rfl : oo = s.os := mv.os
          show wpAny _ _ _ _ _ _
          refine wpAny_pure ?_
          show wpAny _ _ (ret Value.none) _ _ _
          refine wpAny_pure ⟨rfl, h2, tk2, c9, rfl, R9, many ▸ hc9, fun b o e => ?_⟩
          have below : b < s.heap.objs.size := Heap.lt_size e
          refine mv.heap b o ?_ (Heap.get?_push_of_some _ (Heap.get?_push_of_some _ e))
          simp only [List.mem_cons, List.mem_singleton, List.not_mem_nil, or_false, not_or]
          rw [size1]
          exact ⟨Nat.ne_of_lt below, Nat.ne_of_lt (Nat.lt_succ_of_lt below)⟩
      · cases y with
        | error e => exact hy
        | ok fl2 =>
          cases fl2 with
          | ret y =>
            obtain ⟨rfl, h2, tk2, c2, rfl, R2, le2, kp2⟩ := hy
            repeat (any_goals (first | assumption | wp_step))
            exact go _ _ _ R2 le2 kp2
          | _ => exact hy.elim
    | _ => exact hr.elim
end
section
variable {X : Cx}
/-- set(xs), xs a list of whole numbers -/
def rSetL (w : World) (K : PySem.W.Frag) : List V → Hp → VK → Prop := fun vs H Q => ∃ (l : Addr) (ns : List Int), vs = [V.ref l] ∧ SqL K H l (ns.map V.int) ∧ ns.length + 1 < scanBound ∧
  ∀ p c, H p = none → c ≤ ns.length → Q (.ref p) (upd H p (SetO w p (fun j => decide (j ∈ ns)) c))
theorem call_setL (hc : X.calm = true) : CallR X (.type "set") (rSetL X.w X.K) := by
  intro pins s σ H vs us Q I r h
  obtain ⟨l, ns, rfl, seq, fits, q⟩ := h
  obtain ⟨its, rv, is, _⟩ := I.list seq
  rw [Vals.ref1 r]
  refine set_of_ints ns (I.ok.hd hc) is.isList (ints_of_vals rv) fits fun h2 tk2 c2 R le kp => ?_
  exact ⟨.ref _, _, I.laid (t' := tk2) kp (Nat.le_refl _) (setO_new R), rfl, q _ _ (I.hok.fresh (Nat.le_refl _)) le⟩
end
end Ad

/-! xs.extend(t) of a tuple. -/
namespace Ad
open PySem PySem.Spec PySem.Calls PyProof.Rows L2
section
variable {X : Cx}
/-- xs.extend(t), t a tuple that may carry more than its items -/
theorem ext_tuple (l : Addr) (items : Array Value) (n : Nat) (b : Addr) (zs : Array Value) (m : Nat) (dd : Option Addr) (sl : Array (Option Value)) (notLong : ¬(!items.isEmpty && Builtin.List.listTooLong (items.size + zs.size)) = true) (short : items.size ≤ sizeLine) (both : items.size + zs.size ≤ sizeLine + 1) :
    Meets (Builtin.«list.extend» ⟨[.ref l, .ref b], []⟩) (fun _ R s => s.heap.get? l = some { cls := .type "list", dict := none, data := .seq items n, slots := #[] } ∧ s.heap.get? b = some { cls := .type "tuple", dict := dd, data := .seq zs m, slots := sl } ∧
      R (.ok (.ret Value.none)) { s with heap := s.heap.update l (Obj.mapSeq fun x => x ++ zs), toks := s.toks }) :=
  .of_wp fun prog w A R s h => by
    obtain ⟨hp, g, d, tk, os⟩ := s
    obtain ⟨hl, hb, h⟩ := h
    have f1 := AutoSeq1.idx_int
    have f2 := AutoSeq1.sub_tuple_tuple
    have f3 := AutoSeq1.sub_list_list
    have f4 := AutoSeq1.sub_tuple_list
    have f5 := AutoSeq1.sub_list_tuple
    have size2 : (items ++ zs).size ≤ sizeLine + 1 := by rw [Array.size_append]; exact both
    wp_walk using (wpAny_updateSeq hl rfl (hz := short) (_hz' := size2)), AutoSeq1.wpAny_loadPart' hl, AutoSeq1.wpAny_loadPart' hb
    exact ⟨_, rfl, h⟩
/-- xs.extend(t), t a tuple -/
def rExtT (K : PySem.W.Frag) : V → List V → Hp → VK → Prop := fun x vs H Q => ∃ l b xs zs, x = .ref l ∧ vs = [.ref b] ∧ H l = some (.lst xs) ∧ SqT K H b zs ∧ xs.length + zs.length ≤ sizeLine ∧ Q .non (upd H l (.lst (xs ++ zs)))
theorem mt_extT : MtM X "list.extend" (rExtT X.K) := by
  intro pins s σ H x vs v us Q I rx rv h
  obtain ⟨l, b, xs, zs, rfl, rfl, hH, hB, hz, q⟩ := h
  cases rx
  obtain ⟨u, rfl, ru⟩ := rv.one
  cases ru
  obtain ⟨z, its, n, r, hl, e⟩ := I.lstM hH
  obtain ⟨its2, r2, ⟨⟨cls, dd, data, sl⟩, ho, hcl, n2, hd⟩, _⟩ := I.tuple hB
  simp only at hcl hd
  subst hcl hd
  have hl2 := r2.length
  have short : its.toArray.size + its2.toArray.size ≤ sizeLine := by rw [List.size_toArray, List.size_toArray]; omega
  have notLong : ¬ (!its.toArray.isEmpty && Builtin.List.listTooLong (its.toArray.size + its2.toArray.size)) = true := by
    rw [notLongL short, Bool.and_false]
    exact Bool.false_ne_true
  refine call_meets F.slot_list_extend ⟨_, e, rfl⟩ F.entry_list_extend (F.args_list_extend_2 _ _) (ext_tuple l its.toArray n b its2.toArray n2 dd sl notLong (by rw [List.size_toArray]; omega) (by omega)) ⟨e, ho, ?_⟩
  refine ⟨.non, _, I.lset (its' := its ++ its2) hH e (by simp) (r.append r2) ?_, rfl, q⟩
  rw [List.length_append]
  omega
end
end Ad

/-! Terms: a variable's number, or a name with arguments; where they stand. -/
namespace Ad
open PySem PySem.Spec PySem.Calls PyProof.Rows L2
inductive T where
  | v (i : Int)
  | f (x : Str) (ts : List T)
namespace T
mutual
def d : T → PyData
  | .v i => .int i
  | .f x ts => .tuple (.str x :: ds ts)
def ds : List T → List PyData
  | [] => []
  | t :: ts => d t :: ds ts
end
mutual
/-- all that stands in a term -/
def parts : T → List T
  | .v i => [.v i]
  | .f x ts => .f x ts :: partsL ts
def partsL : List T → List T
  | [] => []
  | t :: ts => parts t ++ partsL ts
end
mutual
def size : T → Nat
  | .v _ => 1
  | .f _ ts => 1 + sizeL ts
def sizeL : List T → Nat
  | [] => 0
  | t :: ts => size t + sizeL ts
end
mutual
def dep : T → Nat
  | .v _ => 0
  | .f _ ts => 1 + depL ts
def depL : List T → Nat
  | [] => 0
  | t :: ts => max (dep t) (depL ts)
end
mutual
/-- the variables, as often as they stand there -/
def vars : T → List Int
  | .v i => [i]
  | .f _ ts => varsL ts
def varsL : List T → List Int
  | [] => []
  | t :: ts => vars t ++ varsL ts
end
mutual
/-- all names can be laid -/
def named : T → Bool
  | .v _ => true
  | .f x ts => PyData.strOk x && namedL ts
def namedL : List T → Bool
  | [] => true
  | t :: ts => named t && namedL ts
end
mutual
theorem parts_len : ∀ t : T, t.parts.length = t.size
  | .v _ => rfl
  | .f x ts => by
    show (partsL ts).length + 1 = 1 + sizeL ts
    rw [partsL_len ts]
    omega
theorem partsL_len : ∀ ts : List T, (partsL ts).length = sizeL ts
  | [] => rfl
  | t :: ts => by
    show (parts t ++ partsL ts).length = size t + sizeL ts
    rw [List.length_append, parts_len t, partsL_len ts]
end
theorem size_pos : ∀ t : T, 1 ≤ t.size
  | .v _ => Nat.le_refl _
  | .f _ _ => Nat.le_add_right _ _
mutual
theorem dep_size : ∀ t : T, t.dep ≤ t.size
  | .v _ => Nat.zero_le _
  | .f x ts => by
    show 1 + depL ts ≤ 1 + sizeL ts
    have h := depL_size ts
    omega
theorem depL_size : ∀ ts : List T, depL ts ≤ sizeL ts
  | [] => Nat.le_refl _
  | t :: ts => by
    show max (dep t) (depL ts) ≤ size t + sizeL ts
    have h1 := dep_size t
    have h2 := depL_size ts
    omega
end
mutual
theorem d_depth : ∀ t : T, t.d.depth = t.dep
  | .v _ => rfl
  | .f x ts => by
    show max 0 (PyData.depthAll (ds ts)) + 1 = 1 + depL ts
    rw [ds_depth ts]
    omega
theorem ds_depth : ∀ ts : List T, PyData.depthAll (ds ts) = depL ts
  | [] => rfl
  | t :: ts => by
    show max (PyData.depth (d t)) (PyData.depthAll (ds ts)) = max (dep t) (depL ts)
    rw [d_depth t, ds_depth ts]
end
mutual
theorem d_lay : ∀ t : T, t.named = true → t.d.canLay0 = true
  | .v _, _ => rfl
  | .f x ts, h => by
    have h' : (PyData.strOk x && namedL ts) = true := h
    rw [Bool.and_eq_true] at h'
    show (PyData.strOk x && PyData.canLayAll0 (ds ts)) = true
    rw [h'.1, ds_lay ts h'.2]
    rfl
theorem ds_lay : ∀ ts : List T, namedL ts = true → PyData.canLayAll0 (ds ts) = true
  | [], _ => rfl
  | t :: ts, h => by
    have h' : (named t && namedL ts) = true := h
    rw [Bool.and_eq_true] at h'
    show (PyData.canLay0 (d t) && PyData.canLayAll0 (ds ts)) = true
    rw [d_lay t h'.1, ds_lay ts h'.2]
    rfl
end
theorem shaped {t : T} (h : t.named = true) (small : t.dep ≤ 64) : SeqAt.shaped t.d = true := by
  unfold SeqAt.shaped
  rw [d_lay t h, d_depth t]
  exact decide_eq_true small
theorem ds_map : ∀ ts : List T, ds ts = ts.map d
  | [] => rfl
  | t :: ts => by
    show d t :: ds ts = _
    rw [ds_map ts]
    rfl
theorem partsL_append : ∀ (as bs : List T), partsL (as ++ bs) = partsL as ++ partsL bs
  | [], _ => rfl
  | t :: ts, bs => by
    show parts t ++ partsL (ts ++ bs) = parts t ++ partsL ts ++ partsL bs
    rw [partsL_append ts bs, List.append_assoc]
theorem sizeL_append : ∀ (as bs : List T), sizeL (as ++ bs) = sizeL as + sizeL bs
  | [], _ => (Nat.zero_add _).symm
  | t :: ts, bs => by
    show size t + sizeL (ts ++ bs) = size t + sizeL ts + sizeL bs
    rw [sizeL_append ts bs, Nat.add_assoc]
theorem sizeL_reverse : ∀ ts : List T, sizeL ts.reverse = sizeL ts
  | [] => rfl
  | t :: ts => by
    rw [List.reverse_cons, sizeL_append, sizeL_reverse ts]
    show sizeL ts + (size t + 0) = size t + sizeL ts
    omega
theorem size_mem {t : T} {ts : List T} (h : t ∈ ts) : t.size ≤ sizeL ts := by
  induction ts with
  | nil => cases h
  | cons u us ih =>
    show t.size ≤ size u + sizeL us
    rcases List.mem_cons.mp h with e | e
    · rw [e]; omega
    · have := ih e; omega
theorem len_sizeL : ∀ ts : List T, ts.length ≤ sizeL ts
  | [] => Nat.le_refl _
  | t :: ts => by
    show ts.length + 1 ≤ size t + sizeL ts
    have h1 := size_pos t
    have h2 := len_sizeL ts
    omega
theorem dep_mem {t : T} {ts : List T} (h : t ∈ ts) : t.dep ≤ depL ts := by
  induction ts with
  | nil => cases h
  | cons u us ih =>
    show t.dep ≤ max (dep u) (depL us)
    rcases List.mem_cons.mp h with e | e
    · rw [e]; omega
    · have := ih e; omega
theorem named_mem {t : T} {ts : List T} (h : t ∈ ts) (n : namedL ts = true) : t.named = true := by
  induction ts with
  | nil => cases h
  | cons u us ih =>
    have n' : (named u && namedL us) = true := n
    rw [Bool.and_eq_true] at n'
    rcases List.mem_cons.mp h with e | e
    · rw [e]; exact n'.1
    · exact ih e n'.2
end T
/-- tuples stay -/
def TK (H H' : Hp) : Prop := ∀ b xs, (H b = some (.tup xs) → H' b = some (.tup xs)) ∧ (∀ o, H b = some (.frz o (.tup xs)) → H' b = some (.frz o (.tup xs)))
theorem TK.refl (H : Hp) : TK H H := fun _ _ => ⟨id, fun _ => id⟩
theorem TK.trans {H H1 H2 : Hp} (a : TK H H1) (b : TK H1 H2) : TK H H2 := fun c xs => ⟨fun e => (b c xs).1 ((a c xs).1 e), fun o e => (b c xs).2 o ((a c xs).2 o e)⟩
theorem TK.same {H H' : Hp} (s : Same H H') : TK H H' := fun b _ => ⟨s b _, fun _ => s b _⟩
theorem TK.lst {H : Hp} {p : Addr} {ys : List V} (h : H p = some (.lst ys)) (o : HO) : TK H (upd H p o) := fun b xs => by
  refine ⟨fun e => ?_, fun u e => ?_⟩
  · have n : b ≠ p := fun z => by rw [z, h] at e; cases e
    rw [upd_ne n]; exact e
  · have n : b ≠ p := fun z => by rw [z, h] at e; cases e
    rw [upd_ne n]; exact e
theorem TK.new {H : Hp} {p : Addr} (h : H p = none) (o : HO) : TK H (upd H p o) := fun b xs => by
  refine ⟨fun e => ?_, fun u e => ?_⟩
  · have n : b ≠ p := fun z => by rw [z, h] at e; cases e
    rw [upd_ne n]; exact e
  · have n : b ≠ p := fun z => by rw [z, h] at e; cases e
    rw [upd_ne n]; exact e
section
variable {K : PySem.W.Frag} {H H' : Hp}
theorem TK.sq (k : TK H H') {a : Addr} {xs : List V} (h : SqT K H a xs) : SqT K H' a xs := by
  rcases h with (h | ⟨o, h⟩) | h
  · exact .inl (.inl ((k a xs).1 h))
  · exact .inl (.inr ⟨o, (k a xs).2 o h⟩)
  · exact .inr h
mutual
/-- a value is a term -/
def Tm (K : PySem.W.Frag) (H : Hp) : T → V → Prop
  | .v i, x => x = .int i
  | .f n ts, x => ∃ a xs, x = .ref a ∧ SqT K H a (.str n :: xs) ∧ Tms K H ts xs
def Tms (K : PySem.W.Frag) (H : Hp) : List T → List V → Prop
  | [], xs => xs = []
  | t :: ts, xs => ∃ y ys, xs = y :: ys ∧ Tm K H t y ∧ Tms K H ts ys
end
mutual
theorem Tm.mono (k : TK H H') : ∀ (t : T) (x : V), Tm K H t x → Tm K H' t x
  | .v _, _, h => h
  | .f n ts, x, h => by
    obtain ⟨a, xs, e, sq, all⟩ := h
    exact ⟨a, xs, e, k.sq sq, Tms.mono k ts xs all⟩
theorem Tms.mono (k : TK H H') : ∀ (ts : List T) (xs : List V), Tms K H ts xs → Tms K H' ts xs
  | [], _, h => h
  | t :: ts, xs, h => by
    obtain ⟨y, ys, e, one, all⟩ := h
    exact ⟨y, ys, e, Tm.mono k t y one, Tms.mono k ts ys all⟩
end
mutual
theorem Tm.dp : ∀ (t : T) (x : V), Tm K H t x → Dp K H x t.d
  | .v i, x, h => by
    cases (show x = .int i from h)
    exact .int i
  | .f n ts, x, h => by
    obtain ⟨a, xs, rfl, sq, all⟩ := h
    exact .tup sq (.cons (.str n) (Tms.dp ts xs all))
theorem Tms.dp : ∀ (ts : List T) (xs : List V), Tms K H ts xs → DpAll K H xs (T.ds ts)
  | [], xs, h => by
    cases (show xs = [] from h)
    exact .nil
  | t :: ts, xs, h => by
    obtain ⟨y, ys, rfl, one, all⟩ := h
    exact .cons (Tm.dp t y one) (Tms.dp ts ys all)
end
theorem Tms.len : ∀ {ts : List T} {xs : List V}, Tms K H ts xs → xs.length = ts.length
  | [], xs, h => by
    cases (show xs = [] from h)
    rfl
  | t :: ts, xs, h => by
    obtain ⟨y, ys, rfl, _, all⟩ := h
    rw [List.length_cons, List.length_cons, Tms.len all]
theorem Tms.app : ∀ {as : List T} {xs : List V} {bs : List T} {ys : List V}, Tms K H as xs → Tms K H bs ys → Tms K H (as ++ bs) (xs ++ ys)
  | [], xs, _, _, h, k => by
    cases (show xs = [] from h)
    exact k
  | t :: ts, xs, _, _, h, k => by
    obtain ⟨y, zs, rfl, one, all⟩ := h
    exact ⟨y, _, rfl, one, Tms.app all k⟩
theorem Tms.one {t : T} {x : V} (h : Tm K H t x) : Tms K H [t] [x] := ⟨x, [], rfl, h, rfl⟩
theorem Tms.rev : ∀ {ts : List T} {xs : List V}, Tms K H ts xs → Tms K H ts.reverse xs.reverse
  | [], xs, h => by
    cases (show xs = [] from h)
    exact rfl
  | t :: ts, xs, h => by
    obtain ⟨y, ys, rfl, one, all⟩ := h
    rw [List.reverse_cons, List.reverse_cons]
    exact Tms.app (Tms.rev all) (Tms.one one)
theorem Tms.get : ∀ {ts : List T} {xs : List V} {i : Nat} {x : V}, Tms K H ts xs → xs[i]? = some x → ∃ t, ts[i]? = some t ∧ Tm K H t x
  | [], xs, i, x, h, e => by
    cases (show xs = [] from h)
    cases e
  | t :: ts, xs, i, x, h, e => by
    obtain ⟨y, ys, rfl, one, all⟩ := h
    cases i with
    | zero =>
      cases e
      exact ⟨t, rfl, one⟩
    | succ i => exact Tms.get (ts := ts) (xs := ys) (i := i) all e
theorem Tms.get' : ∀ {ts : List T} {xs : List V} {i : Nat} {t : T}, Tms K H ts xs → ts[i]? = some t → ∃ x, xs[i]? = some x ∧ Tm K H t x
  | [], xs, i, x, h, e => by cases e
  | t :: ts, xs, i, x, h, e => by
    obtain ⟨y, ys, rfl, one, all⟩ := h
    cases i with
    | zero =>
      cases e
      exact ⟨y, rfl, one⟩
    | succ i => exact Tms.get' (ts := ts) (xs := ys) (i := i) all e
/-- the last of them -/
theorem Tms.last : ∀ {ts : List T} {xs : List V}, Tms K H ts xs → ts ≠ [] → ∃ us u ys y, ts = us ++ [u] ∧ xs = ys ++ [y] ∧ Tms K H us ys ∧ Tm K H u y
  | [], _, _, n => absurd rfl n
  | [t], xs, h, _ => by
    obtain ⟨y, ys, rfl, one, all⟩ := h
    cases (show ys = [] from all)
    exact ⟨[], t, [], y, rfl, rfl, rfl, one⟩
  | t :: u :: ts, xs, h, _ => by
    obtain ⟨y, ys, rfl, one, all⟩ := h
    obtain ⟨us, w, zs, z, e1, e2, a, b⟩ := Tms.last (ts := u :: ts) all (by simp)
    exact ⟨t :: us, w, y :: zs, z, by rw [e1]; rfl, by rw [e2]; rfl, ⟨y, zs, rfl, one, a⟩, b⟩
end
end Ad

/-! What stands in a term. -/
namespace Ad
open PySem PySem.Spec PySem.Calls PyProof.Rows L2
def topS (i : Nat) : Stmt := PySem.Challenge.pw_downtoground_k05_whole_terms_and_paths.main.body.getD i (.Pass ⟨0, 0, 0, 0⟩)
abbrev sParts : Stmt := topS 1
abbrev sPlaces : Stmt := topS 2
abbrev sSize : Stmt := topS 4
abbrev sVars : Stmt := topS 5
theorem scParts : FnScope ["term", "found", "waiting", "part"] ["term"] (defScope sParts) := ⟨rfl, rfl, rfl, by decide +kernel, rfl, by decide +kernel, by decide +kernel⟩
theorem scSize : FnScope ["term"] ["term"] (defScope sSize) := ⟨rfl, rfl, rfl, by decide +kernel, rfl, by decide +kernel, by decide +kernel⟩
theorem sq_ty {K : PySem.W.Frag} {H : Hp} {a : Addr} {xs : List V} (h : SqT K H a xs) : TyX K H (.ref a) (.type "tuple") := by
  rcases h with (h | ⟨o, h⟩) | h
  · exact .base (.tup h)
  · exact .fTuple h
  · obtain ⟨o, _, _, e, c, _⟩ := h
    exact .kTuple e c
theorem tm_tuple {K : PySem.W.Frag} {H : Hp} {n : Str} {ts : List T} {x : V} (h : Tm K H (.f n ts) x) : TyX K H x (.type "tuple") := by
  obtain ⟨a, xs, rfl, sq, _⟩ := h
  exact sq_ty sq
theorem kitTT {K : PySem.W.Frag} : PySem.W.kitOne K (.type "tuple") (.type "tuple") = some true := kit_ty (by decide +kernel)
theorem kitIT {K : PySem.W.Frag} : PySem.W.kitOne K (.type "int") (.type "tuple") = some false := kit_ty (by decide +kernel)
theorem kitTI {K : PySem.W.Frag} : PySem.W.kitOne K (.type "tuple") (.type "int") = some false := kit_ty (by decide +kernel)
theorem kitII {K : PySem.W.Frag} : PySem.W.kitOne K (.type "int") (.type "int") = some true := kit_ty (by decide +kernel)
def lenAt (H : Hp) (p : Addr) : Nat := match H p with
  | some (.lst xs) => xs.length
  | _ => 0
theorem lenAt_of {H : Hp} {p : Addr} {xs : List V} (h : H p = some (.lst xs)) : lenAt H p = xs.length := by
  unfold lenAt
  rw [h]
theorem same_on {H H' : Hp} {p : Addr} (s : Same H H') (n : H p = none) (o : HO) : Same H (upd H' p o) := fun b u e => by
  rw [upd_ne (ne_of_none e n)]
  exact s b u e
/-- the truth of a value, as a test -/
def tTrue (K : PySem.W.Frag) (te : TE) : TT := fun σ H Q => te σ H fun x G => ∃ b, TruV K x G b ∧ Q b G
theorem pt_true {X : Cx} {e : Expr} {te : TE} (he : PE X e te) (plain : ∀ whole, isTrue e X.env whole = (do let v ← whole; standAt e.pos; holding [v] (truthy v)) := by intro _; rfl) : PT X e (tTrue X.K te) := pt_truth he plain
/-- a while by a word and a measure -/
theorem while_m {c : TT} {tb : TS} {D : Ends} {σ : L2.St} {H : Hp} (Pv : L2.St → Hp → Prop) (μ : L2.St → Hp → Nat) (start : Pv σ H)
    (turn : ∀ σ H, Pv σ H → c σ H fun b G => if b = true then tb { D with nx := fun σ' H' => Pv σ' H' ∧ μ σ' H' < μ σ H, ct := fun σ' H' => Pv σ' H' ∧ μ σ' H' < μ σ H, bk := D.nx } σ G else D.nx σ G) (mono : ∀ σ H Q Q', (∀ b G, Q b G → Q' b G) → c σ H Q → c σ H Q') :
    ∃ W : Nat → L2.St → Hp → Prop, (∃ m, W m σ H) ∧ ∀ m σ H, W m σ H → c σ H fun b G => if b = true then ∃ N : L2.St → Hp → Prop, (∀ σ' H', N σ' H' → ∃ m', m' < m ∧ W m' σ' H') ∧ tb { D with nx := N, ct := N, bk := D.nx } σ G else D.nx σ G :=
  while_by Pv μ start turn mono
theorem mono_true {K : PySem.W.Frag} {te : TE} (m : ∀ σ H (Q Q' : VK), (∀ v G, Q v G → Q' v G) → te σ H Q → te σ H Q') : ∀ σ H (Q Q' : Bool → Hp → Prop), (∀ b G, Q b G → Q' b G) → tTrue K te σ H Q → tTrue K te σ H Q' := fun σ H Q Q' imp h => m σ H _ _ (fun v G ⟨b, t, q⟩ => ⟨b, t, imp _ _ q⟩) h
theorem mono_var {i : Nat} : ∀ σ H (Q Q' : VK), (∀ v G, Q v G → Q' v G) → tVar i σ H Q → tVar i σ H Q' := fun _ _ _ _ imp ⟨v, e, q⟩ => ⟨v, e, imp _ _ q⟩
section
variable {P : Program} {w : World} {K : PySem.W.Frag} {mg : Str → Option Value} {base : Heap}
def spParts (K : PySem.W.Frag) : Sp := fun vs H Q _ => ∃ (t : T) (x : V), vs = [x] ∧ Tm K H t x ∧ t.size ≤ 10000 ∧
  ∀ H' p xs, Same H H' → H p = none → H' p = some (.lst xs) → Tms K H' t.parts xs → Q (.ref p) H'
theorem ok_parts {f : Addr} {fd : FuncData} {k : Nat} (F : Fun K "parts_of" "parts_of" sParts f fd) (mi : mg "isinstance" = none) (mt : mg "tuple" = none) : FnOk P w K mg base CX0 (k + 1) f fd ["term"] (spParts K) := by
  refine F.ok scParts (fun vs H Q E h => ?_) (fun cdv A outer s H vs Q E hr h => ?_)
  · obtain ⟨t, x, rfl, _⟩ := h
    rfl
  · obtain ⟨t, x, rfl, ht, small, q⟩ := h
    refine ⟨_, pss_cons (ps_set (i := 1) scParts.nd rfl (.inl rfl) (pe_lst pa_nil))
      (pss_cons (ps_set (i := 2) scParts.nd rfl (.inl rfl) (pe_lst (pa_cons (pv 0) pa_nil)))
      (pss_cons (ps_while PassesOwn.never (pt_true (pv 2))
        (pss_cons (ps_set (i := 3) scParts.nd rfl (.inl rfl) (pe_bm0 PySem.F.plainAttrs_list PySem.F.slot_list_pop PySem.F.type_list_pop mt_pop (pv 2)))
        (pss_cons (ps_expr (pe_bm PySem.F.plainAttrs_list PySem.F.slot_list_append PySem.F.type_list_append mt_append (pv 1) (pa_cons (pv 3) pa_nil)))
        (pss_one (ps_if (pt_val (pe_callB call_isi (by rfl) mi (by decide +kernel) (pa_cons (pv 3) (pa_cons (pe_bltn (v := .ty "tuple") (by rfl) mt (by decide +kernel) rfl) pa_nil))))
          (pss_one (ps_expr (pe_bm PySem.F.plainAttrs_list PySem.F.slot_list_extend PySem.F.type_list_extend mt_extT (pv 2) (pa_cons (pe_back (pv 3)) pa_nil))))
          pss_nil)))))
      (pss_one (ps_ret (pv 1))))), ?_⟩
    refine ⟨by decide, fun p1 n1 => ?_⟩
    refine ⟨_, rfl, (by show 1 ≤ sizeLine; decide), fun p2 n2 => ?_⟩
    have n2' : H p2 = none := by
      by_cases e : p2 = p1
      · rw [e]; exact n1
      · rwa [upd_ne e] at n2
    have ne : p2 ≠ p1 := fun e => by
      rw [e, upd_same] at n2
      cases n2
    refine while_m (fun σ G => ∃ (v3 : Option V) (fin todo : List T) (xs ws : List V), σ = [some x, some (.ref p1), some (.ref p2), v3] ∧ G p1 = some (.lst xs) ∧ G p2 = some (.lst ws) ∧ Same H G ∧ Tms K G fin xs ∧ Tms K G todo ws ∧
      fin ++ T.partsL todo.reverse = t.parts) (fun _ G => t.size - lenAt G p1) ?_ ?_ ?_
    · refine ⟨none, [], [t], [], [x], rfl, by rw [upd_ne ne.symm]; exact upd_same, upd_same, same_on (same_on (fun b o e => e) n1 _) n2' _, rfl, Tms.one (Tm.mono (TK.same (same_on (same_on (fun b o e => e) n1 _) n2' _)) t x ht), ?_⟩
      show T.parts t ++ [] = _
      rw [List.append_nil]
    · rintro σ G ⟨v3, fin, todo, xs, ws, rfl, g1, g2, sm, a1, a2, sum⟩
      have total : xs.length + T.sizeL todo = t.size := by
        rw [a1.len, ← T.sizeL_reverse, ← T.partsL_len, ← List.length_append, sum, T.parts_len]
      refine ⟨_, rfl, !ws.isEmpty, .inl ⟨ws, .inl (.inl g2), rfl⟩, ?_⟩
      by_cases em : todo = []
      · subst em
        cases (show ws = [] from a2)
        refine iteF ?_
        refine ⟨_, rfl, q G p1 xs sm n1 g1 ?_⟩
        have e : fin = t.parts := by rw [← sum]; exact (List.append_nil _).symm
        rw [← e]
        exact a1
      · obtain ⟨us, u, ys, y, rfl, rfl, b1, b2⟩ := a2.last em
        have isT : (!(ys ++ [y]).isEmpty) = true := by cases ys <;> rfl
        rw [isT]
        refine iteT ?_
        rw [T.sizeL_append] at total
        have total' : xs.length + (T.sizeL us + (u.size + 0)) = t.size := total
        have up := u.size_pos
        have dl : (ys ++ [y]).dropLast = ys := List.dropLast_concat
        have rv : (us ++ [u]).reverse = u :: us.reverse := by rw [List.reverse_append]; rfl
        rw [rv] at sum
        refine ⟨_, rfl, .inl ⟨rfl, _, .inl (.inl g2)⟩, p2, ys ++ [y], y, rfl, rfl, g2, (by rw [List.length_append, List.length_singleton, Nat.add_sub_cancel, List.getElem?_append_right (Nat.le_refl _), Nat.sub_self]; rfl), ?_⟩
        rw [dl]
        have k2 : TK G (upd G p2 (.lst ys)) := TK.lst g2 _
        have h1 : (upd G p2 (.lst ys)) p1 = some (.lst xs) := by rw [upd_ne ne.symm]; exact g1
        have h2 : (upd G p2 (.lst ys)) p2 = some (.lst ys) := upd_same
        have sm2 : Same H (upd G p2 (.lst ys)) := same_on sm n2' _
        have c1 := Tms.mono k2 _ _ a1
        have c2 := Tms.mono k2 _ _ b1
        have c3 := Tm.mono k2 _ _ b2
        generalize upd G p2 (.lst ys) = G2 at h1 h2 sm2 c1 c2 c3
        refine ⟨_, rfl, .inl ⟨rfl, _, .inl (.inl h1)⟩, y, rfl, p1, xs, y, rfl, rfl, h1, (by rw [sizeLine_eq]; omega), ?_⟩
        have k3 : TK G2 (upd G2 p1 (.lst (xs ++ [y]))) := TK.lst h1 _
        have i1 : (upd G2 p1 (.lst (xs ++ [y]))) p1 = some (.lst (xs ++ [y])) := upd_same
        have i2 : (upd G2 p1 (.lst (xs ++ [y]))) p2 = some (.lst ys) := by rw [upd_ne ne]; exact h2
        have sm3 : Same H (upd G2 p1 (.lst (xs ++ [y]))) := same_on sm2 n1 _
        have d1 := Tms.app (Tms.mono k3 _ _ c1) (Tms.one (Tm.mono k3 _ _ c3))
        have d2 := Tms.mono k3 _ _ c2
        have d3 := Tm.mono k3 _ _ c3
        generalize upd G2 p1 (.lst (xs ++ [y])) = G3 at i1 i2 sm3 d1 d2 d3
        have less : t.size - (xs ++ [y]).length < t.size - lenAt G p1 := by
          rw [lenAt_of g1, List.length_append, List.length_singleton]
          omega
        cases u with
        | v i =>
          cases (show y = .int i from d3)
          refine ⟨.int i, rfl, _, .ty "tuple", .type "int", .type "tuple", false, rfl, .ty "tuple", .base (.int i), kitIT, false, rfl, ?_⟩
          refine iteF ?_
          refine ⟨⟨_, fin ++ [.v i], us, _, _, rfl, i1, i2, sm3, d1, d2, ?_⟩, by rw [lenAt_of i1]; exact less⟩
          rw [List.append_assoc]
          exact sum
        | f nm ts =>
          have ty := tm_tuple d3
          obtain ⟨a, zs, rfl, sq, all⟩ := d3
          refine ⟨.ref a, rfl, _, .ty "tuple", .type "tuple", .type "tuple", true, rfl, .ty "tuple", ty, kitTT, true, rfl, ?_⟩
          refine iteT ?_
          refine ⟨.ref p2, rfl, .inl ⟨rfl, _, .inl (.inl i2)⟩, .ref a, rfl, a, _, rfl, sq, by rw [List.length_cons]; omega, fun p3 n3 => ?_⟩
          have k4 : TK G3 (upd G3 p3 (.tup ((V.str nm :: zs).drop 1).reverse)) := TK.new n3 _
          have ne31 : p1 ≠ p3 := ne_of_none i1 n3
          have ne32 : p2 ≠ p3 := ne_of_none i2 n3
          have j1 : (upd G3 p3 (.tup ((V.str nm :: zs).drop 1).reverse)) p1 = some (.lst (xs ++ [V.ref a])) := by rw [upd_ne ne31]; exact i1
          have j2 : (upd G3 p3 (.tup ((V.str nm :: zs).drop 1).reverse)) p2 = some (.lst ys) := by rw [upd_ne ne32]; exact i2
          have j3 : (upd G3 p3 (.tup ((V.str nm :: zs).drop 1).reverse)) p3 = some (.tup zs.reverse) := upd_same
          have sm4 : Same H (upd G3 p3 (.tup ((V.str nm :: zs).drop 1).reverse)) := fun b o e => by
            rw [upd_ne (ne_of_none (sm3 b o e) n3)]
            exact sm3 b o e
          have e1 := Tms.mono k4 _ _ d1
          have e2 := Tms.mono k4 _ _ d2
          have e3 := Tms.mono k4 _ _ all
          generalize upd G3 p3 (.tup ((V.str nm :: zs).drop 1).reverse) = G4 at j1 j2 j3 sm4 e1 e2 e3
          have szu : T.size (.f nm ts) = 1 + T.sizeL ts := rfl
          have l1 := T.len_sizeL ts
          have l2 := T.len_sizeL us
          refine ⟨p2, p3, ys, zs.reverse, rfl, rfl, j2, .inl (.inl j3), (by rw [List.length_reverse, sizeLine_eq, e2.len, e3.len]; omega), ?_⟩
          have k5 : TK G4 (upd G4 p2 (.lst (ys ++ zs.reverse))) := TK.lst j2 _
          refine ⟨⟨_, fin ++ [.f nm ts], us ++ ts.reverse, xs ++ [.ref a], ys ++ zs.reverse, rfl, by rw [upd_ne ne.symm]; exact j1, upd_same, same_on sm4 n2' _, Tms.mono k5 _ _ e1, Tms.mono k5 _ _ (Tms.app e2 (Tms.rev e3)), ?_⟩, ?_⟩
          · rw [← sum, List.append_assoc, List.reverse_append, List.reverse_reverse, T.partsL_append]
            rfl
          · rw [lenAt_of (xs := xs ++ [.ref a]) (by rw [upd_ne ne.symm]; exact j1)]
            exact less
    · exact mono_true mono_var
end
end Ad

/-! size, variables_of. -/
namespace Ad
open PySem PySem.Spec PySem.Calls PyProof.Rows L2
theorem scVars : FnScope ["term", "part"] ["term"] (defScope sVars) := ⟨rfl, rfl, rfl, by decide +kernel, rfl, by decide +kernel, by decide +kernel⟩
namespace T
mutual
theorem v_parts (j : Int) : ∀ t : T, .v j ∈ parts t ↔ j ∈ vars t
  | .v i => by
    show T.v j ∈ [T.v i] ↔ j ∈ [i]
    rw [List.mem_singleton, List.mem_singleton]
    exact ⟨fun e => T.v.inj e, fun e => congrArg T.v e⟩
  | .f x ts => by
    show T.v j ∈ T.f x ts :: partsL ts ↔ j ∈ varsL ts
    rw [List.mem_cons, ← v_partsL j ts]
    exact ⟨fun h => h.elim (fun e => nomatch e) id, .inr⟩
theorem v_partsL (j : Int) : ∀ ts : List T, .v j ∈ partsL ts ↔ j ∈ varsL ts
  | [] => ⟨(fun h => nomatch h), (fun h => nomatch h)⟩
  | t :: ts => by
    show T.v j ∈ parts t ++ partsL ts ↔ j ∈ vars t ++ varsL ts
    rw [List.mem_append, List.mem_append, v_parts j t, v_partsL j ts]
end
mutual
theorem vars_len : ∀ t : T, t.vars.length ≤ t.size
  | .v _ => Nat.le_refl _
  | .f x ts => by
    show (varsL ts).length ≤ 1 + sizeL ts
    have := varsL_len ts
    omega
theorem varsL_len : ∀ ts : List T, (varsL ts).length ≤ sizeL ts
  | [] => Nat.le_refl _
  | t :: ts => by
    show (vars t ++ varsL ts).length ≤ size t + sizeL ts
    have h1 := vars_len t
    have h2 := varsL_len ts
    rw [List.length_append]
    omega
end
end T
section
variable {P : Program} {w : World} {K : PySem.W.Frag} {mg : Str → Option Value} {base : Heap}
def spSize (K : PySem.W.Frag) : Sp := fun vs H Q _ => ∃ (t : T) (x : V), vs = [x] ∧ Tm K H t x ∧ t.size ≤ 10000 ∧ ∀ H', Same H H' → Q (.int t.size) H'
theorem ok_size {f fP : Addr} {fd fdP : FuncData} {k : Nat} (F : Fun K "size" "size" sSize f fd) (G : FnOk P w K mg base CX0 k fP fdP ["term"] (spParts K)) (gP : mg "parts_of" = some (.ref fP)) (kP : PySem.W.keepIn K (.ref fP) = true) (bP : Binds K fdP ["term"] [])
    (ml : mg "len" = none) : FnOk P w K mg base CX0 (k + 1) f fd ["term"] (spSize K) := by
  refine F.ok scSize (fun vs H Q E h => ?_) (fun cdv A outer s H vs Q E hr h => ?_)
  · obtain ⟨t, x, rfl, _⟩ := h
    rfl
  · obtain ⟨t, x, rfl, ht, small, q⟩ := h
    refine ⟨_, pss_one (ps_ret (pe_callB call_len_seq (by rfl) ml PySem.boot_len (pa_cons (pe_call G hr (by rfl) gP kP bP .nil pass0 (pa_cons (pv 0) pa_nil)) pa_nil))), ?_⟩
    refine ⟨x, rfl, t, x, rfl, ht, small, fun H' p xs sm _ e all => ⟨p, xs, rfl, .inl (.inl (.inl e)), ?_⟩⟩
    rw [all.len, T.parts_len]
    exact q H' sm
def spVars (K : PySem.W.Frag) : Sp := fun vs H Q _ => ∃ (t : T) (x : V), vs = [x] ∧ Tm K H t x ∧ t.size ≤ 60 ∧
  ∀ H' p (ns : List Int), Same H H' → H p = none → ns.Pairwise (· < ·) → (∀ j : Int, j ∈ ns ↔ j ∈ t.vars) → H' p = some (.tup (ns.map V.int)) → Q (.ref p) H'
theorem ok_vars {f fP : Addr} {fd fdP : FuncData} {k : Nat} (F : Fun K "variables_of" "variables_of" sVars f fd) (G : FnOk P w K mg base CX0 k fP fdP ["term"] (spParts K)) (gP : mg "parts_of" = some (.ref fP)) (kP : PySem.W.keepIn K (.ref fP) = true) (bP : Binds K fdP ["term"] [])
    (mt : mg "tuple" = none) (ms : mg "sorted" = none) (mi : mg "isinstance" = none) (mI : mg "int" = none) : FnOk P w K mg base CX0 (k + 1) f fd ["term"] (spVars K) := by
  refine F.ok scVars (fun vs H Q E h => ?_) (fun cdv A outer s H vs Q E hr h => ?_)
  · obtain ⟨t, x, rfl, _⟩ := h
    rfl
  · obtain ⟨t, x, rfl, ht, small, q⟩ := h
    refine ⟨_, pss_one (ps_ret (pe_callTy call_tuple_of (by rfl) mt (by decide +kernel) (pa_cons (pe_callB (cr_sortedSet rfl) (by rfl) ms (by decide +kernel) (pa_cons
      (pe_setI (own := [("part", 1)]) (g := gName 1) (tt := tB (tCB (rIsi K) (tCons (tVar 1) (tCons (tC (.ty "int")) tNil)))) (te := tVar 1) rfl scVars.nd (pi_list (pe_call G hr (by rfl) gP kP bP .nil pass0 (pa_cons (pv 0) pa_nil))) (blkOk_by (N := ["term", "part"]) (sc := defScope sVars) (by decide +kernel))
        (fun _ _ _ _ _ => pg_name (i := 1) scVars.nd rfl (.inl rfl))
        (fun _ _ _ _ _ => pts_one (pt_val (pe_callB (id := "isinstance") (r := rIsi K) call_isi (by rfl) mi (by decide +kernel) (pa_cons (pv 1) (pa_cons (pe_bltn (v := .ty "int") (by rfl) mI (by decide +kernel) rfl) pa_nil)))))
        (fun _ _ _ _ _ => pv 1)) pa_nil)) pa_nil))), ?_⟩
    refine ⟨x, rfl, t, x, rfl, ht, (by omega), fun H1 p1 xs sm1 n1 e1 all => ⟨p1, rfl, ⟨xs, .inl (.inl e1)⟩, fun D nD => ?_⟩⟩
    have pd : D ≠ p1 := fun e => by rw [e, e1] at nD; cases nD
    have sm0 : Same H H1 := sm1
    refine setI_list (K := K) (a := p1) (xs := xs) (fun i G => ∃ (S : Int → Bool) (n : Nat), G D = some (SetO w D S n) ∧ n ≤ i ∧ (∀ j : Int, S j = true ↔ T.v j ∈ t.parts.take i) ∧ (∀ b u, b ≠ D → H1 b = some u → G b = some u)) ?_ ?_ ?_ ?_
    · refine ⟨no', 0, upd_same, Nat.le_refl _, fun j => ?_, fun b u n e => by rw [upd_ne n]; exact e⟩
      rw [List.take_zero]
      exact ⟨(fun z => nomatch z), (fun z => nomatch z)⟩
    · rintro i G _ ⟨S, n, g, le, is, kp⟩
      exact .inl (.inl (kp _ _ pd.symm e1))
    · rintro i y G hy ⟨S, n, g, le, is, kp⟩
      have tk : TK H1 G := fun b zs => ⟨fun e => kp b _ (fun z => by rw [z, nD] at e; cases e) e, fun o e => kp b _ (fun z => by rw [z, nD] at e; cases e) e⟩
      obtain ⟨u, hu, tu⟩ := (Tms.mono tk _ _ all).get hy
      have tk1 : t.parts.take (i + 1) = t.parts.take i ++ [u] := by rw [List.take_add_one, hu]; rfl
      have bound : i < t.size := by
        have z := (List.getElem?_eq_some_iff.mp hu).1
        rwa [T.parts_len] at z
      cases u with
      | v c =>
        cases (show y = .int c from tu)
        refine ⟨rfl, .int c, rfl, _, .ty "int", .type "int", .type "int", true, rfl, .ty "int", .base (.int c), kitII, true, rfl, ?_⟩
        refine iteT ?_
        refine ⟨.int c, rfl, c, S, n, rfl, g, (by unfold scanBound; omega), add' S c, _, upd_same, ?_, fun j => ?_, fun b u ne e => by rw [upd_ne ne]; exact kp b u ne e⟩
        · split <;> omega
        · show (S j || decide (j = c)) = true ↔ _
          rw [tk1, List.mem_append, Bool.or_eq_true, is j, List.mem_singleton, decide_eq_true_eq]
          exact ⟨fun z => z.imp id (fun e => congrArg T.v e), fun z => z.imp id (fun e => T.v.inj e)⟩
      | f nm ts =>
        refine ⟨rfl, y, rfl, _, .ty "int", .type "tuple", .type "int", false, rfl, .ty "int", tm_tuple tu, kitTI, false, rfl, ?_⟩
        refine iteF ?_
        refine ⟨S, n, g, (by omega), fun j => ?_, kp⟩
        rw [is j, tk1, List.mem_append, List.mem_singleton]
        exact ⟨.inl, fun z => z.elim id (fun e => nomatch e)⟩
    · rintro G ⟨S, n, g, le, is, kp⟩
      rw [all.len, T.parts_len] at le
      rw [all.len, List.take_length] at is
      refine ⟨D, S, n, rfl, g, by omega, fun ns p2 rising mem _ n2 => ?_⟩
      have n2' : H p2 = none := by
        cases z : H p2 with
        | none => rfl
        | some u =>
          have e2 := sm1 _ _ z
          by_cases hd : p2 = D
          · rw [hd, nD] at e2
            cases e2
          · rw [kp _ _ hd e2] at n2
            cases n2
      refine ⟨p2, _, rfl, .inl ⟨.inl (.inl upd_same), fun p3 n3 => ?_⟩⟩
      have ne3 : p3 ≠ p2 := fun z => by rw [z, upd_same] at n3; cases n3
      have n3' : G p3 = none := by rwa [upd_ne ne3] at n3
      have old : ∀ b u, H b = some u → G b = some u := fun b u e => kp b u (fun z => by
        have := sm1 _ _ e
        rw [z, nD] at this
        cases this) (sm1 _ _ e)
      refine q _ p3 ns ?_ ?_ rising (fun j => (mem j).trans ((is j).trans (T.v_parts j t))) upd_same
      · intro b u e
        rw [upd_ne (ne_of_none (old b u e) n3'), upd_ne (ne_of_none e n2')]
        exact old b u e
      · cases z : H p3 with
        | none => rfl
        | some u =>
          rw [old _ _ z] at n3'
          cases n3'
end
end Ad

/-! Paths; places_of. -/
namespace Ad
open PySem PySem.Spec PySem.Calls PyProof.Rows L2
/-- two lists, item by item -/
def F2 {α β : Type} (R : α → β → Prop) : List α → List β → Prop
  | [], ys => ys = []
  | x :: xs, ys => ∃ y zs, ys = y :: zs ∧ R x y ∧ F2 R xs zs
section
variable {α β : Type} {R S : α → β → Prop}
theorem F2.mono (imp : ∀ a b, R a b → S a b) : ∀ {xs : List α} {ys : List β}, F2 R xs ys → F2 S xs ys
  | [], _, h => h
  | x :: xs, _, h => by
    obtain ⟨y, zs, rfl, r, t⟩ := h
    exact ⟨y, zs, rfl, imp _ _ r, F2.mono imp t⟩
theorem F2.len : ∀ {xs : List α} {ys : List β}, F2 R xs ys → ys.length = xs.length
  | [], ys, h => by
    cases (show ys = [] from h)
    rfl
  | x :: xs, _, h => by
    obtain ⟨y, zs, rfl, r, t⟩ := h
    rw [List.length_cons, List.length_cons, F2.len t]
theorem F2.app : ∀ {xs xs' : List α} {ys ys' : List β}, F2 R xs ys → F2 R xs' ys' → F2 R (xs ++ xs') (ys ++ ys')
  | [], _, ys, _, h, k => by
    cases (show ys = [] from h)
    exact k
  | x :: xs, _, _, _, h, k => by
    obtain ⟨y, zs, rfl, r, t⟩ := h
    exact ⟨y, _, rfl, r, F2.app t k⟩
theorem F2.one {a : α} {b : β} (h : R a b) : F2 R [a] [b] := ⟨b, [], rfl, h, rfl⟩
theorem F2.last : ∀ {xs : List α} {ys : List β}, F2 R xs ys → xs ≠ [] → ∃ us u zs z, xs = us ++ [u] ∧ ys = zs ++ [z] ∧ F2 R us zs ∧ R u z
  | [], _, _, n => absurd rfl n
  | [x], ys, h, _ => by
    obtain ⟨y, zs, rfl, r, t⟩ := h
    cases (show zs = [] from t)
    exact ⟨[], x, [], y, rfl, rfl, rfl, r⟩
  | x :: x2 :: xs, ys, h, _ => by
    obtain ⟨y, zs, rfl, r, t⟩ := h
    obtain ⟨us, u, qs, q, e1, e2, a, b⟩ := F2.last (xs := x2 :: xs) t (by simp)
    exact ⟨x :: us, u, y :: qs, q, by rw [e1]; rfl, by rw [e2]; rfl, ⟨y, qs, rfl, r, a⟩, b⟩
theorem F2.get : ∀ {xs : List α} {ys : List β} {i : Nat} {y : β}, F2 R xs ys → ys[i]? = some y → ∃ x, xs[i]? = some x ∧ R x y
  | [], ys, i, y, h, e => by
    cases (show ys = [] from h)
    cases e
  | x :: xs, ys, i, y, h, e => by
    obtain ⟨z, zs, rfl, r, t⟩ := h
    cases i with
    | zero =>
      cases e
      exact ⟨x, rfl, r⟩
    | succ i => exact F2.get (xs := xs) (ys := zs) (i := i) t e
theorem F2.get' : ∀ {xs : List α} {ys : List β} {i : Nat} {x : α}, F2 R xs ys → xs[i]? = some x → ∃ y, ys[i]? = some y ∧ R x y
  | [], ys, i, x, h, e => by cases e
  | x :: xs, ys, i, y, h, e => by
    obtain ⟨z, zs, rfl, r, t⟩ := h
    cases i with
    | zero =>
      cases e
      exact ⟨z, rfl, r⟩
    | succ i => exact F2.get' (xs := xs) (ys := zs) (i := i) t e
theorem F2.mem : ∀ {xs : List α} {ys : List β} {y : β}, F2 R xs ys → y ∈ ys → ∃ x, x ∈ xs ∧ R x y := fun h m => by
  obtain ⟨i, hi, rfl⟩ := List.mem_iff_getElem.mp m
  obtain ⟨x, e, r⟩ := h.get (List.getElem?_eq_getElem hi)
  exact ⟨x, List.mem_of_getElem? e, r⟩
end
namespace T
mutual
/-- the paths of a term, each ahead of those within -/
def paths : T → List (List Int)
  | .v _ => [[]]
  | .f _ ts => [] :: pathsL 0 ts
def pathsL (k : Nat) : List T → List (List Int)
  | [] => []
  | t :: ts => (paths t).map ((k : Int) :: ·) ++ pathsL (k + 1) ts
end
mutual
theorem paths_len : ∀ t : T, t.paths.length = t.size
  | .v _ => rfl
  | .f x ts => by
    show (pathsL 0 ts).length + 1 = 1 + sizeL ts
    rw [pathsL_len 0 ts]
    omega
theorem pathsL_len (k : Nat) : ∀ ts : List T, (pathsL k ts).length = sizeL ts
  | [] => rfl
  | t :: ts => by
    show ((paths t).map ((k : Int) :: ·) ++ pathsL (k + 1) ts).length = size t + sizeL ts
    rw [List.length_append, List.length_map, paths_len t, pathsL_len (k + 1) ts]
end
mutual
theorem paths_dep : ∀ (t : T) (p : List Int), p ∈ t.paths → p.length ≤ t.dep
  | .v _, p, h => by
    cases List.mem_singleton.mp h
    exact Nat.le_refl _
  | .f x ts, p, h => by
    show p.length ≤ 1 + depL ts
    rcases List.mem_cons.mp h with e | e
    · rw [e]
      exact Nat.zero_le _
    · exact pathsL_dep 0 ts p e
theorem pathsL_dep (k : Nat) : ∀ (ts : List T) (p : List Int), p ∈ pathsL k ts → p.length ≤ 1 + depL ts
  | [], p, h => by cases h
  | t :: ts, p, h => by
    show p.length ≤ 1 + max (dep t) (depL ts)
    rcases List.mem_append.mp h with e | e
    · obtain ⟨q, hq, rfl⟩ := List.mem_map.mp e
      have := paths_dep t q hq
      rw [List.length_cons]
      omega
    · have := pathsL_dep (k + 1) ts p e
      omega
end
/-- what an entry of the work list brings -/
def out (e : List Int × T) : List (List Int) := (paths e.2).map (e.1 ++ ·)
def outL : List (List Int × T) → List (List Int)
  | [] => []
  | e :: es => out e ++ outL es
theorem outL_append : ∀ as bs, outL (as ++ bs) = outL as ++ outL bs
  | [], _ => rfl
  | e :: es, bs => by
    show out e ++ outL (es ++ bs) = out e ++ outL es ++ outL bs
    rw [outL_append es bs, List.append_assoc]
theorem outL_len : ∀ es, (outL es).length = sizeL (es.map (·.2))
  | [] => rfl
  | e :: es => by
    show (out e ++ outL es).length = size e.2 + sizeL (es.map (·.2))
    rw [List.length_append, outL_len es]
    show ((paths e.2).map _).length + _ = _
    rw [List.length_map, paths_len]
/-- a name's arguments as entries -/
def en (p : List Int) (k : Nat) : List T → List (List Int × T)
  | [] => []
  | t :: ts => (p ++ [(k : Int)], t) :: en p (k + 1) ts
theorem en_len (p : List Int) : ∀ (k : Nat) (ts : List T), (en p k ts).length = ts.length
  | _, [] => rfl
  | k, t :: ts => congrArg (· + 1) (en_len p (k + 1) ts)
theorem en_get (p : List Int) : ∀ (k : Nat) (ts : List T) (j : Nat) (t : T), ts[j]? = some t → (en p k ts)[j]? = some (p ++ [((k + j : Nat) : Int)], t)
  | _, [], _, _, h => by cases h
  | k, t :: ts, 0, u, h => by
    cases h
    rfl
  | k, t :: ts, j + 1, u, h => by
    show (en p (k + 1) ts)[j]? = _
    rw [en_get p (k + 1) ts j u h]
    congr 4
    omega
theorem en_out (p : List Int) : ∀ (k : Nat) (ts : List T), (pathsL k ts).map (p ++ ·) = outL (en p k ts)
  | _, [] => rfl
  | k, t :: ts => by
    show ((paths t).map ((k : Int) :: ·) ++ pathsL (k + 1) ts).map (p ++ ·) = out (p ++ [(k : Int)], t) ++ outL (en p (k + 1) ts)
    rw [List.map_append, en_out p (k + 1) ts, List.map_map]
    congr 1
    show (paths t).map _ = (paths t).map _
    refine List.map_congr_left fun q _ => ?_
    show p ++ ((k : Int) :: q) = p ++ [(k : Int)] ++ q
    rw [List.append_assoc]
    rfl
theorem out_f (p : List Int) (x : Str) (ts : List T) : out (p, .f x ts) = p :: outL (en p 0 ts) := by
  show (p ++ []) :: (pathsL 0 ts).map (p ++ ·) = _
  rw [List.append_nil, en_out]
theorem out_v (p : List Int) (i : Int) : out (p, .v i) = [p] := by
  show [p ++ []] = _
  rw [List.append_nil]
theorem en_terms (p : List Int) : ∀ (k : Nat) (ts : List T), (en p k ts).map (·.2) = ts
  | _, [] => rfl
  | k, t :: ts => congrArg (t :: ·) (en_terms p (k + 1) ts)
end T
/-- a pair (path, part) that stands in the heap -/
def Pr (K : PySem.W.Frag) (G : Hp) (e : List Int × T) (c : Addr × V × V) : Prop := G c.1 = some (.tup [c.2.1, c.2.2]) ∧ (∃ a, c.2.1 = .ref a ∧ SqT K G a (e.1.map V.int)) ∧ Tm K G e.2 c.2.2
theorem Pr.mono {K : PySem.W.Frag} {G G' : Hp} (k : TK G G') (e : List Int × T) (c : Addr × V × V) (h : Pr K G e c) : Pr K G' e c := by
  obtain ⟨h1, ⟨a, h2, h3⟩, h4⟩ := h
  exact ⟨(k _ _).1 h1, ⟨a, h2, k.sq h3⟩, Tm.mono k _ _ h4⟩
abbrev rf : Addr × V × V → V := fun c => .ref c.1
theorem scPlaces : FnScope ["term", "found", "waiting", "path", "part", "index"] ["term"] (defScope sPlaces) := ⟨rfl, rfl, rfl, by decide +kernel, rfl, by decide +kernel, by decide +kernel⟩
section
variable {P : Program} {w : World} {K : PySem.W.Frag} {mg : Str → Option Value} {base : Heap}
def spPlaces (K : PySem.W.Frag) : Sp := fun vs H Q _ => ∃ (t : T) (x : V), vs = [x] ∧ Tm K H t x ∧ t.size ≤ 10000 ∧
  ∀ H' p (cs : List (Addr × V × V)) (es : List (List Int × T)), Same H H' → H p = none → H' p = some (.lst (cs.map rf)) → F2 (Pr K H') es cs → es.map (·.1) = t.paths → Q (.ref p) H'
theorem ok_places {f : Addr} {fd : FuncData} {k : Nat} (F : Fun K "places_of" "places_of" sPlaces f fd) (mi : mg "isinstance" = none) (mt : mg "tuple" = none) (mr : mg "range" = none) (ml : mg "len" = none) : FnOk P w K mg base CX0 (k + 1) f fd ["term"] (spPlaces K) := by
  refine F.ok scPlaces (fun vs H Q E h => ?_) (fun cdv A outer s H vs Q E hr h => ?_)
  · obtain ⟨t, x, rfl, _⟩ := h
    rfl
  · obtain ⟨t, x, rfl, ht, small, q⟩ := h
    refine ⟨_, pss_cons (ps_set (i := 1) scPlaces.nd rfl (.inl rfl) (pe_lst pa_nil))
      (pss_cons (ps_set (i := 2) scPlaces.nd rfl (.inl rfl) (pe_lst (pa_cons (pe_tup (pa_cons (pe_tup pa_nil) (pa_cons (pv 0) pa_nil))) pa_nil)))
      (pss_cons (ps_while PassesOwn.never (pt_true (pv 2))
        (pss_cons (ps_asg (pe_bm0 PySem.F.plainAttrs_list PySem.F.slot_list_pop PySem.F.type_list_pop mt_pop (pv 2)) (pg_tup rfl (pgs_cons (pg_name (i := 3) scPlaces.nd rfl (.inl rfl)) (pgs_cons (pg_name (i := 4) scPlaces.nd rfl (.inl rfl)) pgs_nil))))
        (pss_cons (ps_expr (pe_bm PySem.F.plainAttrs_list PySem.F.slot_list_append PySem.F.type_list_append mt_append (pv 1) (pa_cons (pe_tup (pa_cons (pv 3) (pa_cons (pv 4) pa_nil))) pa_nil)))
        (pss_one (ps_if (pt_val (pe_callB call_isi (by rfl) mi (by decide +kernel) (pa_cons (pv 4) (pa_cons (pe_bltn (v := .ty "tuple") (by rfl) mt (by decide +kernel) rfl) pa_nil))))
          (pss_one (ps_for PassesOwn.never rfl (pi_range3 (by rfl) mr (pa_cons (pe_op op_sub (pe_callB call_len_seq (by rfl) ml PySem.boot_len (pa_cons (pv 4) pa_nil)) pe_int) (pa_cons (pe_un un_neg pe_int) (pa_cons (pe_un un_neg pe_int) pa_nil))))
            (pg_name (i := 5) scPlaces.nd rfl (.inl rfl))
            (pss_one (ps_expr (pe_bm PySem.F.plainAttrs_list PySem.F.slot_list_append PySem.F.type_list_append mt_append (pv 2)
              (pa_cons (pe_tup (pa_cons (pe_op op_catA (pv 3) (pe_tup (pa_cons (pv 5) pa_nil))) (pa_cons (pe_ix ix_tup (pv 4) (pe_op op_add (pv 5) pe_int) (fun _ _ => rfl)) pa_nil))) pa_nil))))))
          pss_nil)))))
      (pss_one (ps_ret (pv 1))))), ?_⟩
    refine ⟨by decide, fun p1 n1 => ?_⟩
    refine ⟨by decide, fun pa na => ?_⟩
    refine ⟨_, rfl, (by show 2 ≤ sizeLine; decide), fun pb nb => ?_⟩
    refine ⟨(by show 1 ≤ sizeLine; decide), fun p2 n2 => ?_⟩
    have ab : pa ≠ p1 := fun e => by rw [e, upd_same] at na; cases na
    have bb1 : pb ≠ pa := fun e => by rw [e, upd_same] at nb; cases nb
    have nb' : (upd H p1 (.lst [])) pb = none := by rwa [upd_ne bb1] at nb
    have bb2 : pb ≠ p1 := fun e => by rw [e, upd_same] at nb'; cases nb'
    have c1 : p2 ≠ pb := fun e => by rw [e, upd_same] at n2; cases n2
    have n2a : (upd (upd H p1 (.lst [])) pa (.tup [])) p2 = none := by rwa [upd_ne c1] at n2
    have c2 : p2 ≠ pa := fun e => by rw [e, upd_same] at n2a; cases n2a
    have n2b : (upd H p1 (.lst [])) p2 = none := by rwa [upd_ne c2] at n2a
    have ne : p2 ≠ p1 := fun e => by rw [e, upd_same] at n2b; cases n2b
    have n2' : H p2 = none := by rwa [upd_ne ne] at n2b
    have na' : H pa = none := by rwa [upd_ne ab] at na
    have nb2 : H pb = none := by rwa [upd_ne bb2] at nb'
    have sm0 : Same H (upd (upd (upd (upd H p1 (.lst [])) pa (.tup [])) pb (.tup [.ref pa, x])) p2 (.lst [.ref pb])) :=
      same_on (same_on (same_on (same_on (fun b o e => e) n1 _) na' _) nb2 _) n2' _
    refine while_m (fun σ G => ∃ (v3 v4 v5 : Option V) (fin todo : List (List Int × T)) (xs ws : List (Addr × V × V)), σ = [some x, some (.ref p1), some (.ref p2), v3, v4, v5] ∧ G p1 = some (.lst (xs.map rf)) ∧ G p2 = some (.lst (ws.map rf)) ∧ Same H G ∧
      F2 (Pr K G) fin xs ∧ F2 (Pr K G) todo ws ∧ fin.map (·.1) ++ T.outL todo.reverse = t.paths) (fun _ G => t.size - lenAt G p1) ?_ ?_ ?_
    · refine ⟨none, none, none, [], [([], t)], [], [(pb, .ref pa, x)], rfl, by rw [upd_ne ne.symm, upd_ne bb2.symm, upd_ne ab.symm]; exact upd_same, upd_same, sm0, rfl, F2.one ⟨?_, ⟨pa, rfl, .inl (.inl ?_)⟩, Tm.mono (TK.same sm0) t x ht⟩, ?_⟩
      · rw [upd_ne c1.symm]
        exact upd_same
      · rw [upd_ne c2.symm, upd_ne bb1.symm]
        exact upd_same
      · show (T.paths t).map ([] ++ ·) ++ [] = _
        rw [List.append_nil]
        exact List.map_id _
    · rintro σ G ⟨v3, v4, v5, fin, todo, xs, ws, rfl, g1, g2, sm, a1, a2, sum⟩
      have total : xs.length + T.sizeL (todo.map (·.2)) = t.size := by
        rw [a1.len, ← T.sizeL_reverse, ← List.map_reverse, ← T.outL_len, ← T.paths_len, ← sum, List.length_append, List.length_map]
      refine ⟨_, rfl, !(ws.map rf).isEmpty, .inl ⟨ws.map rf, .inl (.inl g2), rfl⟩, ?_⟩
      by_cases em : todo = []
      · subst em
        cases (show ws = [] from a2)
        refine iteF ?_
        refine ⟨_, rfl, q G p1 xs fin sm n1 g1 a1 ?_⟩
        rw [← sum]
        exact (List.append_nil _).symm
      · obtain ⟨us, ⟨pt, u⟩, ys, ⟨ca, cv, cx⟩, rfl, rfl, b1, b2⟩ := a2.last em
        have isT : (!((ys ++ [(ca, cv, cx)]).map rf).isEmpty) = true := by cases ys <;> rfl
        rw [isT]
        refine iteT ?_
        have total' : xs.length + (T.sizeL (us.map (·.2)) + (u.size + 0)) = t.size := by
          rw [← total, List.map_append, T.sizeL_append]
          rfl
        have up := u.size_pos
        have mp : (ys ++ [(ca, cv, cx)]).map rf = ys.map rf ++ [V.ref ca] := by rw [List.map_append]; rfl
        have rv : (us ++ [(pt, u)]).reverse = (pt, u) :: us.reverse := by rw [List.reverse_append]; rfl
        rw [rv] at sum
        have sum' : fin.map (·.1) ++ (T.out (pt, u) ++ T.outL us.reverse) = t.paths := sum
        rw [mp] at g2
        have dl : (ys.map rf ++ [V.ref ca]).dropLast = ys.map rf := List.dropLast_concat
        refine ⟨_, rfl, .inl ⟨rfl, _, .inl (.inl g2)⟩, p2, ys.map rf ++ [V.ref ca], .ref ca, rfl, rfl, g2, (by rw [List.length_append, List.length_singleton, Nat.add_sub_cancel, List.getElem?_append_right (Nat.le_refl _), Nat.sub_self]; rfl), ?_⟩
        rw [dl]
        have k2 : TK G (upd G p2 (.lst (ys.map rf))) := TK.lst g2 _
        have h1 : (upd G p2 (.lst (ys.map rf))) p1 = some (.lst (xs.map rf)) := by rw [upd_ne ne.symm]; exact g1
        have h2 : (upd G p2 (.lst (ys.map rf))) p2 = some (.lst (ys.map rf)) := upd_same
        have sm2 : Same H (upd G p2 (.lst (ys.map rf))) := same_on sm n2' _
        have c1 := F2.mono (Pr.mono k2) a1
        have c2 := F2.mono (Pr.mono k2) b1
        have c3 := Pr.mono k2 _ _ b2
        generalize upd G p2 (.lst (ys.map rf)) = G2 at h1 h2 sm2 c1 c2 c3
        obtain ⟨at1, ⟨pd, rfl, sqp⟩, tmx⟩ := c3
        refine ⟨ca, _, rfl, .inl (.inl at1), rfl, _, _, rfl, _, _, rfl, rfl, ?_⟩
        refine ⟨_, rfl, .inl ⟨rfl, _, .inl (.inl h1)⟩, V.ref pd, rfl, cx, rfl, (by show 2 ≤ sizeLine; decide), fun p4 n4 => ?_⟩
        have k3 : TK G2 (upd G2 p4 (.tup [.ref pd, cx])) := TK.new n4 _
        have f1 : p1 ≠ p4 := ne_of_none h1 n4
        have f2 : p2 ≠ p4 := ne_of_none h2 n4
        have i1 : (upd G2 p4 (.tup [.ref pd, cx])) p1 = some (.lst (xs.map rf)) := by rw [upd_ne f1]; exact h1
        have i2 : (upd G2 p4 (.tup [.ref pd, cx])) p2 = some (.lst (ys.map rf)) := by rw [upd_ne f2]; exact h2
        have i4 : (upd G2 p4 (.tup [.ref pd, cx])) p4 = some (.tup [.ref pd, cx]) := upd_same
        have sm3 : Same H (upd G2 p4 (.tup [.ref pd, cx])) := fun b o e => by
          rw [upd_ne (ne_of_none (sm2 b o e) n4)]
          exact sm2 b o e
        have d1 := F2.mono (Pr.mono k3) c1
        have d2 := F2.mono (Pr.mono k3) c2
        have d3 := k3.sq sqp
        have d4 := Tm.mono k3 _ _ tmx
        generalize upd G2 p4 (.tup [.ref pd, cx]) = G3 at i1 i2 i4 sm3 d1 d2 d3 d4
        refine ⟨p1, xs.map rf, .ref p4, rfl, rfl, i1, (by rw [List.length_map, sizeLine_eq]; omega), ?_⟩
        have k4 : TK G3 (upd G3 p1 (.lst (xs.map rf ++ [.ref p4]))) := TK.lst i1 _
        have j1 : (upd G3 p1 (.lst (xs.map rf ++ [.ref p4]))) p1 = some (.lst ((xs ++ [(p4, V.ref pd, cx)]).map rf)) := by rw [List.map_append]; exact upd_same
        have j2 : (upd G3 p1 (.lst (xs.map rf ++ [.ref p4]))) p2 = some (.lst (ys.map rf)) := by rw [upd_ne ne]; exact i2
        have sm4 : Same H (upd G3 p1 (.lst (xs.map rf ++ [.ref p4]))) := same_on sm3 n1 _
        have e1 := F2.mono (Pr.mono k4) (F2.app d1 (F2.one (R := Pr K G3) (a := (pt, u)) (b := (p4, V.ref pd, cx)) ⟨i4, ⟨pd, rfl, d3⟩, d4⟩))
        have e2 := F2.mono (Pr.mono k4) d2
        have e3 := k4.sq d3
        have e4 := Tm.mono k4 _ _ d4
        generalize upd G3 p1 (.lst (xs.map rf ++ [.ref p4])) = G4 at j1 j2 sm4 e1 e2 e3 e4
        have less : t.size - (xs ++ [(p4, V.ref pd, cx)]).length < t.size - lenAt G p1 := by
          rw [lenAt_of g1, List.length_map, List.length_append, List.length_singleton]
          omega
        cases u with
        | v i =>
          cases (show cx = .int i from e4)
          refine ⟨.int i, rfl, _, .ty "tuple", .type "int", .type "tuple", false, rfl, .ty "tuple", .base (.int i), kitIT, false, rfl, ?_⟩
          refine iteF ?_
          refine ⟨⟨_, _, _, fin ++ [(pt, .v i)], us, _, _, rfl, j1, j2, sm4, e1, e2, ?_⟩, by rw [lenAt_of j1, List.length_map]; exact less⟩
          rw [← sum', T.out_v, List.map_append, List.append_assoc]
          rfl
        | f nm ts =>
          have ty := tm_tuple e4
          obtain ⟨a, zs, rfl, sq, all⟩ := e4
          refine ⟨.ref a, rfl, _, .ty "tuple", .type "tuple", .type "tuple", true, rfl, .ty "tuple", ty, kitTT, true, rfl, ?_⟩
          refine iteT ?_
          have lz := all.len
          have pdep : pt.length ≤ t.dep := T.paths_dep t pt (by
            rw [← sum', T.out_f]
            exact List.mem_append_right _ List.mem_cons_self)
          have tdep := T.dep_size t
          have szu : T.size (.f nm ts) = 1 + T.sizeL ts := rfl
          have l1 := T.len_sizeL ts
          have l2 := T.len_sizeL (us.map (·.2))
          rw [List.length_map] at l2
          have lc : ((V.str nm :: zs).length : Int) = (ts.length : Int) + 1 := by rw [List.length_cons, lz]; rfl
          have rg : RgC (((V.str nm :: zs).length : Int) - 2) (-1) (-1) ((((V.str nm :: zs).length : Int) - 2) - (-1)).toNat := RgC.neg (by omega) (by omega) (by decide) (by decide)
          have many : ((((V.str nm :: zs).length : Int) - 2) - (-1)).toNat = ts.length := by omega
          rw [many] at rg
          refine ⟨.ref a, rfl, a, _, rfl, .inr sq, _, _, rfl, rfl, 1, rfl, 1, rfl, _, _, _, _, rfl, rg, ?_⟩
          refine for_rangeC (fun i σ G' => ∃ (v5 : Option V) (qs : List (Addr × V × V)), σ = [some x, some (.ref p1), some (.ref p2), some (.ref pd), some (.ref a), v5] ∧ G' p1 = some (.lst ((xs ++ [(p4, V.ref pd, V.ref a)]).map rf)) ∧ G' p2 = some (.lst (qs.map rf)) ∧ Same H G' ∧
            F2 (Pr K G') (fin ++ [(pt, .f nm ts)]) (xs ++ [(p4, V.ref pd, V.ref a)]) ∧ F2 (Pr K G') (us ++ ((T.en pt 0 ts).drop (ts.length - i)).reverse) qs ∧ SqT K G' pd (pt.map V.int) ∧ SqT K G' a (V.str nm :: zs) ∧ Tms K G' ts zs) ?_ ?_ ?_
          · refine ⟨_, ys, rfl, j1, j2, sm4, e1, ?_, e3, sq, all⟩
            rw [Nat.sub_zero, ← T.en_len pt 0 ts, List.drop_length, List.reverse_nil, List.append_nil]
            exact e2
          · rintro i σ5 G5 hi ⟨v5, qs, rfl, g1', g2', sm5, a1', a2', sp', sq', all'⟩
            have hj : ts.length - 1 - i < ts.length := by omega
            have hu := List.getElem?_eq_getElem hj
            have he := T.en_get pt 0 ts _ _ hu
            obtain ⟨y, hy, ty⟩ := all'.get' hu
            have ix : ((V.str nm :: zs).length : Int) - 2 + (i : Int) * (-1) = ((ts.length - 1 - i : Nat) : Int) := by omega
            rw [ix]
            rw [Nat.zero_add] at he
            generalize hjj : ts.length - 1 - i = j at hj hu he hy ix
            have dr : (T.en pt 0 ts).drop j = (pt ++ [(j : Int)], ts[j]) :: (T.en pt 0 ts).drop (ts.length - i) := by
              obtain ⟨hj2, ej⟩ := List.getElem?_eq_some_iff.mp he
              rw [List.drop_eq_getElem_cons hj2, ej]
              congr 2
              omega
            refine ⟨_, rfl, .inl ⟨rfl, _, .inl (.inl g2')⟩, .ref pd, rfl, .int (j : Int), rfl, (by show 1 ≤ sizeLine; decide), fun p6 n6 => ?_⟩
            have k6 : TK G5 (upd G5 p6 (.tup [.int (j : Int)])) := TK.new n6 _
            have m1 : (upd G5 p6 (.tup [.int (j : Int)])) p1 = some (.lst ((xs ++ [(p4, V.ref pd, V.ref a)]).map rf)) := by rw [upd_ne (ne_of_none g1' n6)]; exact g1'
            have m2 : (upd G5 p6 (.tup [.int (j : Int)])) p2 = some (.lst (qs.map rf)) := by rw [upd_ne (ne_of_none g2' n6)]; exact g2'
            have m6 : (upd G5 p6 (.tup [.int (j : Int)])) p6 = some (.tup [.int (j : Int)]) := upd_same
            have sm6 : Same H (upd G5 p6 (.tup [.int (j : Int)])) := fun b o e => by
              rw [upd_ne (ne_of_none (sm5 b o e) n6)]
              exact sm5 b o e
            have z1 := F2.mono (Pr.mono k6) a1'
            have z2 := F2.mono (Pr.mono k6) a2'
            have z3 := k6.sq sp'
            have z4 := k6.sq sq'
            have z5 := Tms.mono k6 _ _ all'
            have z6 := Tm.mono k6 _ _ ty
            generalize upd G5 p6 (.tup [.int (j : Int)]) = G6 at m1 m2 m6 sm6 z1 z2 z3 z4 z5 z6
            have go : ∀ (r : Addr) (G7 : Hp), TK G6 G7 → G7 p1 = some (.lst ((xs ++ [(p4, V.ref pd, V.ref a)]).map rf)) → G7 p2 = some (.lst (qs.map rf)) → Same H G7 → SqT K G7 r ((pt ++ [(j : Int)]).map V.int) →
                tCons (tOp (rIxT K) (tVar 4) (tOp (rI0 fun i j => .int (i + j)) (tVar 5) (tC (.int 1)))) tNil [some x, some (.ref p1), some (.ref p2), some (.ref pd), some (.ref a), some (.int (j : Int))] G7 (fun vs G8 => vs.length + 1 ≤ sizeLine ∧ ∀ p, G8 p = none → ∃ (l : Addr) (xs' : List V) (y' : V), V.ref p2 = .ref l ∧ [V.ref p] = [y'] ∧ (upd G8 p (.tup (V.ref r :: vs))) l = some (.lst xs') ∧ xs'.length < sizeLine ∧
                  ∃ (v5 : Option V) (qs : List (Addr × V × V)), [some x, some (V.ref p1), some (V.ref p2), some (V.ref pd), some (V.ref a), some (V.int (j : Int))] = [some x, some (.ref p1), some (.ref p2), some (.ref pd), some (.ref a), v5] ∧ (upd (upd G8 p (.tup (V.ref r :: vs))) l (.lst (xs' ++ [y']))) p1 = some (.lst ((xs ++ [(p4, V.ref pd, V.ref a)]).map rf)) ∧ (upd (upd G8 p (.tup (V.ref r :: vs))) l (.lst (xs' ++ [y']))) p2 = some (.lst (qs.map rf)) ∧ Same H (upd (upd G8 p (.tup (V.ref r :: vs))) l (.lst (xs' ++ [y']))) ∧
                  F2 (Pr K (upd (upd G8 p (.tup (V.ref r :: vs))) l (.lst (xs' ++ [y'])))) (fin ++ [(pt, .f nm ts)]) (xs ++ [(p4, V.ref pd, V.ref a)]) ∧ F2 (Pr K (upd (upd G8 p (.tup (V.ref r :: vs))) l (.lst (xs' ++ [y'])))) (us ++ ((T.en pt 0 ts).drop (ts.length - (i + 1))).reverse) qs ∧
                  SqT K (upd (upd G8 p (.tup (V.ref r :: vs))) l (.lst (xs' ++ [y']))) pd (pt.map V.int) ∧ SqT K (upd (upd G8 p (.tup (V.ref r :: vs))) l (.lst (xs' ++ [y']))) a (V.str nm :: zs) ∧ Tms K (upd (upd G8 p (.tup (V.ref r :: vs))) l (.lst (xs' ++ [y']))) ts zs) := by
              intro r G7 k7 m1 m2 sm7 sr
              have at' : atI (V.str nm :: zs) ((j : Int) + 1) = some y := by
                have e : ((j : Int) + 1) = ((j + 1 : Nat) : Int) := by omega
                rw [e]
                exact atI_nat (j := j + 1) hy
              refine ⟨.ref a, rfl, _, rfl, _, _, rfl, rfl, a, _, _, y, rfl, rfl, k7.sq z4, at', (by show 1 + 1 ≤ sizeLine; decide), fun p8 n8 => ?_⟩
              have k8 : TK G7 (upd G7 p8 (.tup [.ref r, y])) := TK.new n8 _
              have w1 : (upd G7 p8 (.tup [.ref r, y])) p1 = some (.lst ((xs ++ [(p4, V.ref pd, V.ref a)]).map rf)) := by rw [upd_ne (ne_of_none m1 n8)]; exact m1
              have w2 : (upd G7 p8 (.tup [.ref r, y])) p2 = some (.lst (qs.map rf)) := by rw [upd_ne (ne_of_none m2 n8)]; exact m2
              have w8 : (upd G7 p8 (.tup [.ref r, y])) p8 = some (.tup [.ref r, y]) := upd_same
              have sm8 : Same H (upd G7 p8 (.tup [.ref r, y])) := fun b o e => by
                rw [upd_ne (ne_of_none (sm7 b o e) n8)]
                exact sm7 b o e
              have kk : TK G6 (upd G7 p8 (.tup [.ref r, y])) := k7.trans k8
              have sr8 := k8.sq sr
              have qlen := a2'.len
              generalize upd G7 p8 (.tup [.ref r, y]) = G8 at w1 w2 w8 sm8 kk sr8
              have k9 : TK G8 (upd G8 p2 (.lst (qs.map rf ++ [.ref p8]))) := TK.lst w2 _
              have k69 := kk.trans k9
              refine ⟨p2, qs.map rf, .ref p8, rfl, rfl, w2, ?_, _, qs ++ [(p8, V.ref r, y)], rfl, by rw [upd_ne ne.symm]; exact w1, ?_, same_on sm8 n2' _, F2.mono (Pr.mono k69) z1, ?_, k69.sq z3, k69.sq z4, Tms.mono k69 _ _ z5⟩
              · rw [List.length_map, qlen, List.length_append, List.length_reverse, List.length_drop, T.en_len, sizeLine_eq]
                omega
              · rw [List.map_append]
                exact upd_same
              · have e9 : ts.length - (i + 1) = j := by omega
                rw [e9, dr, List.reverse_cons, ← List.append_assoc]
                exact F2.app (F2.mono (Pr.mono k69) z2) (F2.one ⟨(k9 _ _).1 w8, ⟨r, rfl, k9.sq sr8⟩, Tm.mono k69 _ _ z6⟩)
            refine ⟨pd, p6, _, _, rfl, rfl, z3, .inl (.inl m6), (by
              rw [List.length_map, sizeLine_eq]
              show pt.length + 1 ≤ _
              omega), ?_, ?_, ?_⟩
            · intro e
              refine go p6 G6 (TK.refl _) m1 m2 sm6 ?_
              have e' : pt = [] := List.map_eq_nil_iff.mp e
              rw [e']
              exact .inl (.inl m6)
            · intro _ e
              cases e
            · intro _ _ p7 n7
              refine go p7 _ (TK.new n7 _) (by rw [upd_ne (ne_of_none m1 n7)]; exact m1) (by rw [upd_ne (ne_of_none m2 n7)]; exact m2) (fun b o e => ?_) ?_
              · rw [upd_ne (ne_of_none (sm6 b o e) n7)]
                exact sm6 b o e
              · rw [List.map_append]
                exact .inl (.inl upd_same)
          · rintro σ5 G5 ⟨v5, qs, rfl, g1', g2', sm5, a1', a2', sp', sq', all'⟩
            rw [Nat.sub_self, List.drop_zero] at a2'
            refine ⟨⟨_, _, _, fin ++ [(pt, .f nm ts)], us ++ (T.en pt 0 ts).reverse, _, qs, rfl, g1', g2', sm5, a1', a2', ?_⟩, by rw [lenAt_of g1', List.length_map]; exact less⟩
            rw [← sum', T.out_f, List.map_append, List.append_assoc, List.reverse_append, List.reverse_reverse, T.outL_append]
            rfl
    · exact mono_true mono_var
end
end Ad

/-! at, put_at. -/
namespace Ad
open PySem PySem.Spec PySem.Calls PyProof.Rows L2
namespace T
/-- the part at a path -/
def sub : List Int → T → Option T
  | [], t => some t
  | _ :: _, .v _ => none
  | k :: p, .f _ ts => if 0 ≤ k then (match ts[k.toNat]? with
      | some u => sub p u
      | none => none) else none
/-- a term with another part at a path -/
def put (new : T) : List Int → T → Option T
  | [], _ => some new
  | _ :: _, .v _ => none
  | k :: p, .f x ts => if 0 ≤ k then (match ts[k.toNat]? with
      | some u => (match put new p u with
        | some r => some (.f x (ts.set k.toNat r))
        | none => none)
      | none => none) else none
theorem sub_cons {k : Int} {p : List Int} {t u : T} (h : sub (k :: p) t = some u) : ∃ (j : Nat) (x : Str) (ts : List T) (y : T), k = (j : Int) ∧ t = .f x ts ∧ ts[j]? = some y ∧ sub p y = some u := by
  cases t with
  | v i => cases h
  | f x ts =>
    have h' : (if 0 ≤ k then (match ts[k.toNat]? with | some u => sub p u | none => none) else none) = some u := h
    by_cases k0 : 0 ≤ k
    · rw [if_pos k0] at h'
      cases e : ts[k.toNat]? with
      | none =>
        rw [e] at h'
        cases h'
      | some y =>
        rw [e] at h'
        exact ⟨k.toNat, x, ts, y, by omega, rfl, e, h'⟩
    · rw [if_neg k0] at h'
      cases h'
theorem put_cons {new : T} {k : Int} {p : List Int} {t r : T} (h : put new (k :: p) t = some r) : ∃ (j : Nat) (x : Str) (ts : List T) (y z : T), k = (j : Int) ∧ t = .f x ts ∧ ts[j]? = some y ∧ put new p y = some z ∧ r = .f x (ts.set j z) := by
  cases t with
  | v i => cases h
  | f x ts =>
    have h' : (if 0 ≤ k then (match ts[k.toNat]? with | some u => (match put new p u with | some r => some (T.f x (ts.set k.toNat r)) | none => none) | none => none) else none) = some r := h
    by_cases k0 : 0 ≤ k
    · rw [if_pos k0] at h'
      cases e : ts[k.toNat]? with
      | none =>
        rw [e] at h'
        cases h'
      | some y =>
        rw [e] at h'
        dsimp only at h'
        cases e2 : put new p y with
        | none =>
          rw [e2] at h'
          cases h'
        | some z =>
          rw [e2] at h'
          cases h'
          exact ⟨k.toNat, x, ts, y, z, by omega, rfl, e, e2, rfl⟩
    · rw [if_neg k0] at h'
      cases h'
end T
def iD (ns : List Int) : PyData := .tuple (ns.map .int)
theorem int_lay : ∀ ns : List Int, PyData.canLayAll0 (ns.map .int) = true
  | [] => rfl
  | n :: ns => by
    show (true && PyData.canLayAll0 (ns.map .int)) = true
    rw [int_lay ns]
    rfl
theorem int_depth : ∀ ns : List Int, PyData.depthAll (ns.map .int) = 0
  | [] => rfl
  | n :: ns => by
    show max 0 (PyData.depthAll (ns.map .int)) = 0
    rw [int_depth ns]
    rfl
theorem iD_shaped (ns : List Int) : SeqAt.shaped (iD ns) = true := by
  unfold SeqAt.shaped
  have h1 : (iD ns).canLay0 = true := int_lay ns
  have h2 : (iD ns).depth = 1 := by
    show PyData.depthAll (ns.map .int) + 1 = 1
    rw [int_depth]
  rw [h1, h2]
  rfl
theorem ints_dp {K : PySem.W.Frag} {H : Hp} : ∀ ns : List Int, DpAll K H (ns.map V.int) (ns.map .int)
  | [] => .nil
  | n :: ns => .cons (.int n) (ints_dp ns)
theorem iD_dp {K : PySem.W.Frag} {H : Hp} {a : Addr} {ns : List Int} (h : SqT K H a (ns.map V.int)) : Dp K H (.ref a) (iD ns) := .tup h (ints_dp ns)
theorem iD_nil (ns : List Int) : PyData.eqv (iD ns) (iD []) = ns.isEmpty := by
  cases ns <;> first | rfl | (simp [iD, PyData.eqv, PyData.eqvAll])
theorem hu64 {k : Nat} {A : Around} (hr : Room k A) : A.units + 64 < cLine := by
  have := hr.un
  omega
abbrev sAt : Stmt := topS 7
abbrev sPut : Stmt := topS 8
theorem scAt : FnScope ["term", "path", "index"] ["term", "path"] (defScope sAt) := ⟨rfl, rfl, rfl, by decide +kernel, rfl, by decide +kernel, by decide +kernel⟩
theorem scPut : FnScope ["term", "path", "new", "around", "index", "whole"] ["term", "path", "new"] (defScope sPut) := ⟨rfl, rfl, rfl, by decide +kernel, rfl, by decide +kernel, by decide +kernel⟩
section
variable {P : Program} {w : World} {K : PySem.W.Frag} {mg : Str → Option Value} {base : Heap}
def spAt (K : PySem.W.Frag) : Sp := fun vs H Q _ => ∃ (t u : T) (x : V) (a : Addr) (p : List Int), vs = [x, .ref a] ∧ Tm K H t x ∧ SqT K H a (p.map V.int) ∧ T.sub p t = some u ∧ ∀ v, Tm K H u v → Q v H
theorem ok_at {f : Addr} {fd : FuncData} {k : Nat} (F : Fun K "at" "at" sAt f fd) : FnOk P w K mg base CX0 (k + 1) f fd ["term", "path"] (spAt K) := by
  refine F.ok scAt (fun vs H Q E h => ?_) (fun cdv A outer s H vs Q E hr h => ?_)
  · obtain ⟨t, u, x, a, p, rfl, _⟩ := h
    rfl
  · obtain ⟨t, u, x, a, p, rfl, ht, hp, hs, q⟩ := h
    refine ⟨_, pss_cons (ps_for PassesOwn.never rfl (pi_tup (pv 1)) (pg_name (i := 2) scAt.nd rfl (.inl rfl)) (pss_one (ps_set (i := 0) scAt.nd rfl (.inl rfl) (pe_ix ix_tup (pv 0) (pe_op op_add (pv 2) pe_int) (fun _ _ => rfl))))) (pss_one (ps_ret (pv 0))), ?_⟩
    refine ⟨.ref a, rfl, a, rfl, ⟨_, hp⟩, for_tup (K := K) (a := a) (xs := p.map V.int) (fun i σ G => ∃ (y : V) (z : T) (v2 : Option V), σ = [some y, some (.ref a), v2] ∧ G = H ∧ Tm K H z y ∧ T.sub (p.drop i) z = some u) ⟨x, t, none, rfl, rfl, ht, hs⟩ (fun i σ G _ ⟨_, _, _, _, e, _⟩ => by rw [e]; exact hp) ?_ ?_⟩
    · rintro i c σ G hi ⟨y, z, v2, rfl, rfl, hz, hs'⟩
      have hlt : i < p.length := by
        have := (List.getElem?_eq_some_iff.mp hi).1
        rwa [List.length_map] at this
      rw [List.getElem?_map, List.getElem?_eq_getElem hlt] at hi
      cases hi
      rw [List.drop_eq_getElem_cons hlt] at hs'
      obtain ⟨j, nm, ts, z', e1, rfl, e3, e4⟩ := T.sub_cons hs'
      obtain ⟨b, ys, rfl, sq, all⟩ := hz
      obtain ⟨y', h1, h2⟩ := all.get' e3
      rw [e1]
      refine ⟨.ref b, rfl, .int (j : Int), rfl, _, _, rfl, rfl, b, _, _, y', rfl, rfl, sq, ?_, y', z', _, rfl, rfl, h2, e4⟩
      have e : ((j : Int) + 1) = ((j + 1 : Nat) : Int) := by omega
      rw [e]
      exact atI_nat (j := j + 1) h1
    · rintro σ G ⟨y, z, v2, rfl, rfl, hz, hs'⟩
      rw [List.length_map, List.drop_length] at hs'
      cases (show some z = some u from hs')
      exact ⟨y, rfl, q y hz⟩
/-- put at a path of fewer than n steps -/
def spPut (K : PySem.W.Frag) (n : Nat) : Sp := fun vs H Q _ => ∃ (t new r : T) (x y : V) (a : Addr) (p : List Int), vs = [x, .ref a, y] ∧ Tm K H t x ∧ Tm K H new y ∧ SqT K H a (p.map V.int) ∧ p.length < n ∧ t.size ≤ 10000 ∧ T.put new p t = some r ∧ ∀ v H', Same H H' → Tm K H' r v → Q v H'
theorem same_new {H H' : Hp} {p : Addr} (s : Same H H') (n : H' p = none) (o : HO) : Same H (upd H' p o) := fun b u e => by
  rw [upd_ne (ne_of_none (s b u e) n)]
  exact s b u e
theorem Tms.set {H : Hp} {x : V} {t : T} : ∀ {ts : List T} {xs : List V} (j : Nat), Tms K H ts xs → Tm K H t x → Tms K H (ts.set j t) (xs.take j ++ x :: xs.drop (j + 1)) ∨ ts.length ≤ j
  | [], _, j, _, _ => .inr (Nat.zero_le _)
  | u :: us, xs, j, h, hx => by
    obtain ⟨y, ys, rfl, one, all⟩ := h
    cases j with
    | zero => exact .inl ⟨x, ys, rfl, hx, all⟩
    | succ j =>
      rcases Tms.set (ts := us) (xs := ys) j all hx with z | z
      · exact .inl ⟨y, _, rfl, one, z⟩
      · exact .inr (Nat.succ_le_succ z)
theorem vac {k : Nat} {f : Addr} {fd : FuncData} {ps : List Str} {sp : Sp} (no : ∀ vs H Q E, ¬ sp vs H Q E) : FnOk P w K mg base CX0 k f fd ps sp :=
  ⟨fun vs H Q E h => absurd h (no vs H Q E), fun A outer s H args us vs Q E _ _ _ _ h => absurd h (no vs H Q E)⟩
theorem cut_low {x : V} {xs : List V} {j : Nat} (h : j < xs.length) : ¬ (HT.sIx (x :: xs).length 0 none = 0 ∧ HT.sIx (x :: xs).length (x :: xs).length (some ((j : Int) + 1)) = (x :: xs).length) ∧ cutV (x :: xs) none (some ((j : Int) + 1)) = x :: xs.take j := by
  have e : ((j : Int) + 1) = ((j + 1 : Nat) : Int) := by omega
  rw [e]
  have e2 : HT.sIx (x :: xs).length (x :: xs).length (some ((j + 1 : Nat) : Int)) = j + 1 := by
    rw [HT.sIx_nat, List.length_cons]
    omega
  constructor
  · rw [e2, List.length_cons]
    omega
  · unfold cutV
    rw [e2, HT.sIx_none, List.drop_zero, Nat.sub_zero, List.take_succ_cons]
theorem cut_high {x : V} {xs : List V} {j : Nat} (h : j < xs.length) : ¬ (HT.sIx (x :: xs).length 0 (some ((j : Int) + 1 + 1)) = 0 ∧ HT.sIx (x :: xs).length (x :: xs).length none = (x :: xs).length) ∧ cutV (x :: xs) (some ((j : Int) + 1 + 1)) none = xs.drop (j + 1) := by
  have e : ((j : Int) + 1 + 1) = ((j + 2 : Nat) : Int) := by omega
  rw [e]
  have e2 : HT.sIx (x :: xs).length 0 (some ((j + 2 : Nat) : Int)) = j + 2 := by
    rw [HT.sIx_nat, List.length_cons]
    omega
  constructor
  · rw [e2]
    omega
  · unfold cutV
    rw [e2, HT.sIx_none]
    show ((xs.drop (j + 1))).take _ = _
    rw [List.take_of_length_le]
    rw [List.length_drop, List.length_cons]
    omega
theorem cut_tail {k : Int} {p : List Int} : ¬ (HT.sIx ((k :: p).map V.int).length 0 (some 1) = 0 ∧ HT.sIx ((k :: p).map V.int).length ((k :: p).map V.int).length none = ((k :: p).map V.int).length) ∧ cutV ((k :: p).map V.int) (some 1) none = p.map V.int := by
  have e2 : HT.sIx ((k :: p).map V.int).length 0 (some ((1 : Nat) : Int)) = 1 := by
    rw [HT.sIx_nat, List.length_map, List.length_cons]
    omega
  have e3 : HT.sIx ((k :: p).map V.int).length 0 (some 1) = 1 := e2
  constructor
  · rw [e3]
    omega
  · unfold cutV
    rw [e3, HT.sIx_none]
    show (p.map V.int).take _ = _
    rw [List.take_of_length_le]
    rw [List.length_map, List.length_map, List.length_cons]
    omega
theorem T.put_f0 {new : T} {j : Nat} {p : List Int} {x : Str} {ts : List T} {y z : T} (h : ts[j]? = some y) (e : T.put new p y = some z) : T.put new ((j : Int) :: p) (.f x ts) = some (.f x (ts.set j z)) := by
  show (if 0 ≤ (j : Int) then (match ts[((j : Int)).toNat]? with | some u => (match T.put new p u with | some r => some (T.f x (ts.set ((j : Int)).toNat r)) | none => none) | none => none) else none) = _
  rw [if_pos (by omega), Int.toNat_natCast, h]
  show (match T.put new p y with | some r => some (T.f x (ts.set j r)) | none => none) = _
  rw [e]
/-- what stands around a place, from without -/
def Ch : T → List (T × Nat) → T → Prop
  | t, [], z => t = z
  | t, q :: l, z => q.1 = t ∧ ∃ nm ts u, t = .f nm ts ∧ ts[q.2]? = some u ∧ Ch u l z
def upT : List (T × Nat) → T → T
  | [], r => r
  | (.f x ts, j) :: l, r => .f x (ts.set j (upT l r))
  | (.v i, _) :: _, _ => .v i
theorem Ch.snoc : ∀ {l : List (T × Nat)} {t : T} {nm : Str} {ts : List T} {j : Nat} {y : T}, Ch t l (.f nm ts) → ts[j]? = some y → Ch t (l ++ [(.f nm ts, j)]) y
  | [], t, nm, ts, j, y, h, e => ⟨(show t = .f nm ts from h).symm, nm, ts, y, h, e, rfl⟩
  | q :: l, t, nm, ts, j, y, ⟨a, n, us, u, b, c, d⟩, e => ⟨a, n, us, u, b, c, Ch.snoc d e⟩
theorem upT_snoc : ∀ {l : List (T × Nat)} {nm : Str} {ts : List T} {j : Nat} {r : T}, upT (l ++ [(.f nm ts, j)]) r = upT l (.f nm (ts.set j r))
  | [], _, _, _, _ => rfl
  | (.f x us, i) :: l, nm, ts, j, r => by
    show T.f x (us.set i (upT (l ++ [(.f nm ts, j)]) r)) = T.f x (us.set i (upT l (.f nm (ts.set j r))))
    rw [upT_snoc]
  | (.v i, _) :: l, _, _, _, _ => rfl
theorem Ch.put (new : T) : ∀ {l : List (T × Nat)} {t z : T}, Ch t l z → T.put new (l.map fun q => (q.2 : Int)) t = some (upT l new)
  | [], t, z, _ => rfl
  | (q1, q2) :: l, t, z, ⟨a, nm, ts, u, b, c, d⟩ => by
    have ih := Ch.put new d
    have a' : q1 = t := a
    subst a'
    subst b
    exact T.put_f0 c ih
theorem Ch.mem : ∀ {l : List (T × Nat)} {t z : T}, Ch t l z → ∀ q ∈ l, ∃ nm ts, q.1 = .f nm ts ∧ q.2 < ts.length
  | [], _, _, _, q, h => by cases h
  | p :: l, t, z, ⟨a, nm, ts, u, b, c, d⟩, q, h => by
    rcases List.mem_cons.mp h with e | e
    · rw [e, a, b]
      exact ⟨nm, ts, rfl, (List.getElem?_eq_some_iff.mp c).1⟩
    · exact Ch.mem d q e
/-- a pair of what stands around, and the place in it -/
def ArV (K : PySem.W.Frag) (H : Hp) (q : T × Nat) (v : V) : Prop := ∃ b x, v = .ref b ∧ SqT K H b [x, .int ((q.2 : Int) + 1)] ∧ Tm K H q.1 x
theorem ArV.mono {K : PySem.W.Frag} {H H' : Hp} (k : TK H H') (q : T × Nat) (v : V) (h : ArV K H q v) : ArV K H' q v := by
  obtain ⟨b, x, e, s, m⟩ := h
  exact ⟨b, x, e, k.sq s, Tm.mono k _ _ m⟩
theorem ok_put {f : Addr} {fd : FuncData} {k : Nat} (n : Nat) (F : Fun K "put_at" "put_at" sPut f fd) (m_reversed : mg "reversed" = none) : FnOk P w K mg base CX0 (k + 1) f fd ["term", "path", "new"] (spPut K n) := by
  refine F.ok scPut (fun vs H Q E h => ?_) (fun cdv A outer s H vs Q E hr h => ?_)
  · obtain ⟨t, new, r, x, y, a, p, rfl, _⟩ := h
    rfl
  · obtain ⟨t, new, r, x, y, a, p, rfl, ht, hn, hp, few, small, hput, q⟩ := h
    refine ⟨_, (pss_cons (ps_set (i := 3) scPut.nd rfl (.inl rfl) (pe_lst pa_nil))
    (pss_cons (ps_for PassesOwn.never rfl (pi_tup (pv 1)) (pg_name (i := 4) scPut.nd rfl (.inl rfl))
      (pss_cons (ps_expr (pe_bm PySem.F.plainAttrs_list PySem.F.slot_list_append PySem.F.type_list_append mt_append (pv 3) (pa_cons (pe_tup (pa_cons (pv 0) (pa_cons (pe_op op_add (pv 4) pe_int) pa_nil))) pa_nil)))
      (pss_one (ps_set (i := 0) scPut.nd rfl (.inl rfl) (pe_ix ix_tup (pv 0) (pe_op op_add (pv 4) pe_int) (fun _ _ => rfl))))))
    (pss_cons (ps_for PassesOwn.never rfl (pi_reversed (by rfl) m_reversed (pa_cons (pv 3) pa_nil)) (pg_tup rfl (pgs_cons (pg_name (i := 5) scPut.nd rfl (.inl rfl)) (pgs_cons (pg_name (i := 4) scPut.nd rfl (.inl rfl)) pgs_nil)))
      (pss_one (ps_set (i := 2) scPut.nd rfl (.inl rfl) (pe_op op_catT (pe_op op_catT (pe_slice sl_tup (pv 5) po_none (po_some (pv 4))) (pe_tup (pa_cons (pv 2) pa_nil))) (pe_slice sl_tup (pv 5) (po_some (pe_op op_add (pv 4) pe_int)) po_none)))))
    (pss_one (ps_ret (pv 2)))))), ?_⟩
    refine ⟨Nat.zero_le _, fun dA nA => ?_⟩
    have s1 : Same H (upd H dA (.lst [])) := same_new (fun b o e => e) nA _
    have m1 : (upd H dA (.lst [])) dA = some (.lst []) := upd_same
    replace ht := Tm.mono (TK.same s1) _ _ ht
    replace hn := Tm.mono (TK.same s1) _ _ hn
    replace hp := (TK.same s1).sq hp
    generalize upd H dA (.lst []) = H1 at s1 m1 ht hn hp
    have tsz := small
    refine ⟨.ref a, rfl, a, rfl, ⟨_, hp⟩, for_tup (K := K) (a := a) (xs := p.map V.int) (fun i σ G => ∃ (z rz : T) (yz : V) (v4 : Option V) (l : List (T × Nat)) (acc : List V), σ = [some yz, some (.ref a), some y, some (.ref dA), v4, none] ∧ Same H G ∧ TK H1 G ∧ G dA = some (.lst acc) ∧ Tm K G z yz ∧
      Ch t l z ∧ l.length = i ∧ (l.map fun q => (q.2 : Int)) = p.take i ∧ F2 (ArV K G) l acc ∧ T.put new (p.drop i) z = some rz ∧ z.size ≤ t.size ∧ ∀ q ∈ l, q.1.size ≤ t.size)
      ⟨t, r, x, none, [], [], rfl, s1, TK.refl _, m1, ht, rfl, rfl, rfl, rfl, hput, Nat.le_refl _, fun q hq => nomatch hq⟩ (fun i σ G _ ⟨_, _, _, _, _, _, _, _, k, _⟩ => k.sq hp) ?_ ?_⟩
    · rintro i c σ G hi ⟨z, rz, yz, v4, l, acc, rfl, sm, tk, gA, mz, ch, ll, lp, fa, hz, sz1, sz2⟩
      have hlt : i < p.length := by
        have := (List.getElem?_eq_some_iff.mp hi).1
        rwa [List.length_map] at this
      rw [List.getElem?_map, List.getElem?_eq_getElem hlt] at hi
      cases hi
      rw [List.drop_eq_getElem_cons hlt] at hz
      obtain ⟨j, nm, ts, u, z', e1, rfl, e3, e4, _⟩ := T.put_cons hz
      have hpi : p[i]? = some (j : Int) := by rw [List.getElem?_eq_getElem hlt, e1]
      rw [e1]
      obtain ⟨b, ys, rfl, sq, all⟩ := mz
      obtain ⟨y', h1, h2⟩ := all.get' e3
      have tz : Tm K G (.f nm ts) (.ref b) := ⟨b, ys, rfl, sq, all⟩
      have la := fa.len
      have plen : p.length ≤ 10000 := by
        have h3 : ∀ (p : List Int) (t r : T), T.put new p t = some r → p.length ≤ t.size := by
          intro p
          induction p with
          | nil => intro t r _; exact Nat.zero_le _
          | cons k p ih =>
            intro t r h
            obtain ⟨j, nm, ts, u, z, rfl, rfl, e1, e2, _⟩ := T.put_cons h
            have a1 := ih _ _ e2
            have a2 := T.size_mem (List.mem_of_getElem? e1)
            have a3 : T.size (.f nm ts) = 1 + T.sizeL ts := rfl
            rw [List.length_cons]
            omega
        have := h3 p t r hput
        omega
      refine ⟨.ref dA, rfl, .inl ⟨rfl, _, .inl (.inl gA)⟩, .ref b, rfl, .int (j : Int), rfl, _, _, rfl, rfl, (by show 2 ≤ sizeLine; decide), fun p1 n1 => ?_⟩
      have np : p1 ≠ dA := fun e => by rw [e, gA] at n1; cases n1
      have k1 : TK G (upd G p1 (.tup [.ref b, .int ((j : Int) + 1)])) := TK.new n1 _
      have sm1 : Same H (upd G p1 (.tup [.ref b, .int ((j : Int) + 1)])) := same_new sm n1 _
      have g1 : (upd G p1 (.tup [.ref b, .int ((j : Int) + 1)])) dA = some (.lst acc) := by rw [upd_ne np.symm]; exact gA
      have m1 : (upd G p1 (.tup [.ref b, .int ((j : Int) + 1)])) p1 = some (.tup [.ref b, .int ((j : Int) + 1)]) := upd_same
      generalize upd G p1 (.tup [.ref b, .int ((j : Int) + 1)]) = G1 at k1 sm1 g1 m1
      have k2 : TK G1 (upd G1 dA (.lst (acc ++ [.ref p1]))) := TK.lst g1 _
      have k12 : TK G (upd G1 dA (.lst (acc ++ [.ref p1]))) := k1.trans k2
      refine ⟨dA, acc, .ref p1, rfl, rfl, g1, by rw [sizeLine_eq]; omega, .ref b, rfl, .int (j : Int), rfl, _, _, rfl, rfl, b, _, _, y', rfl, rfl, k12.sq sq, ?_, u, z', y', some (.int (j : Int)), l ++ [(.f nm ts, j)], acc ++ [.ref p1], rfl, same_on sm1 nA _, tk.trans k12, upd_same, Tm.mono k12 _ _ h2, ch.snoc e3, ?_, ?_, ?_, e4, ?_, ?_⟩
      · have e : ((j : Int) + 1) = ((j + 1 : Nat) : Int) := by omega
        rw [e]
        exact atI_nat (j := j + 1) h1
      · rw [List.length_append, List.length_singleton, ll]
      · rw [List.map_append, lp, List.take_add_one, hpi]
        rfl
      · exact F2.app (fa.mono (ArV.mono k12)) (F2.one ⟨p1, .ref b, rfl, k2.sq (.inl (.inl m1)), Tm.mono k12 _ _ tz⟩)
      · have a2 := T.size_mem (List.mem_of_getElem? e3)
        have a3 : T.size (.f nm ts) = 1 + T.sizeL ts := rfl
        omega
      · intro q hq
        rcases List.mem_append.mp hq with e | e
        · exact sz2 q e
        · rw [List.mem_singleton.mp e]
          exact sz1
    · rintro σ G ⟨z, rz, yz, v4, l, acc, rfl, sm, tk, gA, mz, ch, ll, lp, fa, hz, sz1, sz2⟩
      rw [List.length_map] at ll lp
      rw [List.take_length] at lp
      have res : upT l new = r := by
        have h1 := ch.put new
        rw [lp, hput] at h1
        exact (Option.some.inj h1).symm
      have la := fa.len
      have hn1 := Tm.mono tk _ _ hn
      refine ⟨.ref dA, rfl, dA, acc, rfl, .inl (.inl gA), for_it walk_rev (fun i σ G' => ∃ (r' : T) (y' : V) (v5 v4 : Option V), σ = [some yz, some (.ref a), some y', some (.ref dA), v4, v5] ∧ Same G G' ∧ Tm K G' r' y' ∧ upT (l.take (l.length - i)) r' = r)
        ⟨new, y, none, v4, rfl, fun b o e => e, hn1, by rw [Nat.sub_zero, List.take_length]; exact res⟩ (fun i σ G' _ ⟨_, _, _, _, _, s, _⟩ => .inl (.inl (s _ _ gA))) ?_ ?_⟩
      · rintro i c σ G' G'' hi ⟨r', y', v5, v4, rfl, s, mr, up⟩ ⟨rfl, hc⟩
        rw [la] at hi hc
        obtain ⟨⟨q1, q2⟩, hq, hv⟩ := fa.get hc
        obtain ⟨nm, ts, e1, lt⟩ := ch.mem _ (List.mem_of_getElem? hq)
        have e1' : q1 = .f nm ts := e1
        subst e1'
        have szq := sz2 _ (List.mem_of_getElem? hq)
        have szq' : T.size (.f nm ts) ≤ t.size := szq
        obtain ⟨b, x1, rfl, sq, mx⟩ := ArV.mono (TK.same s) _ _ hv
        obtain ⟨b2, ys, rfl, sq2, all⟩ := mx
        have lys := all.len
        have lts := T.len_sizeL ts
        have sts : T.size (.f nm ts) = 1 + T.sizeL ts := rfl
        have lt' : q2 < ys.length := by rw [lys]; exact lt
        obtain ⟨lo1, lo2⟩ := cut_low (x := V.str nm) lt'
        obtain ⟨hi1, hi2⟩ := cut_high (x := V.str nm) lt'
        refine ⟨b, _, rfl, sq, rfl, _, _, rfl, _, _, rfl, rfl, ?_⟩
        refine ⟨.ref b2, rfl, _, rfl, _, rfl, b2, _, rfl, sq2, lo1, fun p1 n1 => ?_⟩
        rw [lo2]
        have s1 : Same G'' (upd G'' p1 (.tup (V.str nm :: ys.take q2))) := same_new (fun b o e => e) n1 _
        have m1 : (upd G'' p1 (.tup (V.str nm :: ys.take q2))) p1 = some (.tup (V.str nm :: ys.take q2)) := upd_same
        generalize upd G'' p1 (.tup (V.str nm :: ys.take q2)) = G2 at s1 m1
        refine ⟨y', rfl, (by show 1 ≤ sizeLine; decide), fun p2 n2 => ?_⟩
        have s2 : Same G2 (upd G2 p2 (.tup [y'])) := same_new (fun b o e => e) n2 _
        have m2 : (upd G2 p2 (.tup [y'])) p2 = some (.tup [y']) := upd_same
        have m1' := s2 _ _ m1
        generalize upd G2 p2 (.tup [y']) = G3 at s2 m2 m1'
        refine ⟨p1, p2, _, _, rfl, rfl, .inl (.inl m1'), .inl (.inl m2), (by simp), (by rw [List.length_cons, List.length_take, List.length_singleton, sizeLine_eq]; omega), (fun z => nomatch z), fun _ p3 n3 => ?_⟩
        have s3 : Same G3 (upd G3 p3 (.tup ((V.str nm :: ys.take q2) ++ [y']))) := same_new (fun b o e => e) n3 _
        have m3 : (upd G3 p3 (.tup ((V.str nm :: ys.take q2) ++ [y']))) p3 = some (.tup ((V.str nm :: ys.take q2) ++ [y'])) := upd_same
        generalize upd G3 p3 (.tup ((V.str nm :: ys.take q2) ++ [y'])) = G4 at s3 m3
        have s04 : Same G'' G4 := fun b o e => s3 _ _ (s2 _ _ (s1 _ _ e))
        refine ⟨.ref b2, rfl, _, rfl, _, _, rfl, rfl, _, rfl, b2, _, rfl, (TK.same s04).sq sq2, hi1, fun p4 n4 => ?_⟩
        rw [hi2]
        have s4 : Same G4 (upd G4 p4 (.tup (ys.drop (q2 + 1)))) := same_new (fun b o e => e) n4 _
        have m4 : (upd G4 p4 (.tup (ys.drop (q2 + 1)))) p4 = some (.tup (ys.drop (q2 + 1))) := upd_same
        have m3' := s4 _ _ m3
        generalize upd G4 p4 (.tup (ys.drop (q2 + 1))) = G5 at s4 m4 m3'
        have s05 : Same G'' G5 := fun b o e => s4 _ _ (s04 _ _ e)
        have upn : upT (l.take (l.length - (i + 1))) (.f nm (ts.set q2 r')) = r := by
          have e2 : l.length - i = l.length - (i + 1) + 1 := by omega
          have e3 : l[l.length - (i + 1)]? = some (.f nm ts, q2) := by
            rw [show l.length - (i + 1) = l.length - 1 - i from by omega]
            exact hq
          rw [← up, e2, List.take_add_one, e3]
          exact (upT_snoc).symm
        have done : ∀ (g : Addr) (G6 : Hp), Same G5 G6 → G6 g = some (.tup (((V.str nm :: ys.take q2) ++ [y']) ++ ys.drop (q2 + 1))) → ∃ (r' : T) (y'' : V) (v5 v4 : Option V), [some yz, some (.ref a), some (.ref g), some (.ref dA), some (.int ((q2 : Int) + 1)), some (.ref b2)] = [some yz, some (.ref a), some y'', some (.ref dA), v4, v5] ∧ Same G G6 ∧ Tm K G6 r' y'' ∧ upT (l.take (l.length - (i + 1))) r' = r := by
          intro g G6 s6 m6
          have s06 : Same G'' G6 := fun b o e => s6 _ _ (s05 _ _ e)
          have k06 := TK.same s06
          refine ⟨.f nm (ts.set q2 r'), .ref g, _, _, rfl, fun b o e => s06 _ _ (s _ _ e), ⟨g, ys.take q2 ++ y' :: ys.drop (q2 + 1), rfl, .inl (.inl ?_), ?_⟩, upn⟩
          · rw [m6, List.append_assoc]
            rfl
          · rcases Tms.set q2 (Tms.mono k06 _ _ all) (Tm.mono k06 _ _ mr) with z | z
            · exact z
            · omega
        refine ⟨p3, p4, _, _, rfl, rfl, .inl (.inl m3'), .inl (.inl m4), (by simp), ?_, fun e => ?_, fun e p8 n8 => ?_⟩
        · rw [List.length_append, List.length_cons, List.length_take, List.length_singleton, List.length_drop, sizeLine_eq]
          omega
        · refine done p3 G5 (fun b o e => e) ?_
          rw [e, List.append_nil]
          exact m3'
        · exact done p8 _ (same_new (fun b o e => e) n8 _) upd_same
      · rintro σ G' ⟨r', y', v5, v4, rfl, s, mr, up⟩
        rw [la, Nat.sub_self, List.take_zero] at up
        have e : r' = r := up
        rw [e] at mr
        exact ⟨y', rfl, q y' G' (fun b o e => s _ _ (sm _ _ e)) mr⟩
end
end Ad

/-! paths_of. -/
namespace Ad
open PySem PySem.Spec PySem.Calls PyProof.Rows L2 GxR
abbrev sPaths : Stmt := topS 6
theorem scPaths : FnScope ["term"] ["term"] (defScope sPaths) := ⟨rfl, rfl, rfl, by decide +kernel, rfl, by decide +kernel, by decide +kernel⟩
/-- a path's value -/
def PV (K : PySem.W.Frag) (H : Hp) (p : List Int) (v : V) : Prop := ∃ a, v = .ref a ∧ SqT K H a (p.map V.int)
theorem PV.mono {K : PySem.W.Frag} {H H' : Hp} (k : TK H H') (p : List Int) (v : V) (h : PV K H p v) : PV K H' p v := by
  obtain ⟨a, e, s⟩ := h
  exact ⟨a, e, k.sq s⟩
theorem tab_same {H H' : Hp} {P : Addr} (s : Same H H') (t : TabG H P) : TabG H' P := by
  obtain ⟨ps, e, ok⟩ := t
  exact ⟨ps, s _ _ e, ok⟩
theorem tab_tk {H H' : Hp} {P : Addr} (t : TabG H P) (k : ∀ b o, b ≠ P → H b = some o → H' b = some o) : TK H H' := by
  obtain ⟨ps, e, ok⟩ := t
  intro b xs
  refine ⟨fun h => k b _ (fun z => ?_) h, fun o h => k b _ (fun z => ?_) h⟩
  · rw [z, e] at h
    cases h
  · rw [z, e] at h
    cases h
section
variable {P : Program} {w : World} {K : PySem.W.Frag} {mg : Str → Option Value} {base : Heap}
def spPaths (K : PySem.W.Frag) (Pt : Addr) : Sp := fun vs H Q _ => ∃ (t : T) (x : V), vs = [x] ∧ Tm K H t x ∧ t.size ≤ 10000 ∧ TabG H Pt ∧
  ∀ H' p (us : List V), (∀ b o, b ≠ Pt → H b = some o → H' b = some o) → TabG H' Pt → H p = none → H' p = some (.tup us) → F2 (PV K H') t.paths us → Q (.ref p) H'
theorem paths_genS {env : Env} : GenS env { kind := .function, names := [(".0", .local), ("path", .local), ("_", .local)], isGenerator := true, isCoroutine := false, more := [] } "path" := by
  refine ⟨rfl, rfl, ?_, by decide +kernel, by decide +kernel, ?_⟩
  · intro y hy e
    rcases List.mem_cons.mp hy with rfl | hy
    · cases e
    · rcases List.mem_cons.mp hy with rfl | hy
      · cases e
      · cases List.mem_singleton.mp hy
        cases e
  · intro y hy e
    rcases List.mem_cons.mp hy with rfl | hy
    · cases e
    · rcases List.mem_cons.mp hy with rfl | hy
      · cases e
      · cases List.mem_singleton.mp hy
        cases e
theorem ok_paths {f fP c Pt : Addr} {fd fdP : FuncData} {k : Nat} (F : FunC K "paths_of" "paths_of" sPaths f (.ref c) fd) (TB : TabB base mg c Pt) (G : FnOk P w K mg base CX0 k fP fdP ["term"] (spPlaces K)) (gP : mg "places_of" = some (.ref fP)) (kP : PySem.W.keepIn K (.ref fP) = true) (bP : Binds K fdP ["term"] [])
    (mt : mg "tuple" = none) : FnG P w K mg base CX0 (k + 1) f fd ["term"] (spPaths K Pt) := by
  refine fng_ofC F scPaths (fun vs H Q E h => ?_) (fun A outer s H vs Q E gd hr h => ?_)
  · obtain ⟨t, x, rfl, _⟩ := h
    rfl
  · obtain ⟨t, x, rfl, ht, small, tab, q⟩ := h
    refine ⟨_, pss_one (ps_ret (pe_tupT hr (by rfl) mt TB rfl paths_genS (by decide +kernel) (by decide) (pe_call G hr (by rfl) gP kP bP .nil pass0 (pa_cons (pv 0) pa_nil)) (by intro _; rfl))), ?_⟩
    refine ⟨x, rfl, t, x, rfl, ht, small, fun H1 l cs es sm n1 e1 prs ps => ⟨l, cs, rfl, .inl (.inl e1), fun c hc => ?_, tab_same sm tab, ?_, fun p H2 tb n2 => ?_⟩⟩
    · obtain ⟨e, _, h1, _⟩ := prs.mem hc
      exact h1
    · have h1 := prs.len
      have h2 : (es.map (·.1)).length = t.size := by rw [ps, T.paths_len]
      rw [List.length_map] at h2
      omega
    · have tab1 := tab_same sm tab
      have k2 : TK H1 H2 := tab_tk tab1 fun b o hb e => by rw [tb.2 b hb]; exact e
      have k3 := TK.new n2 (.tup (cs.map (·.2.1)))
      have pn : p ≠ Pt := fun z => by
        obtain ⟨zs, e, _⟩ := tb.1
        rw [z, e] at n2
        cases n2
      refine q _ p _ ?_ ?_ ?_ upd_same ?_
      · intro b o hb e
        have e2 : H2 b = some o := by rw [tb.2 b hb]; exact sm _ _ e
        rw [upd_ne (ne_of_none e2 n2)]
        exact e2
      · obtain ⟨zs, e, ok⟩ := tb.1
        exact ⟨zs, by rw [upd_ne pn.symm]; exact e, ok⟩
      · cases z : H p with
        | none => rfl
        | some o =>
          have e2 := sm _ _ z
          rw [← tb.2 p pn, n2] at e2
          cases e2
      · have prs2 := F2.mono (Pr.mono (k2.trans k3)) prs
        rw [← ps]
        have lift : ∀ (es : List (List Int × T)) (cs : List (Addr × V × V)) (G : Hp), F2 (Pr K G) es cs → F2 (PV K G) (es.map (·.1)) (cs.map (·.2.1)) := by
          intro es
          induction es with
          | nil =>
            intro cs G h
            cases (show cs = [] from h)
            rfl
          | cons e es ih =>
            rintro cs G ⟨c, ds, rfl, h1, h2⟩
            exact ⟨_, _, rfl, h1.2.1, ih ds G h2⟩
        exact lift es cs _ prs2
end
end Ad

/-! The law's own going: is it a variable, size, variables. -/
namespace Ad
open PySem PySem.Spec PySem.Calls PyProof.Rows L2
abbrev sLVar : Stmt := topS 13
abbrev sLSize : Stmt := topS 14
abbrev sLVars : Stmt := topS 15
abbrev sLPaths : Stmt := topS 17
abbrev sLAt : Stmt := topS 18
abbrev sLPut : Stmt := topS 19
theorem scLVar : FnScope ["_law_term"] ["_law_term"] (defScope sLVar) := ⟨rfl, rfl, rfl, by decide +kernel, rfl, by decide +kernel, by decide +kernel⟩
theorem scLSize : FnScope ["_law_term", "_law_part"] ["_law_term"] (defScope sLSize) := ⟨rfl, rfl, rfl, by decide +kernel, rfl, by decide +kernel, by decide +kernel⟩
theorem scLVars : FnScope ["_law_term", "_law_found", "_law_part"] ["_law_term"] (defScope sLVars) := ⟨rfl, rfl, rfl, by decide +kernel, rfl, by decide +kernel, by decide +kernel⟩
def T.isV : T → Bool
  | .v _ => true
  | .f _ _ => false
/-- the arguments of a name -/
theorem cut_args {x : V} {xs : List V} : ¬ (HT.sIx (x :: xs).length 0 (some 1) = 0 ∧ HT.sIx (x :: xs).length (x :: xs).length none = (x :: xs).length) ∧ cutV (x :: xs) (some 1) none = xs := by
  have e2 : HT.sIx (x :: xs).length 0 (some ((1 : Nat) : Int)) = 1 := by
    rw [HT.sIx_nat, List.length_cons]
    omega
  have e3 : HT.sIx (x :: xs).length 0 (some 1) = 1 := e2
  constructor
  · rw [e3]
    omega
  · unfold cutV
    rw [e3, HT.sIx_none]
    show xs.take _ = _
    rw [List.take_of_length_le]
    rw [List.length_cons]
    omega
theorem sum_sizes : ∀ ts : List T, (ts.map fun t => (t.size : Int)).sum = (T.sizeL ts : Int)
  | [] => rfl
  | t :: ts => by
    rw [List.map_cons, List.sum_cons, sum_sizes ts]
    show (t.size : Int) + (T.sizeL ts : Int) = ((t.size + T.sizeL ts : Nat) : Int)
    omega
section
variable {P : Program} {w : World} {K : PySem.W.Frag} {mg : Str → Option Value} {base : Heap}
def spIsVar (K : PySem.W.Frag) : Sp := fun vs H Q _ => ∃ (t : T) (x : V), vs = [x] ∧ Tm K H t x ∧ Q (.bl t.isV) H
theorem ok_isvar {f : Addr} {fd : FuncData} {k : Nat} (F : Fun K "_law_is_var" "_law_is_var" sLVar f fd) (mi : mg "isinstance" = none) (mI : mg "int" = none) : FnOk P w K mg base CX0 (k + 1) f fd ["_law_term"] (spIsVar K) := by
  refine F.ok scLVar (fun vs H Q E h => ?_) (fun cdv A outer s H vs Q E hr h => ?_)
  · obtain ⟨t, x, rfl, _⟩ := h
    rfl
  · obtain ⟨t, x, rfl, ht, q⟩ := h
    refine ⟨_, pss_one (ps_ret (pe_callB call_isi (by rfl) mi (by decide +kernel) (pa_cons (pv 0) (pa_cons (pe_bltn (v := .ty "int") (by rfl) mI (by decide +kernel) rfl) pa_nil)))), ?_⟩
    cases t with
    | v i =>
      cases (show x = .int i from ht)
      exact ⟨.int i, rfl, _, .ty "int", .type "int", .type "int", true, rfl, .ty "int", .base (.int i), kitII, q⟩
    | f nm ts => exact ⟨x, rfl, _, .ty "int", .type "tuple", .type "int", false, rfl, .ty "int", tm_tuple ht, kitTI, q⟩
def spLSize (K : PySem.W.Frag) (n : Nat) : Sp := fun vs H Q _ => ∃ (t : T) (x : V), vs = [x] ∧ Tm K H t x ∧ t.dep < n ∧ t.size ≤ 10000 ∧ ∀ H', Same H H' → Q (.int t.size) H'
theorem ok_lsize {f fV : Addr} {fd fdV : FuncData} {k : Nat} (F : Fun K "_law_size" "_law_size" sLSize f fd) (gF : mg "_law_size" = some (.ref f)) (bF : Binds K fd ["_law_term"] [])
    (G : FnOk P w K mg base CX0 k fV fdV ["_law_term"] (spIsVar K)) (gV : mg "_law_is_var" = some (.ref fV)) (kV : PySem.W.keepIn K (.ref fV) = true) (bV : Binds K fdV ["_law_term"] []) (ms : mg "sum" = none) :
    ∀ n, FnOk P w K mg base CX0 (k + n) f fd ["_law_term"] (spLSize K n)
  | 0 => vac fun vs H Q E ⟨t, x, _, _, z, _⟩ => absurd z (Nat.not_lt_zero _)
  | n + 1 => by
    have IH := ok_lsize F gF bF G gV kV bV ms n
    refine F.ok scLSize (fun vs H Q E h => ?_) (fun cdv A outer s H vs Q E hr h => ?_)
    · obtain ⟨t, x, rfl, _⟩ := h
      rfl
    · obtain ⟨t, x, rfl, ht, shallow, small, q⟩ := h
      refine ⟨_, pss_one (ps_ret (pe_ifExp (pt_val (pe_call G (hr.mono (Nat.le_add_right _ _)) (by rfl) gV kV bV .nil pass0 (pa_cons (pv 0) pa_nil))) pe_int (pe_op op_add pe_int (pe_callB (cr_sum rfl) (by rfl) ms (by decide +kernel) (pa_cons
        (pe_lc (own := [("_law_part", 1)]) (g := gName 1) (tt := tYes) rfl scLSize.nd (pi_tup (pe_slice sl_tup (pv 0) (po_some pe_int) po_none)) (blkOk_by (N := ["_law_term", "_law_part"]) (sc := defScope sLSize) (by decide +kernel))
          (fun _ _ _ _ _ => pg_name (i := 1) scLSize.nd rfl (.inl rfl)) (fun _ _ _ _ _ => pts_nil)
          (fun _ _ _ _ _ => pe_call IH hr (by rfl) gF F.kp bF .nil pass0 (pa_cons (pv 1) pa_nil))) pa_nil))))), ?_⟩
      refine ⟨x, rfl, t, x, rfl, ht, _, rfl, ?_⟩
      cases t with
      | v i =>
        refine iteT ?_
        exact q H fun b o e => e
      | f nm ts =>
        obtain ⟨a, zs, rfl, sq, all⟩ := ht
        refine iteF ?_
        refine ⟨.ref a, rfl, 1, rfl, a, _, rfl, sq, cut_args.1, fun p1 n1 => ⟨p1, rfl, ⟨_, .inl (.inl upd_same)⟩, fun D nD => ?_⟩⟩
        rw [cut_args.2] at nD ⊢
        have sm1 : Same H (upd H p1 (.tup zs)) := same_new (fun b o e => e) n1 _
        have m1 : (upd H p1 (.tup zs)) p1 = some (.tup zs) := upd_same
        replace all := Tms.mono (TK.same sm1) _ _ all
        generalize upd H p1 (.tup zs) = H1 at nD sm1 m1 all ⊢
        have lz := all.len
        have szu : T.size (.f nm ts) = 1 + T.sizeL ts := rfl
        have lts := T.len_sizeL ts
        refine lc_tup (K := K) (a := p1) (xs := zs) (fun i G => Same H1 G ∧ G D = some (.lst ((ts.take i).map fun t => V.int (t.size : Int)))) ⟨same_new (fun b o e => e) nD _, upd_same⟩ (fun i G _ ⟨sm, _⟩ => .inl (.inl (sm _ _ m1))) ?_ ?_
        · rintro i y G hy ⟨sm, g⟩
          obtain ⟨u, hu, tu⟩ := (Tms.mono (TK.same sm) _ _ all).get hy
          have hm := List.mem_of_getElem? hu
          have d1 := T.dep_mem hm
          have d2 : T.dep (.f nm ts) = 1 + T.depL ts := rfl
          have d3 := T.size_mem hm
          have hi := (List.getElem?_eq_some_iff.mp hu).1
          refine ⟨rfl, y, rfl, u, y, rfl, tu, by omega, by omega, fun G2 sm2 => ⟨_, sm2 _ _ g, ?_, ?_, ?_⟩⟩
          · rw [List.length_map, List.length_take, sizeLine_eq]
            omega
          · have sm3 : Same H1 G2 := fun b o e => sm2 _ _ (sm _ _ e)
            exact same_on sm3 nD _
          · rw [upd_same, List.take_add_one, hu, List.map_append]
            rfl
        · rintro G ⟨sm, g⟩
          rw [lz, List.take_length] at g
          have e : (ts.map fun t => V.int (t.size : Int)) = (ts.map fun t => (t.size : Int)).map V.int := by rw [List.map_map]; rfl
          rw [e] at g
          refine ⟨D, _, rfl, .inl (.inl g), 1, _, rfl, rfl, ?_⟩
          show Q (.int (1 + (ts.map fun t => (t.size : Int)).sum)) G
          rw [sum_sizes]
          have e2 : (1 : Int) + (T.sizeL ts : Int) = ((T.size (.f nm ts) : Nat) : Int) := by
            rw [szu]
            omega
          rw [e2]
          exact q G fun b o e => sm _ _ (sm1 _ _ e)
def spLVars (K : PySem.W.Frag) (n : Nat) : Sp := fun vs H Q _ => ∃ (t : T) (x : V), vs = [x] ∧ Tm K H t x ∧ t.dep < n ∧ t.size ≤ 10000 ∧ ∀ H' p, Same H H' → H p = none → H' p = some (.lst (t.vars.map V.int)) → Q (.ref p) H'
theorem T.varsL_append : ∀ (as bs : List T), T.varsL (as ++ bs) = T.varsL as ++ T.varsL bs
  | [], _ => rfl
  | t :: ts, bs => by
    show T.vars t ++ T.varsL (ts ++ bs) = T.vars t ++ T.varsL ts ++ T.varsL bs
    rw [T.varsL_append ts bs, List.append_assoc]
theorem T.varsL_take (ts : List T) (i : Nat) : (T.varsL (ts.take i)).length ≤ T.sizeL ts := by
  have h1 := T.varsL_len (ts.take i)
  have h2 := T.sizeL_append (ts.take i) (ts.drop i)
  rw [List.take_append_drop] at h2
  omega
theorem ok_lvars {f fV : Addr} {fd fdV : FuncData} {k : Nat} (F : Fun K "_law_vars" "_law_vars" sLVars f fd) (gF : mg "_law_vars" = some (.ref f)) (bF : Binds K fd ["_law_term"] [])
    (G : FnOk P w K mg base CX0 k fV fdV ["_law_term"] (spIsVar K)) (gV : mg "_law_is_var" = some (.ref fV)) (kV : PySem.W.keepIn K (.ref fV) = true) (bV : Binds K fdV ["_law_term"] []) :
    ∀ n, FnOk P w K mg base CX0 (k + n) f fd ["_law_term"] (spLVars K n)
  | 0 => vac fun vs H Q E ⟨t, x, _, _, z, _⟩ => absurd z (Nat.not_lt_zero _)
  | n + 1 => by
    have IH := ok_lvars F gF bF G gV kV bV n
    refine F.ok scLVars (fun vs H Q E h => ?_) (fun cdv A outer s H vs Q E hr h => ?_)
    · obtain ⟨t, x, rfl, _⟩ := h
      rfl
    · obtain ⟨t, x, rfl, ht, shallow, small, q⟩ := h
      refine ⟨_, pss_cons (ps_if (pt_val (pe_call G (hr.mono (Nat.le_add_right _ _)) (by rfl) gV kV bV .nil pass0 (pa_cons (pv 0) pa_nil))) (pss_one (ps_ret (pe_lst (pa_cons (pv 0) pa_nil)))) pss_nil)
        (pss_cons (ps_set (i := 1) scLVars.nd rfl (.inl rfl) (pe_lst pa_nil))
        (pss_cons (ps_for PassesOwn.never rfl (pi_tup (pe_slice sl_tup (pv 0) (po_some pe_int) po_none)) (pg_name (i := 2) scLVars.nd rfl (.inl rfl))
          (pss_one (ps_set (i := 1) scLVars.nd rfl (.inl rfl) (pe_op op_cat (pv 1) (pe_call IH hr (by rfl) gF F.kp bF .nil pass0 (pa_cons (pv 2) pa_nil))))))
        (pss_one (ps_ret (pv 1))))), ?_⟩
      refine ⟨x, rfl, t, x, rfl, ht, _, rfl, ?_⟩
      cases t with
      | v i =>
        refine iteT ?_
        cases (show x = .int i from ht)
        exact ⟨_, rfl, (by show 1 ≤ sizeLine; decide), fun p n => q _ p (same_new (fun b o e => e) n _) n upd_same⟩
      | f nm ts =>
        obtain ⟨a, zs, rfl, sq, all⟩ := ht
        refine iteF ?_
        refine ⟨(by decide), fun p0 n0 => ?_⟩
        have k0 := TK.new n0 (.lst [])
        have sm0 : Same H (upd H p0 (.lst [])) := same_new (fun b o e => e) n0 _
        have m0 : (upd H p0 (.lst [])) p0 = some (.lst []) := upd_same
        replace sq := k0.sq sq
        replace all := Tms.mono k0 _ _ all
        generalize upd H p0 (.lst []) = H0 at sm0 m0 sq all
        refine ⟨.ref a, rfl, 1, rfl, a, _, rfl, sq, cut_args.1, fun p1 n1 => ?_⟩
        rw [cut_args.2]
        have sm1 : Same H (upd H0 p1 (.tup zs)) := same_new sm0 n1 _
        have m1 : (upd H0 p1 (.tup zs)) p1 = some (.tup zs) := upd_same
        have m01 : (upd H0 p1 (.tup zs)) p0 = some (.lst []) := by rw [upd_ne (ne_of_none m0 n1)]; exact m0
        replace all := Tms.mono (TK.new n1 (.tup zs)) _ _ all
        generalize upd H0 p1 (.tup zs) = H1 at sm1 m1 m01 all
        have lz := all.len
        have szu : T.size (.f nm ts) = 1 + T.sizeL ts := rfl
        refine ⟨p1, rfl, ⟨_, .inl (.inl m1)⟩, for_tup (K := K) (a := p1) (xs := zs) (fun i σ G => ∃ (d : Addr) (v2 : Option V), σ = [some (.ref a), some (.ref d), v2] ∧ Same H1 G ∧ H d = none ∧ G d = some (.lst ((T.varsL (ts.take i)).map V.int)))
          ⟨p0, none, rfl, fun b o e => e, n0, m01⟩ (fun i σ G _ ⟨_, _, _, sm, _⟩ => .inl (.inl (sm _ _ m1))) ?_ ?_⟩
        · rintro i y σ G hy ⟨d, v2, rfl, sm, nd, g⟩
          obtain ⟨u, hu, tu⟩ := (Tms.mono (TK.same sm) _ _ all).get hy
          have hm := List.mem_of_getElem? hu
          have d1 := T.dep_mem hm
          have d2 : T.dep (.f nm ts) = 1 + T.depL ts := rfl
          have d3 := T.size_mem hm
          refine ⟨.ref d, rfl, y, rfl, u, y, rfl, tu, by omega, by omega, fun G2 p2 sm2 n2 g2 => ⟨d, p2, _, _, rfl, rfl, sm2 _ _ g, g2, ?_, fun p3 n3 => ?_⟩⟩
          · have h1 := T.varsL_take ts i
            have h2 := T.vars_len u
            rw [List.length_map, List.length_map, sizeLine_eq]
            omega
          · have sm3 : Same H1 (upd G2 p3 (.lst ((T.varsL (ts.take i)).map V.int ++ u.vars.map V.int))) := fun b o e => by
              have e2 := sm2 _ _ (sm _ _ e)
              rw [upd_ne (ne_of_none e2 n3)]
              exact e2
            refine ⟨p3, _, rfl, sm3, ?_, ?_⟩
            · cases z : H p3 with
              | none => rfl
              | some o =>
                have e2 := sm2 _ _ (sm _ _ (sm1 _ _ z))
                rw [n3] at e2
                cases e2
            · rw [upd_same, List.take_add_one, hu, T.varsL_append, List.map_append]
              show some (HO.lst (_ ++ (u.vars).map V.int)) = some (HO.lst (_ ++ (u.vars ++ []).map V.int))
              rw [List.append_nil]
        · rintro σ G ⟨d, v2, rfl, sm, nd, g⟩
          rw [lz, List.take_length] at g
          exact ⟨_, rfl, q G d (fun b o e => sm _ _ (sm1 _ _ e)) nd g⟩
end
end Ad

/-! The law's own going: at a path, put there. -/
namespace Ad
open PySem PySem.Spec PySem.Calls PyProof.Rows L2
theorem scLAt : FnScope ["_law_term", "_law_path", "_law_k"] ["_law_term", "_law_path"] (defScope sLAt) := ⟨rfl, rfl, rfl, by decide +kernel, rfl, by decide +kernel, by decide +kernel⟩
theorem scLPut : FnScope ["_law_term", "_law_path", "_law_new", "_law_k"] ["_law_term", "_law_path", "_law_new"] (defScope sLPut) := ⟨rfl, rfl, rfl, by decide +kernel, rfl, by decide +kernel, by decide +kernel⟩
theorem cut_low' {x : V} {xs : List V} {j : Nat} (h : j < xs.length) : ¬ (HT.sIx (x :: xs).length 0 none = 0 ∧ HT.sIx (x :: xs).length (x :: xs).length (some (1 + (j : Int))) = (x :: xs).length) ∧ cutV (x :: xs) none (some (1 + (j : Int))) = x :: xs.take j := by
  rw [Int.add_comm]
  exact cut_low h
theorem cut_high' {x : V} {xs : List V} {j : Nat} (h : j < xs.length) : ¬ (HT.sIx (x :: xs).length 0 (some (1 + (j : Int) + 1)) = 0 ∧ HT.sIx (x :: xs).length (x :: xs).length none = (x :: xs).length) ∧ cutV (x :: xs) (some (1 + (j : Int) + 1)) none = xs.drop (j + 1) := by
  rw [Int.add_comm 1]
  exact cut_high h
section
variable {P : Program} {w : World} {K : PySem.W.Frag} {mg : Str → Option Value} {base : Heap}
theorem ok_lat {f : Addr} {fd : FuncData} {k : Nat} (F : Fun K "_law_at" "_law_at" sLAt f fd) : FnOk P w K mg base CX0 (k + 1) f fd ["_law_term", "_law_path"] (spAt K) := by
  refine F.ok scLAt (fun vs H Q E h => ?_) (fun cdv A outer s H vs Q E hr h => ?_)
  · obtain ⟨t, u, x, a, p, rfl, _⟩ := h
    rfl
  · obtain ⟨t, u, x, a, p, rfl, ht, hp, hs, q⟩ := h
    refine ⟨_, pss_cons (ps_for PassesOwn.never rfl (pi_tup (pv 1)) (pg_name (i := 2) scLAt.nd rfl (.inl rfl)) (pss_one (ps_set (i := 0) scLAt.nd rfl (.inl rfl) (pe_ix ix_tup (pv 0) (pe_op op_add pe_int (pv 2)) (fun _ _ => rfl))))) (pss_one (ps_ret (pv 0))), ?_⟩
    refine ⟨.ref a, rfl, a, rfl, ⟨_, hp⟩, for_tup (K := K) (a := a) (xs := p.map V.int) (fun i σ G => ∃ (y : V) (z : T) (v2 : Option V), σ = [some y, some (.ref a), v2] ∧ G = H ∧ Tm K H z y ∧ T.sub (p.drop i) z = some u) ⟨x, t, none, rfl, rfl, ht, hs⟩ (fun i σ G _ ⟨_, _, _, _, e, _⟩ => by rw [e]; exact hp) ?_ ?_⟩
    · rintro i c σ G hi ⟨y, z, v2, rfl, rfl, hz, hs'⟩
      have hlt : i < p.length := by
        have := (List.getElem?_eq_some_iff.mp hi).1
        rwa [List.length_map] at this
      rw [List.getElem?_map, List.getElem?_eq_getElem hlt] at hi
      cases hi
      rw [List.drop_eq_getElem_cons hlt] at hs'
      obtain ⟨j, nm, ts, z', e1, rfl, e3, e4⟩ := T.sub_cons hs'
      obtain ⟨b, ys, rfl, sq, all⟩ := hz
      obtain ⟨y', h1, h2⟩ := all.get' e3
      rw [e1]
      refine ⟨.ref b, rfl, .int (j : Int), rfl, _, _, rfl, rfl, b, _, _, y', rfl, rfl, sq, ?_, y', z', _, rfl, rfl, h2, e4⟩
      have e : ((1 : Int) + (j : Int)) = ((j + 1 : Nat) : Int) := by omega
      rw [e]
      exact atI_nat (j := j + 1) h1
    · rintro σ G ⟨y, z, v2, rfl, rfl, hz, hs'⟩
      rw [List.length_map, List.drop_length] at hs'
      cases (show some z = some u from hs')
      exact ⟨y, rfl, q y hz⟩
theorem ok_lput {f : Addr} {fd : FuncData} {k : Nat} (F : Fun K "_law_put_there" "_law_put_there" sLPut f fd) (gF : mg "_law_put_there" = some (.ref f)) (bF : Binds K fd ["_law_term", "_law_path", "_law_new"] []) : ∀ n, FnOk P w K mg base CX0 (k + n) f fd ["_law_term", "_law_path", "_law_new"] (spPut K n)
  | 0 => vac fun vs H Q E ⟨t, new, r, x, y, a, p, _, _, _, _, z, _⟩ => absurd z (Nat.not_lt_zero _)
  | n + 1 => by
    have IH := ok_lput (k := k) F gF bF n
    refine F.ok scLPut (fun vs H Q E h => ?_) (fun cdv A outer s H vs Q E hr h => ?_)
    · obtain ⟨t, new, r, x, y, a, p, rfl, _⟩ := h
      rfl
    · obtain ⟨t, new, r, x, y, a, p, rfl, ht, hn, hp, few, small, hput, q⟩ := h
      refine ⟨_, pss_cons (ps_if (pt_cmpR (op_eqD (hu64 hr)) (pv 1) (pe_tup pa_nil) (nomark _)) (pss_one (ps_ret (pv 2))) pss_nil)
        (pss_cons (ps_set (i := 3) scLPut.nd rfl (.inl rfl) (pe_op op_add pe_int (pe_ix ix_tup (pv 1) pe_int (fun _ _ => rfl))))
        (pss_one (ps_ret (pe_op op_catT (pe_op op_catT (pe_slice sl_tup (pv 0) po_none (po_some (pv 3))) (pe_tup (pa_cons (pe_call IH hr (by rfl) gF F.kp bF .nil pass0 (pa_cons (pe_ix ix_tup (pv 0) (pv 3) (fun _ _ => rfl)) (pa_cons (pe_slice sl_tup (pv 1) (po_some pe_int) po_none) (pa_cons (pv 2) pa_nil)))) pa_nil)))
          (pe_slice sl_tup (pv 0) (po_some (pe_op op_add (pv 3) pe_int)) po_none))))), ?_⟩
      refine ⟨.ref a, rfl, (by decide), fun p0 n0 => ?_⟩
      have sm0 : Same H (upd H p0 (.tup [])) := same_new (fun b o e => e) n0 _
      have k0 := TK.same sm0
      have m0 : (upd H p0 (.tup [])) p0 = some (.tup []) := upd_same
      replace ht := Tm.mono k0 _ _ ht
      replace hn := Tm.mono k0 _ _ hn
      replace hp := k0.sq hp
      generalize upd H p0 (.tup []) = H1 at sm0 m0 ht hn hp
      refine ⟨iD p, iD [], iD_dp hp, iD_dp (ns := []) (.inl (.inl m0)), iD_shaped _, iD_shaped _, _, rfl, ?_⟩
      rw [iD_nil]
      cases p with
      | nil =>
        refine iteT ?_
        cases (show some new = some r from hput)
        exact ⟨y, rfl, q y _ sm0 hn⟩
      | cons c p =>
        refine iteF ?_
        obtain ⟨j, nm, ts, u, z, rfl, rfl, hu, hput', rfl⟩ := T.put_cons hput
        obtain ⟨b, ys, rfl, sq, all⟩ := ht
        obtain ⟨y', hy, ty⟩ := all.get' hu
        have hj := (List.getElem?_eq_some_iff.mp hy).1
        have e1 : ((1 : Int) + (j : Int)) = ((j + 1 : Nat) : Int) := by omega
        refine ⟨.ref a, rfl, a, _, 0, .int (j : Int), rfl, rfl, hp, atI_nat (j := 0) rfl, _, _, rfl, rfl, ?_⟩
        obtain ⟨lo1, lo2⟩ := cut_low' (x := V.str nm) hj
        obtain ⟨hi1, hi2⟩ := cut_high' (x := V.str nm) hj
        obtain ⟨tl1, tl2⟩ := cut_tail (k := (j : Int)) (p := p)
        refine ⟨.ref b, rfl, _, rfl, _, rfl, b, _, rfl, sq, lo1, fun p1 n1 => ?_⟩
        rw [lo2]
        have k1 : TK H1 (upd H1 p1 (.tup (V.str nm :: ys.take j))) := TK.new n1 _
        have sm1 : Same H (upd H1 p1 (.tup (V.str nm :: ys.take j))) := same_new sm0 n1 _
        have m1 : (upd H1 p1 (.tup (V.str nm :: ys.take j))) p1 = some (.tup (V.str nm :: ys.take j)) := upd_same
        replace hn := Tm.mono k1 _ _ hn
        replace hp := k1.sq hp
        replace sq := k1.sq sq
        replace all := Tms.mono k1 _ _ all
        replace ty := Tm.mono k1 _ _ ty
        generalize upd H1 p1 (.tup (V.str nm :: ys.take j)) = H2 at sm1 m1 hn hp sq all ty
        refine ⟨.ref b, rfl, .int (1 + (j : Int)), rfl, b, _, _, y', rfl, rfl, sq, (by rw [e1]; exact atI_nat (j := j + 1) hy), .ref a, rfl, 1, rfl, a, _, rfl, hp, tl1, fun p2 n2 => ?_⟩
        rw [tl2]
        have k2 : TK H2 (upd H2 p2 (.tup (p.map V.int))) := TK.new n2 _
        have sm2 : Same H (upd H2 p2 (.tup (p.map V.int))) := same_new sm1 n2 _
        have m1' : (upd H2 p2 (.tup (p.map V.int))) p1 = some (.tup (V.str nm :: ys.take j)) := (k2 _ _).1 m1
        have m2 : (upd H2 p2 (.tup (p.map V.int))) p2 = some (.tup (p.map V.int)) := upd_same
        replace hn := Tm.mono k2 _ _ hn
        replace sq := k2.sq sq
        replace all := Tms.mono k2 _ _ all
        replace ty := Tm.mono k2 _ _ ty
        generalize upd H2 p2 (.tup (p.map V.int)) = H3 at sm2 m1' m2 hn sq all ty
        have su : u.size ≤ 10000 := by
          have h1 := T.size_mem (List.mem_of_getElem? hu)
          have h2 : T.size (.f nm ts) = 1 + T.sizeL ts := rfl
          omega
        have lys := all.len
        have lts := T.len_sizeL ts
        have sts : T.size (.f nm ts) = 1 + T.sizeL ts := rfl
        refine ⟨y, rfl, u, new, z, y', y, p2, p, rfl, ty, hn, .inl (.inl m2), by rw [List.length_cons] at few; omega, su, hput', fun v H4 sm4 tz => ⟨(by show 1 ≤ sizeLine; decide), fun p5 n5 => ?_⟩⟩
        have k4 := TK.same sm4
        have sm4' : Same H H4 := fun b o e => sm4 b o (sm2 b o e)
        have k5 : TK H4 (upd H4 p5 (.tup [v])) := TK.new n5 _
        have sm5 : Same H (upd H4 p5 (.tup [v])) := same_new sm4' n5 _
        have m5 : (upd H4 p5 (.tup [v])) p5 = some (.tup [v]) := upd_same
        have m1'' := (k5 _ _).1 ((k4 _ _).1 m1')
        replace sq := k5.sq (k4.sq sq)
        replace all := Tms.mono (k4.trans k5) _ _ all
        replace tz := Tm.mono k5 _ _ tz
        generalize upd H4 p5 (.tup [v]) = H5 at sm5 m5 m1'' sq all tz
        refine ⟨p1, p5, _, _, rfl, rfl, .inl (.inl m1''), .inl (.inl m5), (by simp), (by rw [List.length_cons, List.length_take, List.length_singleton, sizeLine_eq]; omega), (fun z => nomatch z), fun _ p6 n6 => ?_⟩
        have k6 : TK H5 (upd H5 p6 (.tup ((V.str nm :: ys.take j) ++ [v]))) := TK.new n6 _
        have sm6 : Same H (upd H5 p6 (.tup ((V.str nm :: ys.take j) ++ [v]))) := same_new sm5 n6 _
        have m6 : (upd H5 p6 (.tup ((V.str nm :: ys.take j) ++ [v]))) p6 = some (.tup ((V.str nm :: ys.take j) ++ [v])) := upd_same
        replace sq := k6.sq sq
        replace all := Tms.mono k6 _ _ all
        replace tz := Tm.mono k6 _ _ tz
        generalize upd H5 p6 (.tup ((V.str nm :: ys.take j) ++ [v])) = H6 at sm6 m6 sq all tz
        refine ⟨.ref b, rfl, .int (1 + (j : Int)), rfl, _, _, rfl, rfl, _, rfl, b, _, rfl, sq, hi1, fun p7 n7 => ?_⟩
        rw [hi2]
        have k7 : TK H6 (upd H6 p7 (.tup (ys.drop (j + 1)))) := TK.new n7 _
        have sm7 : Same H (upd H6 p7 (.tup (ys.drop (j + 1)))) := same_new sm6 n7 _
        have m7 : (upd H6 p7 (.tup (ys.drop (j + 1)))) p7 = some (.tup (ys.drop (j + 1))) := upd_same
        have m6' := (k7 _ _).1 m6
        replace all := Tms.mono k7 _ _ all
        replace tz := Tm.mono k7 _ _ tz
        generalize upd H6 p7 (.tup (ys.drop (j + 1))) = H7 at sm7 m7 m6' all tz
        have done : ∀ (g : Addr) (H8 : Hp), Same H H8 → TK H7 H8 → H8 g = some (.tup (((V.str nm :: ys.take j) ++ [v]) ++ ys.drop (j + 1))) → Q (.ref g) H8 := by
          intro g H8 sm8 k8 m8
          refine q _ _ sm8 ⟨g, ys.take j ++ v :: ys.drop (j + 1), rfl, .inl (.inl ?_), ?_⟩
          · rw [m8, List.append_assoc]
            rfl
          · rcases Tms.set j (Tms.mono k8 _ _ all) (Tm.mono k8 _ _ tz) with z | z
            · exact z
            · have := (List.getElem?_eq_some_iff.mp hu).1
              omega
        refine ⟨p6, p7, _, _, rfl, rfl, .inl (.inl m6'), .inl (.inl m7), (by simp), ?_, fun e => ?_, fun e p8 n8 => ?_⟩
        · rw [List.length_append, List.length_cons, List.length_take, List.length_singleton, List.length_drop, sizeLine_eq]
          omega
        · refine done p6 H7 sm7 (TK.refl _) ?_
          rw [e, List.append_nil]
          exact m6'
        · exact done p8 _ (same_new sm7 n8 _) (TK.new n8 _) upd_same
end
end Ad

/-! The law's own going: paths. -/
namespace Ad
open PySem PySem.Spec PySem.Calls PyProof.Rows L2
theorem scLPaths : FnScope ["_law_term", "_law_found", "_law_k", "_law_path"] ["_law_term"] (defScope sLPaths) := ⟨rfl, rfl, rfl, by decide +kernel, rfl, by decide +kernel, by decide +kernel⟩
namespace T
theorem pathsL_append : ∀ (k : Nat) (as bs : List T), pathsL k (as ++ bs) = pathsL k as ++ pathsL (k + as.length) bs
  | _, [], _ => rfl
  | k, t :: ts, bs => by
    show (paths t).map ((k : Int) :: ·) ++ pathsL (k + 1) (ts ++ bs) = (paths t).map ((k : Int) :: ·) ++ pathsL (k + 1) ts ++ pathsL (k + (ts.length + 1)) bs
    rw [pathsL_append (k + 1) ts bs, List.append_assoc]
    congr 3
    omega
theorem pathsL_next {ts : List T} {i : Nat} {u : T} (h : ts[i]? = some u) : pathsL 0 (ts.take (i + 1)) = pathsL 0 (ts.take i) ++ u.paths.map ((i : Int) :: ·) := by
  have hi := (List.getElem?_eq_some_iff.mp h).1
  rw [List.take_add_one, h, pathsL_append, List.length_take]
  show _ ++ ((paths u).map ((((0 + min i ts.length : Nat)) : Int) :: ·) ++ []) = _
  rw [List.append_nil]
  have e : 0 + min i ts.length = i := by omega
  rw [e]
theorem sizeL_take (ts : List T) (i : Nat) : sizeL (ts.take i) ≤ sizeL ts := by
  have h2 := sizeL_append (ts.take i) (ts.drop i)
  rw [List.take_append_drop] at h2
  omega
end T
section
variable {P : Program} {w : World} {K : PySem.W.Frag} {mg : Str → Option Value} {base : Heap}
def spLPaths (K : PySem.W.Frag) (n : Nat) : Sp := fun vs H Q _ => ∃ (t : T) (x : V), vs = [x] ∧ Tm K H t x ∧ t.dep < n ∧ t.size ≤ 10000 ∧
  ∀ H' p us, Same H H' → H p = none → H' p = some (.lst us) → F2 (PV K H') t.paths us → Q (.ref p) H'
theorem ok_lpaths {f fV : Addr} {fd fdV : FuncData} {k : Nat} (F : Fun K "_law_paths" "_law_paths" sLPaths f fd) (gF : mg "_law_paths" = some (.ref f)) (bF : Binds K fd ["_law_term"] [])
    (G : FnOk P w K mg base CX0 k fV fdV ["_law_term"] (spIsVar K)) (gV : mg "_law_is_var" = some (.ref fV)) (kV : PySem.W.keepIn K (.ref fV) = true) (bV : Binds K fdV ["_law_term"] []) (mr : mg "range" = none) (ml : mg "len" = none) :
    ∀ n, FnOk P w K mg base CX0 (k + n) f fd ["_law_term"] (spLPaths K n)
  | 0 => vac fun vs H Q E ⟨t, x, _, _, z, _⟩ => absurd z (Nat.not_lt_zero _)
  | n + 1 => by
    have IH := ok_lpaths F gF bF G gV kV bV mr ml n
    refine F.ok scLPaths (fun vs H Q E h => ?_) (fun cdv A outer s H vs Q E hr h => ?_)
    · obtain ⟨t, x, rfl, _⟩ := h
      rfl
    · obtain ⟨t, x, rfl, ht, shallow, small, q⟩ := h
      refine ⟨_, pss_cons (ps_set (i := 1) scLPaths.nd rfl (.inl rfl) (pe_lst (pa_cons (pe_tup pa_nil) pa_nil)))
        (pss_cons (ps_if (pt_not (pt_val (pe_call G (hr.mono (Nat.le_add_right _ _)) (by rfl) gV kV bV .nil pass0 (pa_cons (pv 0) pa_nil))))
          (pss_one (ps_for PassesOwn.never rfl (pi_range1 (by rfl) mr (pa_cons (pe_op op_sub (pe_callB call_len_seq (by rfl) ml PySem.boot_len (pa_cons (pv 0) pa_nil)) pe_int) pa_nil)) (pg_name (i := 2) scLPaths.nd rfl (.inr rfl))
            (pss_one (ps_set (i := 1) scLPaths.nd rfl (.inl rfl) (pe_op op_cat (pv 1)
              (pe_lc (own := [("_law_path", 3)]) (g := gName 3) (tt := tYes) (te := tOp (rCatT K) (tTup (tCons (tVar 2) tNil)) (tVar 3)) rfl scLPaths.nd (pi_list (pe_call IH hr (by rfl) gF F.kp bF .nil pass0 (pa_cons (pe_ix ix_tup (pv 0) (pe_op op_add pe_int (pv 2)) (fun _ _ => rfl)) pa_nil)))
                (blkOk_by (N := ["_law_term", "_law_found", "_law_k", "_law_path"]) (sc := defScope sLPaths) (by decide +kernel))
                (fun _ _ _ _ _ => pg_name (i := 3) scLPaths.nd rfl (.inl rfl)) (fun _ _ _ _ _ => pts_nil)
                (fun _ _ _ _ _ => pe_op (r := rCatT K) op_catT (pe_tup (pa_cons (pv 2) pa_nil)) (pv 3))))))))
          pss_nil)
        (pss_one (ps_ret (pv 1)))), ?_⟩
      refine ⟨(by decide), fun p0 n0 => ⟨(by show 1 ≤ sizeLine; decide), fun p1 n1 => ?_⟩⟩
      have ne01 : p1 ≠ p0 := fun e => by rw [e, upd_same] at n1; cases n1
      have n1' : H p1 = none := by rwa [upd_ne ne01] at n1
      have sm1 : Same H (upd (upd H p0 (.tup [])) p1 (.lst [.ref p0])) := same_on (same_on (fun b o e => e) n0 _) n1' _
      have m0 : (upd (upd H p0 (.tup [])) p1 (.lst [.ref p0])) p0 = some (.tup []) := by rw [upd_ne ne01.symm]; exact upd_same
      have m1 : (upd (upd H p0 (.tup [])) p1 (.lst [.ref p0])) p1 = some (.lst [.ref p0]) := upd_same
      replace ht := Tm.mono (TK.same sm1) _ _ ht
      generalize upd (upd H p0 (.tup [])) p1 (.lst [.ref p0]) = H1 at sm1 m0 m1 ht
      have first : F2 (PV K H1) [[]] [V.ref p0] := F2.one ⟨p0, rfl, .inl (.inl m0)⟩
      refine ⟨x, rfl, t, x, rfl, ht, _, rfl, ?_⟩
      cases t with
      | v i =>
        refine iteF ?_
        exact ⟨_, rfl, q H1 p1 _ sm1 n1' m1 first⟩
      | f nm ts =>
        refine iteT ?_
        have ht' := ht
        obtain ⟨a, zs, rfl, sq, all⟩ := ht
        have lz := all.len
        have szu : T.size (.f nm ts) = 1 + T.sizeL ts := rfl
        have lts := T.len_sizeL ts
        have many : ((V.str nm :: zs).length : Int) - 1 = (ts.length : Int) := by
          rw [List.length_cons, lz]
          omega
        refine ⟨.ref a, rfl, a, _, rfl, .inr sq, _, _, rfl, rfl, _, rfl, (by omega), (by omega), ?_⟩
        have tn : ((V.str nm :: zs).length - 1 : Int).toNat = ts.length := by omega
        rw [tn]
        refine for_range (lo := 0) (n := ts.length) (fun i σ G => ∃ (d : Addr) (v2 v3 : Option V) (us : List V), σ = [some (.ref a), some (.ref d), v2, v3] ∧ Same H1 G ∧ H d = none ∧ G d = some (.lst us) ∧ F2 (PV K G) ([] :: T.pathsL 0 (ts.take i)) us)
          ⟨p1, none, none, _, rfl, fun b o e => e, n1', m1, first⟩ ?_ ?_
        · rintro i σ G hi ⟨d, v2, v3, us, rfl, sm, nd, g, ps⟩
          have hu := List.getElem?_eq_getElem hi
          generalize ts[i] = u at hu
          obtain ⟨y, hy, ty⟩ := all.get' hu
          have hm := List.mem_of_getElem? hu
          have d1 := T.dep_mem hm
          have d2 : T.dep (.f nm ts) = 1 + T.depL ts := rfl
          have d3 := T.size_mem hm
          have ei : (0 : Int) + (i : Int) = (i : Int) := Int.zero_add _
          rw [ei]
          have tk := TK.same sm
          refine ⟨.ref d, rfl, .ref a, rfl, .int (i : Int), rfl, _, _, rfl, rfl, a, _, _, y, rfl, rfl, tk.sq sq, ?_, u, y, rfl, Tm.mono tk _ _ ty, by omega, by omega, fun G2 p2 us2 sm2 n2 g2 ps2 => ⟨p2, rfl, ⟨us2, .inl (.inl g2)⟩, fun D nD => ?_⟩⟩
          · have e : ((1 : Int) + (i : Int)) = ((i + 1 : Nat) : Int) := by omega
            rw [e]
            exact atI_nat (j := i + 1) hy
          have g' := sm2 _ _ g
          have ps' := F2.mono (PV.mono (TK.same sm2)) ps
          have sm12 : Same H1 G2 := fun b o e => sm2 _ _ (sm _ _ e)
          have l2 := ps2.len
          rw [T.paths_len] at l2
          refine lc_list (K := K) (a := p2) (xs := us2) (fun j G3 => ∃ acc, Same G2 G3 ∧ G3 D = some (.lst acc) ∧ F2 (PV K G3) ((u.paths.take j).map ((i : Int) :: ·)) acc) ⟨[], same_new (fun b o e => e) nD _, upd_same, rfl⟩ (fun j G3 _ ⟨acc, sm3, _⟩ => .inl (.inl (sm3 _ _ g2))) ?_ ?_
          · rintro j c G3 hc ⟨acc, sm3, gD, pacc⟩
            obtain ⟨pp, hpp, ⟨ca, rfl, sqc⟩⟩ := (F2.mono (PV.mono (TK.same sm3)) ps2).get hc
            have lacc := pacc.len
            have hj := (List.getElem?_eq_some_iff.mp hpp).1
            rw [T.paths_len] at hj
            rw [List.length_map, List.length_take, T.paths_len] at lacc
            have pdep := T.paths_dep u pp (List.mem_of_getElem? hpp)
            have udep := T.dep_size u
            have nx : ∀ (r : Addr) (G5 : Hp), Same G3 G5 → SqT K G5 r (((i : Int) :: pp).map V.int) → ∃ acc', G5 D = some (.lst acc') ∧ acc'.length < sizeLine ∧ ∃ acc2, Same G2 (upd G5 D (.lst (acc' ++ [V.ref r]))) ∧ (upd G5 D (.lst (acc' ++ [V.ref r]))) D = some (.lst acc2) ∧ F2 (PV K (upd G5 D (.lst (acc' ++ [V.ref r])))) ((u.paths.take (j + 1)).map ((i : Int) :: ·)) acc2 := by
              intro r G5 sm5 sr
              have k6 : TK G5 (upd G5 D (.lst (acc ++ [V.ref r]))) := TK.lst (sm5 _ _ gD) _
              have sm35 : Same G2 G5 := fun b o e => sm5 _ _ (sm3 _ _ e)
              refine ⟨acc, sm5 _ _ gD, by rw [sizeLine_eq]; omega, _, same_on sm35 nD _, upd_same, ?_⟩
              rw [List.take_add_one, hpp, List.map_append]
              exact F2.app (F2.mono (PV.mono ((TK.same sm5).trans k6)) pacc) (F2.one ⟨r, rfl, k6.sq sr⟩)
            refine ⟨rfl, .int (i : Int), rfl, (by show 1 ≤ sizeLine; decide), fun p4 n4 => ⟨.ref ca, rfl, p4, ca, _, _, rfl, rfl, .inl (.inl upd_same), (TK.new n4 _).sq sqc, by simp, by rw [List.length_map, List.length_singleton, sizeLine_eq]; omega, fun e => ?_, fun e p5 n5 => ?_⟩⟩
            · refine nx p4 _ (same_new (fun b o e => e) n4 _) ?_
              rw [List.map_eq_nil_iff.mp e]
              exact .inl (.inl upd_same)
            · refine nx p5 _ (same_new (same_new (fun b o e => e) n4 _) n5 _) (.inl (.inl upd_same))
          · rintro G3 ⟨acc, sm3, gD, pacc⟩
            rw [l2, ← T.paths_len, List.take_length] at pacc
            have lacc := pacc.len
            rw [List.length_map, T.paths_len] at lacc
            have lus := ps.len
            rw [List.length_cons, T.pathsL_len] at lus
            have tkz := T.sizeL_take ts i
            refine ⟨d, D, us, acc, rfl, rfl, sm3 _ _ g', gD, by rw [sizeLine_eq]; omega, fun p5 n5 => ?_⟩
            have sm4 : Same G3 (upd G3 p5 (.lst (us ++ acc))) := same_new (fun b o e => e) n5 _
            refine ⟨p5, _, _, _, rfl, fun b o e => sm4 _ _ (sm3 _ _ (sm12 _ _ e)), ?_, upd_same, ?_⟩
            · cases z : H p5 with
              | none => rfl
              | some o =>
                have e2 := sm3 _ _ (sm12 _ _ (sm1 _ _ z))
                rw [n5] at e2
                cases e2
            · rw [T.pathsL_next hu]
              exact F2.app (F2.mono (PV.mono ((TK.same sm3).trans (TK.same sm4))) ps') (F2.mono (PV.mono (TK.same sm4)) pacc)
        · rintro σ G ⟨d, v2, v3, us, rfl, sm, nd, g, ps⟩
          rw [List.take_length] at ps
          exact ⟨_, rfl, q G d us (fun b o e => sm _ _ (sm1 _ _ e)) nd g ps⟩
end
end Ad

/-! The pen of a law: its cells, its draws, its picks. -/
namespace Pn
open PySem PySem.Spec PyProof.Rows L2
def topS (i : Nat) : Stmt := PySem.Challenge.pw_downtoground_k05_whole_terms_and_paths.main.body.getD i (.Pass ⟨0, 0, 0, 0⟩)
abbrev sPen : Stmt := topS 10
abbrev sDraw : Stmt := topS 11
abbrev sPick : Stmt := topS 12
theorem scPen : FnScope ["_law_script", "_law_fold", "_law_cell"] ["_law_script"] (defScope sPen) := ⟨rfl, rfl, rfl, by decide +kernel, rfl, by decide +kernel, by decide +kernel⟩
theorem scDraw : FnScope ["_law_pen_here", "_law_many", "_law_cell", "_law_digit", "_law_blend"] ["_law_pen_here", "_law_many"] (defScope sDraw) := ⟨rfl, rfl, rfl, by decide +kernel, rfl, by decide +kernel, by decide +kernel⟩
theorem scPick : FnScope ["_law_pen_here", "_law_some"] ["_law_pen_here", "_law_some"] (defScope sPick) := ⟨rfl, rfl, rfl, by decide +kernel, rfl, by decide +kernel, by decide +kernel⟩
/-! ### the pen's dict -/
abbrev kC : Key := .inr "cells"
abbrev kA : Key := .inr "at"
abbrev kD : Key := .inr "digits"
abbrev kN : Key := .inr "count"
abbrev kF : Key := .inr "fold"
theorem nCA : ¬ (kC = kA) := by decide +kernel
theorem nCD : ¬ (kC = kD) := by decide +kernel
theorem nCN : ¬ (kC = kN) := by decide +kernel
theorem nCF : ¬ (kC = kF) := by decide +kernel
theorem nAD : ¬ (kA = kD) := by decide +kernel
theorem nAN : ¬ (kA = kN) := by decide +kernel
theorem nAF : ¬ (kA = kF) := by decide +kernel
theorem nDN : ¬ (kD = kN) := by decide +kernel
theorem nDF : ¬ (kD = kF) := by decide +kernel
theorem nNF : ¬ (kN = kF) := by decide +kernel
def penK (l : Addr) (a d n f : Int) : List (Key × V) := [(kC, .ref l), (kA, .int a), (kD, .int d), (kN, .int n), (kF, .int f)]
section
variable (l : Addr) (a d n f x : Int)
theorem getC : valV (penK l a d n f) kC = some (.ref l) := valV_pos rfl
theorem getA : valV (penK l a d n f) kA = some (.int a) := by
  unfold penK; rw [valV_neg nCA, valV_pos rfl]
theorem getD : valV (penK l a d n f) kD = some (.int d) := by
  unfold penK; rw [valV_neg nCD, valV_neg nAD, valV_pos rfl]
theorem getN : valV (penK l a d n f) kN = some (.int n) := by
  unfold penK; rw [valV_neg nCN, valV_neg nAN, valV_neg nDN, valV_pos rfl]
theorem getF : valV (penK l a d n f) kF = some (.int f) := by
  unfold penK; rw [valV_neg nCF, valV_neg nAF, valV_neg nDF, valV_neg nNF, valV_pos rfl]
theorem put_is {kvs : List (Key × V)} {k : Key} {v : V} (h : valV kvs k = some v) (y : V) : putK kvs k y = kvs.map fun kv => if kv.1 = k then (kv.1, y) else kv := by
  unfold putK
  rw [valV_any, h]
  rfl
theorem putA : putK (penK l a d n f) kA (.int x) = penK l x d n f := by
  rw [put_is (getA l a d n f)]
  show [_, _, _, _, _] = _
  dsimp only
  rw [if_neg nCA, if_pos rfl, if_neg (Ne.symm nAD), if_neg (Ne.symm nAN), if_neg (Ne.symm nAF)]
  rfl
theorem putD : putK (penK l a d n f) kD (.int x) = penK l a x n f := by
  rw [put_is (getD l a d n f)]
  show [_, _, _, _, _] = _
  dsimp only
  rw [if_neg nCD, if_neg nAD, if_pos rfl, if_neg (Ne.symm nDN), if_neg (Ne.symm nDF)]
  rfl
theorem putN : putK (penK l a d n f) kN (.int x) = penK l a d x f := by
  rw [put_is (getN l a d n f)]
  show [_, _, _, _, _] = _
  dsimp only
  rw [if_neg nCN, if_neg nAN, if_neg nDN, if_pos rfl, if_neg (Ne.symm nNF)]
  rfl
theorem putF' : putK (penK l a d n f) kF (.int x) = penK l a d n x := by
  rw [put_is (getF l a d n f)]
  show [_, _, _, _, _] = _
  dsimp only
  rw [if_neg nCF, if_neg nAF, if_neg nDF, if_neg nNF, if_pos rfl]
  rfl
theorem merge_pen : mergeK [] [(kC, .ref l), (kA, .int a), (kD, .int d), (kN, .int n), (kF, .int f)] = penK l a d n f := by
  unfold mergeK penK
  simp only [List.foldl_cons, List.foldl_nil]
  rw [putK_new (kvs := []) (k := kC) _ rfl]
  rw [putK_new (k := kA) _ (by rw [List.nil_append, valV_neg nCA]; rfl)]
  rw [putK_new (k := kD) _ (by rw [List.nil_append, List.cons_append, valV_neg nCD, List.nil_append, valV_neg nAD]; rfl)]
  rw [putK_new (k := kN) _ (by simp only [List.nil_append, List.cons_append]; rw [valV_neg nCN, valV_neg nAN, valV_neg nDN]; rfl)]
  rw [putK_new (k := kF) _ (by simp only [List.nil_append, List.cons_append]; rw [valV_neg nCF, valV_neg nAF, valV_neg nDF, valV_neg nNF]; rfl)]
  rfl
end
/-- a pen stands at p, its cells at l, so many draws done -/
structure Pen (H : Hp) (p l : Addr) (ns : List Int) (c : Nat) : Prop where
  ex : ∃ (a : Nat) (d f : Int), H p = some (.dK (penK l (a : Int) d (c : Int) f)) ∧ a ≤ ns.length ∧ 0 ≤ d ∧ 0 ≤ f ∧ f < 2147483648
  ls : H l = some (.lst (ns.map V.int))
theorem pen_ne {H : Hp} {p l : Addr} {ns : List Int} {c : Nat} (h : Pen H p l ns c) : p ≠ l := by
  obtain ⟨⟨a, d, f, e, _⟩, q⟩ := h
  exact ne_of e q (by intro z; cases z)
/-- all but the pen's dict stays -/
def But (p : Addr) (H H' : Hp) : Prop := ∀ b o, b ≠ p → H b = some o → H' b = some o
theorem But.refl (p : Addr) (H : Hp) : But p H H := fun _ _ _ h => h
theorem But.trans {p : Addr} {H H1 H2 : Hp} (a : But p H H1) (b : But p H1 H2) : But p H H2 := fun c o n h => b c o n (a c o n h)
theorem But.upd {p : Addr} (H : Hp) (o : HO) : But p H (L2.upd H p o) := fun b u n h => by rw [upd_ne n]; exact h
theorem But.of {p : Addr} {H H' : Hp} (s : Same H H') : But p H H' := fun b o _ h => s b o h
theorem same_upd {H : Hp} {p : Addr} {o : HO} (h : H p = none) : Same H (L2.upd H p o) := fun b x e => by
  rw [upd_ne (ne_of_none e h)]
  exact e
section
variable {P : Program} {w : World} {K : PySem.W.Frag} {mg : Str → Option Value} {base : Heap}
def spPen (K : PySem.W.Frag) : Sp := fun vs H Q _ => ∃ (a : Addr) (ns : List Int), vs = [.ref a] ∧ SqL K H a (ns.map V.int) ∧ ns.length ≤ 63 ∧
  ∀ H' p l, Same H H' → H p = none → H l = none → Pen H' p l ns 0 → Q (.ref p) H'
theorem ok_pen {f : Addr} {fd : FuncData} {k : Nat} (F : Fun K "_law_pen" "_law_pen" sPen f fd) (mi : mg "int" = none) (ml : mg "list" = none) : FnOk P w K mg base CX0 (k + 1) f fd ["_law_script"] (spPen K) := by
  refine F.ok scPen (fun vs H Q E h => ?_) (fun cdv A outer s H vs Q E hr h => ?_)
  · obtain ⟨a, ns, rfl, _⟩ := h
    rfl
  · obtain ⟨a, ns, rfl, hS, hlen, q⟩ := h
    refine ⟨_, pss_cons (ps_set (i := 1) scPen.nd rfl (.inl rfl) pe_int)
      (pss_cons (ps_for PassesOwn.never rfl (pi_list (pv 0)) (pg_name (i := 2) scPen.nd rfl (.inl rfl))
        (pss_one (ps_set (i := 1) scPen.nd rfl (.inl rfl) (pe_op op_mod (pe_callTy call_int1 (by rfl) mi (by decide +kernel) (pa_cons (pe_op op_add (pe_op op_mul (pv 1) pe_int) (pv 2)) pa_nil)) pe_int))))
      (pss_one (ps_ret (pe_disp (pps_cons pe_str (pe_callTy call_list_of (by rfl) ml (by decide +kernel) (pa_cons (pv 0) pa_nil))
        (pps_cons pe_str pe_int (pps_cons pe_str pe_int (pps_cons pe_str pe_int (pps_cons pe_str (pv 1) pps_nil))))) (by rfl) (by rfl) (fun z => by cases z) (by decide))))), ?_⟩
    refine ⟨.ref a, rfl, a, rfl, ⟨_, hS⟩, for_list (K := K) (a := a) (xs := ns.map V.int) (fun i σ H2 => ∃ (g : Int) (v : Option V), σ = [some (.ref a), some (.int g), v] ∧ H2 = H ∧ 0 ≤ g ∧ g < 1000000007)
      ⟨0, none, rfl, rfl, by decide, by decide⟩ (fun i σ H2 _ ⟨_, _, _, e, _⟩ => by rw [e]; exact hS) ?_ ?_⟩
    · rintro i y σ H2 hi ⟨g, v, rfl, rfl, g0, g1⟩
      obtain ⟨z, rfl⟩ : ∃ z, y = V.int z := by
        rw [List.getElem?_map] at hi
        cases e : ns[i]? with
        | none =>
          rw [e] at hi
          cases hi
        | some z =>
          rw [e] at hi
          exact ⟨z, (Option.some.inj hi).symm⟩
      refine ⟨.int g, rfl, _, _, rfl, rfl, .inr ⟨by decide, by decide⟩, .int z, rfl, _, _, rfl, rfl, .inl ⟨_, rfl, _, _, rfl, rfl, (by show (0 : Int) < 1000000007; decide), ?_⟩⟩
      exact ⟨(g * 47 + z) % 1000000007, some (.int z), rfl, rfl, Int.emod_nonneg _ (by decide), Int.emod_lt_of_pos _ (by decide)⟩
    · rintro σ H2 ⟨g, v, rfl, rfl, g0, g1⟩
      intro p hp
      refine ⟨.ref a, rfl, a, _, rfl, .inl ((same_upd hp).seq hS), fun l hl => ?_⟩
      have nlp : l ≠ p := fun e => by
        rw [e, upd_same] at hl
        cases hl
      have hl0 : H2 l = none := by rw [upd_ne nlp] at hl; exact hl
      refine ⟨.int g, rfl, by rw [upd_ne nlp.symm, upd_same], [(kC, .ref l), (kA, .int 0), (kD, .int 0), (kN, .int 0), (kF, .int g)], rfl, (by show 5 ≤ 15; decide), ?_⟩
      rw [merge_pen]
      refine q _ p l ?_ hp hl0 ⟨⟨0, 0, g, upd_same, Nat.zero_le _, by decide, g0, by omega⟩, ?_⟩
      · intro b o e
        have b1 : b ≠ p := ne_of_none e hp
        have b2 : b ≠ l := ne_of_none e hl0
        rw [upd_ne b1, upd_ne b2, upd_ne b1]
        exact e
      · rw [upd_ne nlp, upd_same]
end
end Pn

namespace Pn
open PySem PySem.Spec PyProof.Rows L2
theorem pget {H : Hp} {p : Addr} {kvs : List (Key × V)} {k : Key} {v : V} (e : H p = some (.dK kvs)) (h : valV kvs k = some v) : DGet H p (kV k) (some v) := by
  have q : DGet H p (kV k) (valV kvs k) := DGet.k e
  rw [h] at q
  exact q
theorem pput {H : Hp} {p : Addr} {kvs kvs' : List (Key × V)} {k : Key} {v : V} (e : H p = some (.dK kvs)) (hl : kvs.length < sizeLine) (h : putK kvs k v = kvs') : DPut H p (kV k) v (L2.upd H p (.dK kvs')) := by
  have q : DPut H p (kV k) v (L2.upd H p (.dK (putK kvs k v))) := DPut.k e hl
  rw [h] at q
  exact q
theorem penl (l : Addr) (a d n f : Int) : (penK l a d n f).length < sizeLine := by
  show 5 < sizeLine
  decide
theorem pow17 {b : Int} (h0 : 0 ≤ b) : 0 ≤ b ^ (17 : Int).toNat := Int.pow_nonneg h0
section
variable {P : Program} {w : World} {K : PySem.W.Frag} {mg : Str → Option Value} {base : Heap}
def spDraw : Sp := fun vs H Q _ => ∃ (p l : Addr) (ns : List Int) (c : Nat) (m : Int), vs = [.ref p, .int m] ∧ Pen H p l ns c ∧ ns.length ≤ 1000 ∧ c ≤ 1000000000 ∧ 1 ≤ m ∧ m ≤ 1000000 ∧
  ∀ r H', 0 ≤ r → r < m → Pen H' p l ns (c + 1) → But p H H' → Q (.int r) H'
theorem ok_draw {f : Addr} {fd : FuncData} {k : Nat} (F : Fun K "_law_draw" "_law_draw" sDraw f fd) (mi : mg "int" = none) (ml : mg "len" = none) : FnOk P w K mg base CX0 (k + 1) f fd ["_law_pen_here", "_law_many"] spDraw := by
  refine F.ok scDraw (fun vs H Q E h => ?_) (fun cdv A outer s H vs Q E hr h => ?_)
  · obtain ⟨p, l, ns, c, m, rfl, _⟩ := h
    rfl
  · obtain ⟨p, l, ns, c, m, rfl, hP, hlen, hc, m1, m2, q⟩ := h
    have hu := hu_of hr
    have npl : p ≠ l := pen_ne hP
    obtain ⟨⟨a, d, f0, e, ha, hd, hf, hf2⟩, hl⟩ := hP
    refine ⟨_, pss_cons (ps_dput hu (pv 0) pe_str (pe_op op_add (pe_dget hu (pv 0) pe_str (fun _ _ => rfl)) pe_int) rfl)
      (C8.pss_cut (ps_if (pw_and (pt_cmpR op_eq (pe_dget hu (pv 0) pe_str (fun _ _ => rfl)) pe_int (nomark _)) (pw_and1 (pt_cmpR op_lt (pe_dget hu (pv 0) pe_str (fun _ _ => rfl)) (pe_callB call_len_seq (by rfl) ml PySem.boot_len (pa_cons (pe_dget hu (pv 0) pe_str (fun _ _ => rfl)) pa_nil)) (nomark _)))).pt
        (pss_cons (ps_set (i := 2) scDraw.nd rfl (.inl rfl) (pe_ix ix_list (pe_dget hu (pv 0) pe_str (fun _ _ => rfl)) (pe_dget hu (pv 0) pe_str (fun _ _ => rfl)) (fun _ _ => rfl)))
        (pss_cons (ps_dput hu (pv 0) pe_str (pe_op op_add (pe_dget hu (pv 0) pe_str (fun _ _ => rfl)) pe_int) rfl)
        (pss_one (ps_if (pt_cmpR op_ge (pv 2) (pe_op op_pow pe_int pe_int) (nomark _))
          (pss_one (ps_dput hu (pv 0) pe_str (pe_op op_sub (pv 2) (pe_op op_pow pe_int pe_int)) rfl))
          (pss_one (ps_dput hu (pv 0) pe_str (pe_op op_mod (pe_callTy call_int1 (by rfl) mi (by decide +kernel) (pa_cons (pe_op op_add (pe_op op_mul (pe_dget hu (pv 0) pe_str (fun _ _ => rfl)) pe_int) (pv 2)) pa_nil)) pe_int) rfl))))))
        pss_nil)
      (pss_cons (ps_if (pt_cmpR op_gt (pe_dget hu (pv 0) pe_str (fun _ _ => rfl)) pe_int (nomark _))
        (pss_cons (ps_set (i := 3) scDraw.nd rfl (.inl rfl) (pe_op op_mod (pe_callTy call_int1 (by rfl) mi (by decide +kernel) (pa_cons (pe_dget hu (pv 0) pe_str (fun _ _ => rfl)) pa_nil)) (pv 1)))
        (pss_cons (ps_dput hu (pv 0) pe_str (pe_op op_fdiv (pe_dget hu (pv 0) pe_str (fun _ _ => rfl)) (pv 1)) rfl)
        (pss_one (ps_ret (pv 3)))))
        pss_nil)
      (pss_cons (ps_set (i := 4) scDraw.nd rfl (.inl rfl) (pe_op op_add (pe_op op_add (pe_dget hu (pv 0) pe_str (fun _ _ => rfl)) (pe_op op_mul (pe_dget hu (pv 0) pe_str (fun _ _ => rfl)) pe_int)) pe_int))
      (pss_one (ps_ret (pe_op op_mod (pe_op op_fdiv (pe_callTy call_int1 (by rfl) mi (by decide +kernel) (pa_cons (pe_op op_mod (pe_op op_pow (pv 4) pe_int) pe_int) pa_nil)) pe_int) (pv 1))))))), ?_⟩
    -- count
    refine ⟨.ref p, rfl, p, _, rfl, pget e (getN ..), _, _, rfl, rfl, .ref p, rfl, p, _, rfl, pput e (penl ..) (putN ..), ?_⟩
    have e1 : (L2.upd H p (.dK (penK l (a : Int) d ((c : Int) + 1) f0))) p = some (.dK (penK l (a : Int) d ((c : Int) + 1) f0)) := upd_same
    have l1 : (L2.upd H p (.dK (penK l (a : Int) d ((c : Int) + 1) f0))) l = some (.lst (ns.map V.int)) := by rw [upd_ne npl.symm]; exact hl
    have b1 : But p H (L2.upd H p (.dK (penK l (a : Int) d ((c : Int) + 1) f0))) := But.upd _ _
    generalize L2.upd H p (.dK (penK l (a : Int) d ((c : Int) + 1) f0)) = H1 at e1 l1 b1
    -- the cell
    refine ⟨fun σ H' => ∃ (v2 : Option V) (a : Nat) (d f : Int), σ = [some (.ref p), some (.int m), v2, none, none] ∧ H' p = some (.dK (penK l (a : Int) d ((c : Int) + 1) f)) ∧ a ≤ ns.length ∧ 0 ≤ d ∧ 0 ≤ f ∧ f < 2147483648 ∧ H' l = some (.lst (ns.map V.int)) ∧ But p H H', ?_, ?_⟩
    · refine ⟨.ref p, rfl, p, _, rfl, pget e1 (getD ..), rfl, _, rfl, ?_⟩
      refine ite2 (fun hd0 => ?_) (fun _ => ?_)
      · refine ⟨.ref p, rfl, p, _, rfl, pget e1 (getA ..), .ref p, rfl, p, _, rfl, pget e1 (getC ..), l, _, rfl, .inl (.inl (.inl l1)), _, _, rfl, rfl, _, rfl, ?_⟩
        refine ite2 (fun hlt => ?_) (fun _ => ?_)
        · have hlt' : (a : Int) < ((ns.map V.int).length : Int) := of_decide_eq_true hlt
          have hlt2 : a < ns.length := by
            rw [List.length_map] at hlt'
            omega
          have hz : (ns.map V.int)[a]? = some (.int ns[a]) := by
            rw [List.getElem?_map, List.getElem?_eq_getElem hlt2]
            rfl
          refine ⟨.ref p, rfl, p, _, rfl, pget e1 (getC ..), .ref p, rfl, p, _, rfl, pget e1 (getA ..), l, _, _, _, rfl, rfl, .inl (.inl l1), atI_nat hz, ?_⟩
          refine ⟨.ref p, rfl, p, _, rfl, pget e1 (getA ..), _, _, rfl, rfl, .ref p, rfl, p, _, rfl, pput e1 (penl ..) (putA ..), ?_⟩
          have e2 : (L2.upd H1 p (.dK (penK l ((a : Int) + 1) d ((c : Int) + 1) f0))) p = some (.dK (penK l ((a + 1 : Nat) : Int) d ((c : Int) + 1) f0)) := upd_same
          have l2 : (L2.upd H1 p (.dK (penK l ((a : Int) + 1) d ((c : Int) + 1) f0))) l = some (.lst (ns.map V.int)) := by rw [upd_ne npl.symm]; exact l1
          have b2 : But p H (L2.upd H1 p (.dK (penK l ((a : Int) + 1) d ((c : Int) + 1) f0))) := b1.trans (But.upd _ _)
          generalize L2.upd H1 p (.dK (penK l ((a : Int) + 1) d ((c : Int) + 1) f0)) = H2 at e2 l2 b2
          refine ⟨.int ns[a], rfl, _, _, rfl, rfl, ⟨by decide, by decide, by decide⟩, _, _, rfl, rfl, _, rfl, ?_⟩
          refine ite2 (fun hbig => ?_) (fun _ => ?_)
          · have hb : (10 : Int) ^ (18 : Int).toNat ≤ ns[a] := of_decide_eq_true hbig
            refine ⟨.int ns[a], rfl, _, _, rfl, rfl, ⟨by decide, by decide, by decide⟩, _, _, rfl, rfl, .ref p, rfl, p, _, rfl, pput e2 (penl ..) (putD ..), ?_⟩
            exact ⟨_, a + 1, _, f0, rfl, upd_same, hlt2, by omega, hf, hf2, by rw [upd_ne npl.symm]; exact l2, b2.trans (But.upd _ _)⟩
          · refine ⟨.ref p, rfl, p, _, rfl, pget e2 (getF ..), _, _, rfl, rfl, .inr ⟨by decide, by decide⟩, .int ns[a], rfl, _, _, rfl, rfl, .inl ⟨_, rfl, _, _, rfl, rfl, (by show (0 : Int) < 2147483587; decide), .ref p, rfl, p, _, rfl, pput e2 (penl ..) (putF' ..), ?_⟩⟩
            refine ⟨_, a + 1, d, _, rfl, upd_same, hlt2, hd, Int.emod_nonneg _ (by decide), Int.lt_trans (Int.emod_lt_of_pos _ (by decide)) (by decide), by rw [upd_ne npl.symm]; exact l2, b2.trans (But.upd _ _)⟩
        · exact ⟨none, a, d, f0, rfl, e1, ha, hd, hf, hf2, l1, b1⟩
      · refine iteF ?_
        exact ⟨none, a, d, f0, rfl, e1, ha, hd, hf, hf2, l1, b1⟩
    · rintro σ' H2 ⟨v2, a, d, f0, rfl, e2, ha, hd, hf, hf2, l2, b2⟩
      refine ⟨.ref p, rfl, p, _, rfl, pget e2 (getD ..), _, _, rfl, rfl, _, rfl, ?_⟩
      refine ite2 (fun _ => ?_) (fun _ => ?_)
      · refine ⟨.ref p, rfl, p, _, rfl, pget e2 (getD ..), .inl ⟨_, rfl, .int m, rfl, _, _, rfl, rfl, (by show 0 < m; omega), ?_⟩⟩
        refine ⟨.ref p, rfl, p, _, rfl, pget e2 (getD ..), .int m, rfl, _, _, rfl, rfl, ⟨(by omega), (by omega)⟩, .ref p, rfl, p, _, rfl, pput e2 (penl ..) (putD ..), ?_⟩
        refine ⟨.int (d % m), rfl, ?_⟩
        refine q _ _ (Int.emod_nonneg _ (by omega)) (Int.emod_lt_of_pos _ (by omega)) ⟨⟨a, d / m, f0, upd_same, ha, Int.ediv_nonneg hd (by omega), hf, hf2⟩, by rw [upd_ne npl.symm]; exact l2⟩ (b2.trans (But.upd _ _))
      · refine ⟨.ref p, rfl, p, _, rfl, pget e2 (getF ..), .ref p, rfl, p, _, rfl, pget e2 (getN ..), _, _, rfl, rfl, .inr ⟨by decide, by decide⟩, _, _, rfl, rfl, _, _, rfl, rfl, ?_⟩
        refine ⟨.int (f0 + ((c : Int) + 1) * 7907 + 43), rfl, _, _, rfl, rfl, ⟨by decide, by decide, by omega⟩, _, _, rfl, rfl, (by show (0 : Int) < 2305843009213693951; decide), .inl ⟨_, rfl, _, _, rfl, rfl, ⟨by decide, by decide⟩, .int m, rfl, _, _, rfl, rfl, (by show 0 < m; omega), ?_⟩⟩
        exact q _ _ (Int.emod_nonneg _ (by omega)) (Int.emod_lt_of_pos _ (by omega)) ⟨⟨a, d, f0, e2, ha, hd, hf, hf2⟩, l2⟩ b2
def spPick (K : PySem.W.Frag) : Sp := fun vs H Q _ => ∃ (p l s : Addr) (ns : List Int) (c : Nat) (xs : List V), vs = [.ref p, .ref s] ∧ Pen H p l ns c ∧ ns.length ≤ 1000 ∧ c ≤ 1000000000 ∧ (SqL K H s xs ∨ SqT K H s xs) ∧ xs ≠ [] ∧ xs.length ≤ 1000000 ∧ s ≠ p ∧
  ∀ x H', x ∈ xs → Pen H' p l ns (c + 1) → But p H H' → Q x H'
theorem But.sq {H H' : Hp} {p s : Addr} {xs : List V} (b : But p H H') (n : s ≠ p) (h : SqL K H s xs) : SqL K H' s xs := by
  rcases h with (h | ⟨o, h⟩) | h
  · exact .inl (.inl (b _ _ n h))
  · exact .inl (.inr ⟨o, b _ _ n h⟩)
  · exact .inr h
end
end Pn

namespace Pn
open PySem PySem.Spec PyProof.Rows L2
theorem ix_or {X : Cx} : IxR X (fun x y H Q => rIxL X.K x y H Q ∨ rIxT X.K x y H Q) := ix_list.or ix_tup
section
variable {P : Program} {w : World} {K : PySem.W.Frag} {mg : Str → Option Value} {base : Heap}
theorem ok_pick {f fD : Addr} {fd fdD : FuncData} {k : Nat} (F : Fun K "_law_pick" "_law_pick" sPick f fd) (G : FnOk P w K mg base CX0 (k + 1) fD fdD ["_law_pen_here", "_law_many"] spDraw) (gD : mg "_law_draw" = some (.ref fD)) (kD : PySem.W.keepIn K (.ref fD) = true) (bD : Binds K fdD ["_law_pen_here", "_law_many"] [])
    (ml : mg "len" = none) : FnOk P w K mg base CX0 (k + 2) f fd ["_law_pen_here", "_law_some"] (spPick K) := by
  refine F.ok scPick (fun vs H Q E h => ?_) (fun cdv A outer s H vs Q E hr h => ?_)
  · obtain ⟨p, l, s, ns, c, xs, rfl, _⟩ := h
    rfl
  · obtain ⟨p, l, s, ns, c, xs, rfl, hP, hlen, hc, hS, hne, hx, hsp, q⟩ := h
    refine ⟨_, pss_one (ps_ret (pe_ix ix_or (pv 1) (pe_call G hr (by rfl) gD kD bD .nil pass0 (pa_cons (pv 0) (pa_cons (pe_callB call_len_seq (by rfl) ml PySem.boot_len (pa_cons (pv 1) pa_nil)) pa_nil))) (fun _ _ => rfl))), ?_⟩
    have hpos : 1 ≤ xs.length := by
      cases xs with
      | nil => exact absurd rfl hne
      | cons x r => rw [List.length_cons]; omega
    refine ⟨.ref s, rfl, .ref p, rfl, .ref s, rfl, s, xs, rfl, hS, p, l, ns, c, _, rfl, hP, hlen, hc, by omega, by omega, fun r H' r0 r1 hP' b' => ?_⟩
    obtain ⟨j, rfl⟩ : ∃ j : Nat, r = (j : Int) := ⟨r.toNat, by omega⟩
    have hj : j < xs.length := by omega
    have hg : xs[j]? = some xs[j] := List.getElem?_eq_getElem hj
    rcases hS with hS | hS
    · exact .inl ⟨s, xs, _, _, rfl, rfl, b'.sq hsp hS, atI_nat hg, q _ _ (List.getElem_mem hj) hP' b'⟩
    · refine .inr ⟨s, xs, _, _, rfl, rfl, ?_, atI_nat hg, q _ _ (List.getElem_mem hj) hP' b'⟩
      rcases hS with (h | ⟨o, h⟩) | h
      · exact .inl (.inl (b' _ _ hsp h))
      · exact .inl (.inr ⟨o, b' _ _ hsp h⟩)
      · exact .inr h
end
end Pn

/-! Drawn terms. -/
namespace Ad
open PySem PySem.Spec PySem.Calls PyProof.Rows L2
abbrev sDrawn : Stmt := topS 16
theorem scDrawn : FnScope ["_law_pen_here", "_law_rows", "_law_deep", "_law_variables", "_law_some", "_law_name", "_law_arity", "_law_weight", "_law_row", "_law_k"] ["_law_pen_here", "_law_rows", "_law_deep", "_law_variables"] (defScope sDrawn) := ⟨rfl, rfl, rfl, by decide +kernel, rfl, by decide +kernel, by decide +kernel⟩
/-- a row: name, number of arguments, weight -/
abbrev Row := Str × Nat × Int
def RowV (K : PySem.W.Frag) (H : Hp) (r : Row) (v : V) : Prop := ∃ b, v = .ref b ∧ SqT K H b [.str r.1, .int (r.2.1 : Int), .int r.2.2]
def RowsAt (K : PySem.W.Frag) (H : Hp) (a : Addr) (R : List Row) : Prop := ∃ b y vs, SqT K H a [.ref b, y] ∧ SqT K H b vs ∧ F2 (RowV K H) R vs
theorem RowV.mono {K : PySem.W.Frag} {H H' : Hp} (k : TK H H') (r : Row) (v : V) (h : RowV K H r v) : RowV K H' r v := by
  obtain ⟨b, e, s⟩ := h
  exact ⟨b, e, k.sq s⟩
theorem RowsAt.mono {K : PySem.W.Frag} {H H' : Hp} (k : TK H H') {a : Addr} {R : List Row} (h : RowsAt K H a R) : RowsAt K H' a R := by
  obtain ⟨b, y, vs, s1, s2, f⟩ := h
  exact ⟨b, y, vs, k.sq s1, k.sq s2, f.mono (RowV.mono k)⟩
/-- rows to draw from: names that can be laid, at most three arguments, one without any -/
structure ROk (R : List Row) : Prop where
  names : ∀ r ∈ R, PyData.strOk r.1 = true ∧ r.2.1 ≤ 3
  const : ∃ (j : Nat) (r : Row), R[j]? = some r ∧ r.2.1 = 0
  few : R.length ≤ 1000
def sz : Nat → Nat
  | 0 => 1
  | d + 1 => 1 + 3 * sz d
def dn : Nat → Nat
  | 0 => 2
  | d + 1 => 2 + 3 * dn d
theorem two_dn : ∀ d, 2 ≤ dn d
  | 0 => Nat.le_refl _
  | _ + 1 => Nat.le_add_right _ _
theorem one_sz : ∀ d, 1 ≤ sz d
  | 0 => Nat.le_refl _
  | _ + 1 => Nat.le_add_right _ _
/-- a drawn term of a depth, its variables below a number -/
structure DT (R : List Row) (deep : Nat) (nv : Int) (t : T) : Prop where
  named : t.named = true
  dep : t.dep ≤ deep + 1
  size : t.size ≤ sz deep
  vars : ∀ j ∈ t.vars, 0 ≤ j ∧ j < nv
theorem pen_tk {H H' : Hp} {p l : Addr} {ns : List Int} {c : Nat} (P : Pn.Pen H p l ns c) (b : Pn.But p H H') : TK H H' := by
  obtain ⟨⟨a, d, f, e, _⟩, _⟩ := P
  intro q xs
  refine ⟨fun h => b _ _ (fun z => ?_) h, fun o h => b _ _ (fun z => ?_) h⟩
  · rw [z, e] at h
    cases h
  · rw [z, e] at h
    cases h
theorem pen_same {H H' : Hp} {p l : Addr} {ns : List Int} {c : Nat} (P : Pn.Pen H p l ns c) (s : Same H H') : Pn.Pen H' p l ns c := by
  obtain ⟨⟨a, d, f, e, r⟩, h⟩ := P
  exact ⟨⟨a, d, f, s _ _ e, r⟩, s _ _ h⟩
section
variable {P : Program} {w : World} {K : PySem.W.Frag} {mg : Str → Option Value} {base : Heap}
def spDrawn (K : PySem.W.Frag) (n : Nat) : Sp := fun vs H Q _ => ∃ (p l ra : Addr) (ns : List Int) (c deep : Nat) (nv : Int) (R : List Row), vs = [.ref p, .ref ra, .int (deep : Int), .int nv] ∧ Pn.Pen H p l ns c ∧ ns.length ≤ 1000 ∧ c + dn deep ≤ 1000000000 ∧ RowsAt K H ra R ∧ ROk R ∧
  deep < n ∧ 0 ≤ nv ∧ nv ≤ 1000 ∧ ∀ t v H' c', Tm K H' t v → DT R deep nv t → c' ≤ c + dn deep → Pn.Pen H' p l ns c' → Pn.But p H H' → Q v H'
theorem ok_drawn {f fD fP : Addr} {fd fdD fdP : FuncData} {k : Nat} (F : Fun K "_law_drawn_term" "_law_drawn_term" sDrawn f fd) (gF : mg "_law_drawn_term" = some (.ref f)) (bF : Binds K fd ["_law_pen_here", "_law_rows", "_law_deep", "_law_variables"] [])
    (GD : FnOk P w K mg base CX0 k fD fdD ["_law_pen_here", "_law_many"] Pn.spDraw) (gD : mg "_law_draw" = some (.ref fD)) (kD : PySem.W.keepIn K (.ref fD) = true) (bD : Binds K fdD ["_law_pen_here", "_law_many"] [])
    (GP : FnOk P w K mg base CX0 k fP fdP ["_law_pen_here", "_law_some"] (Pn.spPick K)) (gP : mg "_law_pick" = some (.ref fP)) (kP : PySem.W.keepIn K (.ref fP) = true) (bP : Binds K fdP ["_law_pen_here", "_law_some"] []) (mt : mg "tuple" = none) (mr : mg "range" = none) :
    ∀ n, FnOk P w K mg base CX0 (k + n) f fd ["_law_pen_here", "_law_rows", "_law_deep", "_law_variables"] (spDrawn K n)
  | 0 => vac fun vs H Q E ⟨p, l, ra, ns, c, deep, nv, R, _, _, _, _, _, _, z, _⟩ => absurd z (Nat.not_lt_zero _)
  | n + 1 => by
    have IH := ok_drawn F gF bF GD gD kD bD GP gP kP bP mt mr n
    refine F.ok scDrawn (fun vs H Q E h => ?_) (fun cdv A outer s H vs Q E hr h => ?_)
    · obtain ⟨p, l, ra, ns, c, deep, nv, R, rfl, _⟩ := h
      rfl
    · obtain ⟨p, l, ra, ns, c, deep, nv, R, rfl, hP, hlen, hc, hR, ok, hd, nv0, nv1, q⟩ := h
      have hr0 := hr.mono (Nat.le_add_right k n)
      refine ⟨_, C8.pss_cut (ps_if (pw_and (pt_cmpR op_gt (pv 3) pe_int (nomark _)) (pw_and1 (pt_cmpR op_eq (pe_call GD hr0 (by rfl) gD kD bD .nil pass0 (pa_cons (pv 0) (pa_cons pe_int pa_nil))) pe_int (nomark _)))).pt
          (pss_one (ps_ret (pe_call GD hr0 (by rfl) gD kD bD .nil pass0 (pa_cons (pv 0) (pa_cons (pv 3) pa_nil))))) pss_nil)
        (pss_cons (ps_setLc (i := 4) (own := [("_law_row", 8)]) (g := gName 8) (tt := tOr (tTest (tOp (rI0 fun i j => .bl (decide (j < i))) (tVar 2) (tC (.int 0)))) (tTest (tOp rEq (tOp (rIxT K) (tVar 8) (tC (.int 1))) (tC (.int 0))))) (te := tVar 8) rfl scDrawn.nd rfl rfl (sw_true rfl rfl rfl (by decide +kernel))
            (pi_tup (pe_ix ix_tup (pv 1) pe_int (fun _ _ => rfl)))
            (blkOk_by (N := ["_law_pen_here", "_law_rows", "_law_deep", "_law_variables", "_law_some", "_law_name", "_law_arity", "_law_weight", "_law_row", "_law_k"]) (sc := defScope sDrawn) (by decide +kernel))
            (fun _ _ _ _ _ => pg_name (i := 8) scDrawn.nd rfl (.inl rfl))
            (fun _ _ _ _ _ => pts_one (pw_or (pt_cmpR op_gt (pv 2) pe_int (nomark _)) (pw_or1 (pt_cmpR op_eq (pe_ix (r := rIxT K) ix_tup (pv 8) pe_int (fun _ _ => rfl)) pe_int (nomark _)))).pt)
            (fun _ _ _ _ _ => pv 8))
        (pss_cons (ps_asg (pe_call GP hr0 (by rfl) gP kP bP .nil pass0 (pa_cons (pv 0) (pa_cons (pv 4) pa_nil))) (pg_tup rfl (pgs_cons (pg_name (i := 5) scDrawn.nd rfl (.inl rfl)) (pgs_cons (pg_name (i := 6) scDrawn.nd rfl (.inl rfl)) (pgs_cons (pg_name (i := 7) scDrawn.nd rfl (.inl rfl)) pgs_nil)))))
        (pss_one (ps_ret (pe_op op_catT (pe_tup (pa_cons (pv 5) pa_nil)) (pe_callTy call_tuple_of (by rfl) mt (by decide +kernel) (pa_cons
          (pe_lc (own := [("_law_k", 9)]) (g := gName 9) (tt := tYes) rfl scDrawn.nd (pi_range1 (by rfl) mr (pa_cons (pv 6) pa_nil))
            (blkOk_by (N := ["_law_pen_here", "_law_rows", "_law_deep", "_law_variables", "_law_some", "_law_name", "_law_arity", "_law_weight", "_law_row", "_law_k"]) (sc := defScope sDrawn) (by decide +kernel))
            (fun _ _ _ _ _ => pg_name (i := 9) scDrawn.nd rfl (.inl rfl)) (fun _ _ _ _ _ => pts_nil)
            (fun _ _ _ _ _ => pe_call IH hr (by rfl) gF F.kp bF .nil pass0 (pa_cons (pv 0) (pa_cons (pv 1) (pa_cons (pe_op op_sub (pv 2) pe_int) (pa_cons (pv 3) pa_nil)))))) pa_nil))))))), ?_⟩
      refine ⟨fun σ G => ∃ c1, σ = [some (.ref p), some (.ref ra), some (.int (deep : Int)), some (.int nv), none, none, none, none, none, none] ∧ c1 ≤ c + 1 ∧ Pn.Pen G p l ns c1 ∧ Pn.But p H G, ?_, ?_⟩
      · have d2 := two_dn deep
        refine ⟨.int nv, rfl, nv, 0, rfl, rfl, _, rfl, ?_⟩
        refine ite2 (fun hpos => ?_) (fun _ => ?_)
        · have hpos' : 0 < nv := of_decide_eq_true hpos
          refine ⟨.ref p, rfl, p, l, ns, c, 3, rfl, hP, hlen, by omega, by decide, by decide, fun r G r0 r1 P1 b1 => ⟨rfl, _, rfl, ?_⟩⟩
          refine ite2 (fun _ => ?_) (fun _ => ?_)
          · refine ⟨.ref p, rfl, .int nv, rfl, p, l, ns, c + 1, nv, rfl, P1, hlen, by omega, by omega, by omega, fun r' G' r0' r1' P2 b2 => ?_⟩
            refine q (.v r') _ G' (c + 1 + 1) rfl ⟨rfl, Nat.zero_le _, one_sz _, fun j hj => ?_⟩ (by omega) P2 (b1.trans b2)
            cases List.mem_singleton.mp hj
            exact ⟨r0', r1'⟩
          · exact ⟨c + 1, rfl, Nat.le_refl _, P1, b1⟩
        · exact ⟨c, rfl, Nat.le_succ _, hP, Pn.But.refl _ _⟩
      · rintro σ G ⟨c1, rfl, hc1, P1, b1⟩
        have hR1 := hR.mono (pen_tk hP b1)
        obtain ⟨rb, ry, rs, q1, q2, rows⟩ := hR1
        refine ⟨.ref ra, rfl, ra, _, 0, .ref rb, rfl, rfl, q1, atI_nat (j := 0) rfl, rb, rfl, ⟨rs, q2⟩, fun D nD => ?_⟩
        have lrs := rows.len
        obtain ⟨jc, rc, hjc, rc0⟩ := ok.const
        refine lc_tup (K := K) (a := rb) (xs := rs) (fun i G2 => ∃ acc, Same G G2 ∧ G2 D = some (.lst acc) ∧ (∀ v ∈ acc, ∃ r ∈ R, RowV K G r v ∧ (0 < deep ∨ r.2.1 = 0)) ∧ acc.length ≤ i ∧ (jc < i → acc ≠ [])) ⟨[], same_new (fun b o e => e) nD _, upd_same, (fun v hv => nomatch hv), Nat.le_refl _, fun z => absurd z (Nat.not_lt_zero _)⟩
          (fun i G2 _ ⟨acc, sm, _⟩ => (TK.same sm).sq q2) ?_ ?_
        · rintro i y G2 hy ⟨acc, sm, gD, mem, few, full⟩
          obtain ⟨r, hri, hrv⟩ := rows.get hy
          have hmem := List.mem_of_getElem? hri
          have hilt := (List.getElem?_eq_some_iff.mp hri).1
          have hfew := ok.few
          have yes : (0 < deep ∨ r.2.1 = 0) → ∃ acc', G2 D = some (.lst acc') ∧ acc'.length < sizeLine ∧ ∃ acc2, Same G (upd G2 D (.lst (acc' ++ [y]))) ∧ (upd G2 D (.lst (acc' ++ [y]))) D = some (.lst acc2) ∧ (∀ v ∈ acc2, ∃ r ∈ R, RowV K G r v ∧ (0 < deep ∨ r.2.1 = 0)) ∧ acc2.length ≤ i + 1 ∧ (jc < i + 1 → acc2 ≠ []) := by
            intro fit
            refine ⟨acc, gD, by rw [sizeLine_eq]; omega, _, same_on sm nD _, upd_same, fun v hv => ?_, ?_, fun _ => by simp⟩
            · rcases List.mem_append.mp hv with z | z
              · exact mem v z
              · cases List.mem_singleton.mp z
                exact ⟨r, hmem, hrv, fit⟩
            · rw [List.length_append, List.length_singleton]
              omega
          refine ⟨rfl, .int (deep : Int), rfl, _, _, rfl, rfl, _, rfl, ?_⟩
          refine ite2 (fun hpos => ?_) (fun hneg => ?_)
          · have hpos' : (0 : Int) < (deep : Int) := of_decide_eq_true hpos
            refine iteT ?_
            exact ⟨y, rfl, yes (.inl (by omega))⟩
          · obtain ⟨b, rfl, sqb⟩ := hrv
            refine ⟨.ref b, rfl, b, _, 1, .int (r.2.1 : Int), rfl, rfl, (TK.same sm).sq sqb, atI_nat (j := 1) rfl, rfl, _, rfl, ?_⟩
            by_cases z : r.2.1 = 0
            · have e : decide (V.int (r.2.1 : Int) = V.int 0) = true := by rw [z]; rfl
              rw [e]
              refine iteT ?_
              exact ⟨.ref b, rfl, yes (.inr z)⟩
            · have e : decide (V.int (r.2.1 : Int) = V.int 0) = false := by
                refine decide_eq_false fun w => z ?_
                have := V.int.inj w
                omega
              rw [e]
              refine iteF ?_
              refine ⟨acc, sm, gD, mem, Nat.le_succ_of_le few, fun lt => ?_⟩
              rcases Nat.lt_succ_iff_lt_or_eq.mp lt with w | w
              · exact full w
              · rw [← w, hjc] at hri
                cases hri
                exact absurd rc0 z
        · rintro G2 ⟨acc, sm, gD, mem, few, full⟩
          have hne : acc ≠ [] := full (by
            rw [lrs]
            exact (List.getElem?_eq_some_iff.mp hjc).1)
          have P2 := pen_same P1 sm
          have pD : D ≠ p := fun z => by
            obtain ⟨⟨_, _, _, e, _⟩, _⟩ := P1
            rw [z, e] at nD
            cases nD
          have d2 := two_dn deep
          have hfew := ok.few
          refine ⟨.ref p, rfl, .ref D, rfl, p, l, D, ns, c1, acc, rfl, P2, hlen, by omega, .inl (.inl (.inl gD)), hne, by omega, pD, fun x G3 hx P3 b3 => ?_⟩
          obtain ⟨r, hrR, ⟨b, rfl, sqb⟩, fit⟩ := mem x hx
          have k3 : TK G G3 := (TK.same sm).trans (pen_tk P2 b3)
          have hR3 := hR.mono ((pen_tk hP b1).trans k3)
          have b13 : Pn.But p H G3 := (b1.trans (Pn.But.of sm)).trans b3
          refine ⟨b, _, rfl, k3.sq sqb, rfl, .str r.1, _, rfl, .int (r.2.1 : Int), _, rfl, .int r.2.2, _, rfl, rfl, ?_⟩
          obtain ⟨strOk, ar3⟩ := ok.names r hrR
          refine ⟨.str r.1, rfl, (by show 1 ≤ sizeLine; decide), fun p4 n4 => ?_⟩
          have m4 : (upd G3 p4 (.tup [.str r.1])) p4 = some (.tup [.str r.1]) := upd_same
          have s4 : Same G3 (upd G3 p4 (.tup [.str r.1])) := same_new (fun b o e => e) n4 _
          have P4 := pen_same P3 s4
          have R4 := hR3.mono (TK.same s4)
          have b14 := b13.trans (Pn.But.of s4)
          generalize upd G3 p4 (.tup [.str r.1]) = G4 at m4 s4 P4 R4 b14
          refine ⟨.int (r.2.1 : Int), rfl, _, rfl, by omega, by omega, fun D2 nD2 => ?_⟩
          have pD2 : D2 ≠ p := fun z => by
            obtain ⟨⟨_, _, _, e, _⟩, _⟩ := P4
            rw [z, e] at nD2
            cases nD2
          have P4' := pen_same P4 (same_new (fun b o e => e) nD2 (.lst []))
          refine lc_range (lo := 0) (n := ((r.2.1 : Int)).toNat) (fun i G5 => ∃ (ts : List T) (acc : List V) (c5 : Nat), Pn.But p G4 G5 ∧ G5 D2 = some (.lst acc) ∧ Tms K G5 ts acc ∧ ts.length = i ∧ Pn.Pen G5 p l ns c5 ∧ c5 ≤ c1 + 1 + i * dn (deep - 1) ∧
            (∀ t ∈ ts, DT R (deep - 1) nv t)) ⟨[], [], c1 + 1, Pn.But.of (same_new (fun b o e => e) nD2 _), upd_same, rfl, rfl, P4', by omega, fun t ht => nomatch ht⟩ ?_ ?_
          · rintro i G5 hi ⟨ts, acc, c5, b5, gD, all, len, P5, hc5, dts⟩
            have hi' : i < r.2.1 := by omega
            have dpos : 0 < deep := by
              rcases fit with z | z
              · exact z
              · omega
            obtain ⟨d', rfl⟩ : ∃ d', deep = d' + 1 := ⟨deep - 1, by omega⟩
            have ed : d' + 1 - 1 = d' := Nat.add_sub_cancel ..
            rw [ed] at hc5 dts
            have hm : i * dn d' ≤ 2 * dn d' := Nat.mul_le_mul_right _ (by omega)
            have dd : dn (d' + 1) = 2 + 3 * dn d' := rfl
            have ez : (((d' + 1 : Nat)) : Int) - 1 = (d' : Int) := by omega
            have b45 := b14.trans b5
            refine ⟨rfl, .ref p, rfl, .ref ra, rfl, .int ((d' + 1 : Nat) : Int), rfl, _, _, rfl, rfl, .int nv, rfl, p, l, ra, ns, c5, d', nv, R, ?_, P5, hlen, by omega, hR.mono (pen_tk hP b45), ok, by omega, nv0, nv1, fun t v G6 c6 tv dt hc6 P6 b6 => ?_⟩
            · show [V.ref p, V.ref ra, V.int (((d' + 1 : Nat) : Int) - 1), V.int nv] = _
              rw [ez]
            · have g6 : G6 D2 = some (.lst acc) := b6 _ _ pD2 gD
              have k6 : TK G5 G6 := pen_tk P5 b6
              have kl : TK G6 (upd G6 D2 (.lst (acc ++ [v]))) := TK.lst g6 _
              have la := all.len
              refine ⟨acc, g6, by rw [sizeLine_eq]; omega, ts ++ [t], acc ++ [v], c6, ?_, upd_same, Tms.app (Tms.mono (k6.trans kl) _ _ all) (Tms.one (Tm.mono kl _ _ tv)), by rw [List.length_append, List.length_singleton, len], ?_, ?_, ?_⟩
              · intro b o nb e
                have e2 := b6 _ _ nb (b5 _ _ nb e)
                have nbD : b ≠ D2 := fun z => by rw [z, nD2] at e; cases e
                rw [upd_ne nbD]
                exact e2
              · obtain ⟨⟨a1, a2, a3, a4, a5⟩, a6⟩ := P6
                have lD : l ≠ D2 := fun z => by
                  have e := P4.ls
                  rw [z, nD2] at e
                  cases e
                exact ⟨⟨a1, a2, a3, by rw [upd_ne pD2.symm]; exact a4, a5⟩, by rw [upd_ne lD]; exact a6⟩
              · rw [ed, Nat.succ_mul]
                omega
              · intro t' ht'
                rw [ed]
                rcases List.mem_append.mp ht' with z | z
                · exact dts t' z
                · rw [List.mem_singleton.mp z]
                  exact dt
          · rintro G5 ⟨ts, acc, c5, b5, gD, all, len, P5, hc5, dts⟩
            have b45 := b14.trans b5
            have la := all.len
            have ar : ts.length = r.2.1 := by omega
            have n4p : p4 ≠ p := fun z => by
              obtain ⟨⟨_, _, _, e, _⟩, _⟩ := P3
              rw [z, e] at n4
              cases n4
            have m4' : G5 p4 = some (.tup [.str r.1]) := b5 _ _ n4p m4
            refine ⟨D2, acc, rfl, .inl ⟨.inl (.inl gD), fun p6 n6 => ?_⟩⟩
            have s6 : Same G5 (upd G5 p6 (.tup acc)) := same_new (fun b o e => e) n6 _
            have m6 : (upd G5 p6 (.tup acc)) p6 = some (.tup acc) := upd_same
            have P6 := pen_same P5 s6
            have b16 := b45.trans (Pn.But.of s6)
            have all6 := Tms.mono (TK.same s6) _ _ all
            have m4'' := s6 _ _ m4'
            generalize upd G5 p6 (.tup acc) = G6 at s6 m6 P6 b16 all6 m4''
            have dt : DT R deep nv (.f r.1 ts) ∧ c5 ≤ c + dn deep := by
              have named : ∀ us : List T, (∀ t ∈ us, t.named = true) → T.namedL us = true := by
                intro us
                induction us with
                | nil => intro _; rfl
                | cons u us ih =>
                  intro h
                  show (T.named u && T.namedL us) = true
                  rw [h u List.mem_cons_self, ih fun t ht => h t (List.mem_cons_of_mem _ ht)]
                  rfl
              have deps : ∀ (m : Nat) (us : List T), (∀ t ∈ us, t.dep ≤ m) → T.depL us ≤ m := by
                intro m us
                induction us with
                | nil => intro _; exact Nat.zero_le _
                | cons u us ih =>
                  intro h
                  have h1 := h u List.mem_cons_self
                  have h2 := ih fun t ht => h t (List.mem_cons_of_mem _ ht)
                  show max (T.dep u) (T.depL us) ≤ m
                  omega
              have sizes : ∀ (m : Nat) (us : List T), (∀ t ∈ us, t.size ≤ m) → T.sizeL us ≤ us.length * m := by
                intro m us
                induction us with
                | nil => intro _; exact Nat.zero_le _
                | cons u us ih =>
                  intro h
                  have h1 := h u List.mem_cons_self
                  have h2 := ih fun t ht => h t (List.mem_cons_of_mem _ ht)
                  show T.size u + T.sizeL us ≤ (us.length + 1) * m
                  rw [Nat.succ_mul]
                  omega
              have vars : ∀ us : List T, (∀ t ∈ us, ∀ j ∈ t.vars, 0 ≤ j ∧ j < nv) → ∀ j ∈ T.varsL us, 0 ≤ j ∧ j < nv := by
                intro us
                induction us with
                | nil => intro _ j hj; cases hj
                | cons u us ih =>
                  intro h j hj
                  rcases List.mem_append.mp (show j ∈ T.vars u ++ T.varsL us from hj) with z | z
                  · exact h u List.mem_cons_self j z
                  · exact ih (fun t ht => h t (List.mem_cons_of_mem _ ht)) j z
              have hs := sizes (sz (deep - 1)) ts fun t ht => (dts t ht).size
              have hv := vars ts fun t ht => (dts t ht).vars
              have hn := named ts fun t ht => (dts t ht).named
              have hd := deps (deep - 1 + 1) ts fun t ht => (dts t ht).dep
              cases deep with
              | zero =>
                have z : r.2.1 = 0 := by
                  rcases fit with y | y
                  · exact absurd y (Nat.lt_irrefl _)
                  · exact y
                have e : ts = [] := List.length_eq_zero_iff.mp (by omega)
                subst e
                have z2 : ((r.2.1 : Int)).toNat = 0 := by omega
                rw [z2] at hc5
                refine ⟨⟨?_, Nat.le_refl _, Nat.le_refl _, fun j hj => nomatch hj⟩, ?_⟩
                · show (PyData.strOk r.1 && true) = true
                  rw [strOk]
                  rfl
                · show c5 ≤ c + 2
                  omega
              | succ d' =>
                have ed : d' + 1 - 1 = d' := Nat.add_sub_cancel ..
                rw [ed] at hs hd hc5
                have hm : ts.length * sz d' ≤ 3 * sz d' := Nat.mul_le_mul_right _ (by omega)
                have hm2 : ((r.2.1 : Int)).toNat * dn d' ≤ 3 * dn d' := Nat.mul_le_mul_right _ (by omega)
                refine ⟨⟨?_, ?_, ?_, hv⟩, ?_⟩
                · show (PyData.strOk r.1 && T.namedL ts) = true
                  rw [strOk, hn]
                  rfl
                · show 1 + T.depL ts ≤ d' + 1 + 1
                  omega
                · show 1 + T.sizeL ts ≤ 1 + 3 * sz d'
                  omega
                · show c5 ≤ c + (2 + 3 * dn d')
                  omega
            refine ⟨p4, p6, _, _, rfl, rfl, .inl (.inl m4''), .inl (.inl m6), by simp, by rw [List.length_singleton, sizeLine_eq]; omega, fun e => ?_, fun e p7 n7 => ?_⟩
            · refine q (.f r.1 ts) _ G6 c5 ⟨p4, acc, rfl, ?_, all6⟩ dt.1 dt.2 P6 b16
              rw [e]
              exact .inl (.inl m4'')
            · have s7 : Same G6 (upd G6 p7 (.tup ([.str r.1] ++ acc))) := same_new (fun b o e => e) n7 _
              exact q (.f r.1 ts) _ _ c5 ⟨p7, acc, rfl, .inl (.inl upd_same), Tms.mono (TK.same s7) _ _ all6⟩ dt.1 dt.2 (pen_same P6 s7) (b16.trans (Pn.But.of s7))
end
end Ad

/-! The law. -/
namespace Ad
open PySem PySem.Spec PySem.Calls PyProof.Rows L2 GxR
abbrev sLaw : Stmt := topS 20
theorem scLaw : FnScope ["_law_script", "_law_pen_here", "_law_rows", "_law_lap", "_law_term", "_law_new", "_law_paths_here", "_law_path", "_law_told"] ["_law_script"] (defScope sLaw) := ⟨rfl, rfl, rfl, by decide +kernel, rfl, by decide +kernel, by decide +kernel⟩
/-- a def of the top, with its promise -/
structure Has (P : Program) (w : World) (K : PySem.W.Frag) (mg : Str → Option Value) (base : Heap) (k : Nat) (x : Str) (ps : List Str) (sp : Sp) (f : Addr) (fd : FuncData) : Prop where
  G : FnOk P w K mg base CX0 k f fd ps sp
  g : mg x = some (.ref f)
  kp : PySem.W.keepIn K (.ref f) = true
  b : Binds K fd ps []
structure HasG (P : Program) (w : World) (K : PySem.W.Frag) (mg : Str → Option Value) (base : Heap) (k : Nat) (x : Str) (ps : List Str) (sp : Sp) (f : Addr) (fd : FuncData) : Prop where
  G : FnG P w K mg base CX0 k f fd ps sp
  g : mg x = some (.ref f)
  kp : PySem.W.keepIn K (.ref f) = true
  b : Binds K fd ps []
def rows5 : List Row := [("a", 0, 1), ("f", 1, 1), ("g", 2, 1), ("h", 3, 1), ("b", 0, 1)]
section
variable {P : Program} {w : World} {K : PySem.W.Frag} {mg : Str → Option Value} {base : Heap}
def spLaw (K : PySem.W.Frag) (Pt : Addr) : Sp := fun vs H Q _ => ∃ (a : Addr) (ns : List Int), vs = [.ref a] ∧ SqL K H a (ns.map V.int) ∧ ns.length ≤ 63 ∧ TabG H Pt ∧ ∀ H', Q (.bl true) H'
end
end Ad

/-! What holds of terms, paths and their texts. -/
namespace Ad
open PySem PySem.Spec PySem.Calls PyProof.Rows L2
namespace T
theorem sub_f {j : Nat} {p : List Int} {x : Str} {ts : List T} {y u : T} (h : ts[j]? = some y) (e : sub p y = some u) : sub ((j : Int) :: p) (.f x ts) = some u := by
  show (if 0 ≤ (j : Int) then (match ts[((j : Int)).toNat]? with | some u => sub p u | none => none) else none) = _
  rw [if_pos (by omega), Int.toNat_natCast, h]
  exact e
theorem put_f {new : T} {j : Nat} {p : List Int} {x : Str} {ts : List T} {y z : T} (h : ts[j]? = some y) (e : put new p y = some z) : put new ((j : Int) :: p) (.f x ts) = some (.f x (ts.set j z)) := by
  show (if 0 ≤ (j : Int) then (match ts[((j : Int)).toNat]? with | some u => (match put new p u with | some r => some (T.f x (ts.set ((j : Int)).toNat r)) | none => none) | none => none) else none) = _
  rw [if_pos (by omega), Int.toNat_natCast, h]
  show (match put new p y with | some r => some (T.f x (ts.set j r)) | none => none) = _
  rw [e]
mutual
/-- at each path something stands -/
theorem paths_sub : ∀ (t : T) (p : List Int), p ∈ t.paths → ∃ u, sub p t = some u
  | .v i, p, h => by
    cases List.mem_singleton.mp h
    exact ⟨_, rfl⟩
  | .f x ts, p, h => by
    rcases List.mem_cons.mp h with e | e
    · subst e
      exact ⟨_, rfl⟩
    · obtain ⟨j, p', y, u, e1, e2, e3⟩ := pathsL_sub 0 ts p e
      subst e1
      refine ⟨u, ?_⟩
      rw [Nat.zero_add]
      exact sub_f e2 e3
theorem pathsL_sub (k : Nat) : ∀ (ts : List T) (p : List Int), p ∈ pathsL k ts → ∃ (j : Nat) (p' : List Int) (y u : T), p = ((k + j : Nat) : Int) :: p' ∧ ts[j]? = some y ∧ sub p' y = some u
  | [], p, h => by cases h
  | t :: ts, p, h => by
    rcases List.mem_append.mp h with e | e
    · obtain ⟨q, hq, rfl⟩ := List.mem_map.mp e
      obtain ⟨u, hu⟩ := paths_sub t q hq
      exact ⟨0, q, t, u, rfl, rfl, hu⟩
    · obtain ⟨j, p', y, u, e1, e2, e3⟩ := pathsL_sub (k + 1) ts p e
      refine ⟨j + 1, p', y, u, ?_, e2, e3⟩
      rw [e1]
      congr 2
      omega
end
/-- what stands at a path is no larger -/
theorem sub_small : ∀ {p : List Int} {t u : T}, sub p t = some u → (t.named = true → u.named = true) ∧ u.dep ≤ t.dep ∧ u.size ≤ t.size
  | [], t, u, h => by
    cases (show some t = some u from h)
    exact ⟨id, Nat.le_refl _, Nat.le_refl _⟩
  | k :: p, t, u, h => by
    obtain ⟨j, x, ts, y, rfl, rfl, e1, e2⟩ := sub_cons h
    obtain ⟨h1, h2, h3⟩ := sub_small e2
    have m := List.mem_of_getElem? e1
    have d1 := dep_mem m
    have d2 := size_mem m
    refine ⟨fun n => h1 (named_mem m ?_), ?_, ?_⟩
    · have n' : (PyData.strOk x && namedL ts) = true := n
      rw [Bool.and_eq_true] at n'
      exact n'.2
    · show u.dep ≤ 1 + depL ts
      omega
    · show u.size ≤ 1 + sizeL ts
      omega
theorem depL_set : ∀ {ts : List T} {j : Nat} {y z : T}, ts[j]? = some y → ∀ m, depL ts ≤ m → z.dep ≤ m → depL (ts.set j z) ≤ m
  | [], j, y, z, h, m, _, _ => by cases h
  | t :: ts, 0, y, z, h, m, h1, h2 => by
    show max (dep z) (depL ts) ≤ m
    have h1' : max (dep t) (depL ts) ≤ m := h1
    omega
  | t :: ts, j + 1, y, z, h, m, h1, h2 => by
    have h1' : max (dep t) (depL ts) ≤ m := h1
    have := depL_set (ts := ts) (j := j) (y := y) (z := z) h m (by omega) h2
    show max (dep t) (depL (ts.set j z)) ≤ m
    omega
theorem sizeL_set : ∀ {ts : List T} {j : Nat} {y z : T}, ts[j]? = some y → sizeL (ts.set j z) + y.size = sizeL ts + z.size
  | [], j, y, z, h => by cases h
  | t :: ts, 0, y, z, h => by
    cases h
    show size z + sizeL ts + size t = size t + sizeL ts + size z
    omega
  | t :: ts, j + 1, y, z, h => by
    have := sizeL_set (ts := ts) (j := j) (y := y) (z := z) h
    show size t + sizeL (ts.set j z) + y.size = size t + sizeL ts + z.size
    omega
theorem namedL_set : ∀ {ts : List T} {j : Nat} {z : T}, namedL ts = true → z.named = true → namedL (ts.set j z) = true
  | [], j, z, _, _ => rfl
  | t :: ts, 0, z, h, hz => by
    have h' : (named t && namedL ts) = true := h
    rw [Bool.and_eq_true] at h'
    show (named z && namedL ts) = true
    rw [hz, h'.2]
    rfl
  | t :: ts, j + 1, z, h, hz => by
    have h' : (named t && namedL ts) = true := h
    rw [Bool.and_eq_true] at h'
    show (named t && namedL (ts.set j z)) = true
    rw [h'.1, namedL_set h'.2 hz]
    rfl
/-- what is put at a path stands there, and what stood there can be put back -/
theorem put_sub (new : T) : ∀ {p : List Int} {t u : T}, sub p t = some u → ∃ r, put new p t = some r ∧ sub p r = some new ∧ put u p r = some t ∧ r.size ≤ t.size + new.size ∧ r.dep ≤ t.dep + new.dep ∧ (t.named = true → new.named = true → r.named = true)
  | [], t, u, h => by
    cases (show some t = some u from h)
    exact ⟨new, rfl, rfl, rfl, Nat.le_add_left _ _, Nat.le_add_left _ _, fun _ n => n⟩
  | k :: p, t, u, h => by
    obtain ⟨j, x, ts, y, rfl, rfl, e1, e2⟩ := sub_cons h
    obtain ⟨r, h1, h2, h3, h4, h5, h6⟩ := put_sub new e2
    have hj := (List.getElem?_eq_some_iff.mp e1).1
    have at' : (ts.set j r)[j]? = some r := by
      rw [List.getElem?_set_self hj]
    have m := List.mem_of_getElem? e1
    have d1 := dep_mem m
    have d2 := size_mem m
    refine ⟨.f x (ts.set j r), put_f e1 h1, sub_f at' h2, ?_, ?_, ?_, ?_⟩
    · rw [put_f at' h3, List.set_set]
      congr 2
      refine List.ext_getElem? fun i => ?_
      by_cases e : j = i
      · subst e
        rw [List.getElem?_set_self hj, e1]
      · rw [List.getElem?_set_ne e]
    · have := sizeL_set (z := r) e1
      show 1 + sizeL (ts.set j r) ≤ 1 + sizeL ts + new.size
      omega
    · have := depL_set (z := r) e1 (depL ts + new.dep) (by omega) (by omega)
      show 1 + depL (ts.set j r) ≤ 1 + depL ts + new.dep
      omega
    · intro n nn
      have n' : (PyData.strOk x && namedL ts) = true := n
      rw [Bool.and_eq_true] at n'
      show (PyData.strOk x && namedL (ts.set j r)) = true
      rw [n'.1, namedL_set n'.2 (h6 (named_mem m n'.2) nn)]
      rfl
mutual
/-- the steps of a path are small -/
theorem paths_small : ∀ (t : T) (p : List Int), p ∈ t.paths → ∀ k ∈ p, 0 ≤ k ∧ k < t.size
  | .v i, p, h, k, hk => by
    cases List.mem_singleton.mp h
    cases hk
  | .f x ts, p, h, k, hk => by
    have e0 : size (.f x ts) = 1 + sizeL ts := rfl
    rcases List.mem_cons.mp h with e | e
    · rw [e] at hk
      cases hk
    · have := pathsL_small 0 ts p e k hk
      have l := len_sizeL ts
      omega
theorem pathsL_small (n : Nat) : ∀ (ts : List T) (p : List Int), p ∈ pathsL n ts → ∀ k ∈ p, 0 ≤ k ∧ k < n + sizeL ts
  | [], p, h, k, hk => by cases h
  | t :: ts, p, h, k, hk => by
    have s1 := size_pos t
    have e0 : sizeL (t :: ts) = size t + sizeL ts := rfl
    rcases List.mem_append.mp h with e | e
    · obtain ⟨q, hq, rfl⟩ := List.mem_map.mp e
      rcases List.mem_cons.mp hk with z | z
      · omega
      · have := paths_small t q hq k z
        omega
    · have := pathsL_small (n + 1) ts p e k hk
      omega
end
end T
/-- two rising lists of the same numbers are one -/
theorem rising_one : ∀ {as bs : List Int}, as.Pairwise (· < ·) → bs.Pairwise (· < ·) → (∀ j, j ∈ as ↔ j ∈ bs) → as = bs
  | [], [], _, _, _ => rfl
  | [], b :: bs, _, _, h => nomatch (h b).2 List.mem_cons_self
  | a :: as, [], _, _, h => nomatch (h a).1 List.mem_cons_self
  | a :: as, b :: bs, pa, pb, h => by
    obtain ⟨a1, a2⟩ := List.pairwise_cons.mp pa
    obtain ⟨b1, b2⟩ := List.pairwise_cons.mp pb
    have e : a = b := by
      rcases List.mem_cons.mp ((h a).1 List.mem_cons_self) with z | z
      · exact z
      · rcases List.mem_cons.mp ((h b).2 List.mem_cons_self) with y | y
        · exact y.symm
        · have h1 := b1 a z
          have h2 := a1 b y
          omega
    subst e
    congr 1
    refine rising_one a2 b2 fun j => ⟨fun m => ?_, fun m => ?_⟩
    · rcases List.mem_cons.mp ((h j).1 (List.mem_cons_of_mem _ m)) with z | z
      · have := a1 j m
        omega
      · exact z
    · rcases List.mem_cons.mp ((h j).2 (List.mem_cons_of_mem _ m)) with z | z
      · have := b1 j m
        omega
      · exact z
/-! ### texts -/
theorem piled_all : ∀ {ts : List Str} {m : Nat}, (∀ t ∈ ts, t.length ≤ m) → piled ts ≤ ts.length * (m + 2)
  | [], _, _ => Nat.zero_le _
  | t :: ts, m, h => by
    have h1 := h t List.mem_cons_self
    have h2 := piled_all fun u hu => h u (List.mem_cons_of_mem _ hu)
    rw [piled_cons, List.length_cons, Nat.succ_mul]
    omega
theorem tuple_len {ts : List Str} {m : Nat} (h : ∀ t ∈ ts, t.length ≤ m) : (tupleText ts).length ≤ 3 + ts.length * (m + 2) := by
  have h1 := piled_all h
  unfold tupleText
  rw [strLen_append, strLen_append]
  have e1 : ((("(" : String) : Str)).length = 1 := rfl
  have e3 : (((if ts.length == 1 then ",)" else ")" : String) : Str)).length ≤ 2 := by split <;> decide
  rw [e1]
  by_cases z : ts = []
  · subst z
    have e4 : (Str.join ", " ([] : List Str)).length = 0 := rfl
    rw [e4]
    omega
  · have h2 := join_length_add ts z
    omega
theorem small_text (i : Nat) (h : i < 64) : (toString (i : Int) : Str).length ≤ 2 ∧ ((i : Int)).natAbs.log2 < 1920 := by
  have all : ∀ j : Fin 64, (toString ((j.val : Nat) : Int) : Str).length ≤ 2 ∧ (((j.val : Nat) : Int)).natAbs.log2 < 1920 := by decide +kernel
  exact all ⟨i, h⟩
theorem shownAll_map : ∀ ds : List PyData, PyData.shownAll ds = ds.map PyData.shown
  | [] => rfl
  | d :: ds => congrArg (PyData.shown d :: ·) (shownAll_map ds)
theorem showable_map : ∀ {ds : List PyData}, (∀ d ∈ ds, d.showable = true) → PyData.showableAll ds = true
  | [], _ => rfl
  | d :: ds, h => by
    show (PyData.showable d && PyData.showableAll ds) = true
    rw [h d List.mem_cons_self, showable_map fun e he => h e (List.mem_cons_of_mem _ he)]
    rfl
/-- a path's text -/
theorem path_text {p : List Int} (h : ∀ k ∈ p, 0 ≤ k ∧ k < 64) : (iD p).showable = true ∧ (iD p).shown.length ≤ 3 + p.length * 4 := by
  have each : ∀ d ∈ p.map PyData.int, d.showable = true ∧ d.shown.length ≤ 2 := by
    intro d hd
    obtain ⟨k, hk, rfl⟩ := List.mem_map.mp hd
    obtain ⟨k0, k1⟩ := h k hk
    obtain ⟨s1, s2⟩ := small_text k.toNat (by omega)
    have e : ((k.toNat : Nat) : Int) = k := by omega
    rw [e] at s1 s2
    exact ⟨decide_eq_true s2, s1⟩
  constructor
  · exact showable_map fun d hd => (each d hd).1
  · show (tupleText (PyData.shownAll (p.map .int))).length ≤ _
    rw [shownAll_map]
    have l := tuple_len (ts := (p.map PyData.int).map PyData.shown) (m := 2) fun t ht => by
      obtain ⟨d, hd, rfl⟩ := List.mem_map.mp ht
      exact (each d hd).2
    rw [List.length_map, List.length_map] at l
    exact l
def psD (ps : List (List Int)) : PyData := .tuple (ps.map iD)
theorem iD_depth (p : List Int) : (iD p).depth = 1 := by
  show PyData.depthAll (p.map .int) + 1 = 1
  rw [int_depth]
theorem psD_depth (ps : List (List Int)) : (psD ps).depth ≤ 2 := by
  show PyData.depthAll (ps.map iD) + 1 ≤ 2
  have : PyData.depthAll (ps.map iD) ≤ 1 := by
    induction ps with
    | nil => exact Nat.zero_le _
    | cons p ps ih =>
      show max (PyData.depth (iD p)) (PyData.depthAll (ps.map iD)) ≤ 1
      rw [iD_depth]
      omega
  omega
theorem psD_lay (ps : List (List Int)) : (psD ps).canLay0 = true := by
  show PyData.canLayAll0 (ps.map iD) = true
  induction ps with
  | nil => rfl
  | cons p ps ih =>
    show (PyData.canLay0 (iD p) && PyData.canLayAll0 (ps.map iD)) = true
    have : PyData.canLay0 (iD p) = true := int_lay p
    rw [this, ih]
    rfl
theorem paths_text {t : T} (h : t.size ≤ 60) : (psD t.paths).showable = true ∧ (psD t.paths).hasDict = false ∧ (psD t.paths).depth ≤ 60 ∧ (psD t.paths).shown.length ≤ sizeLine := by
  have each : ∀ p ∈ t.paths, (iD p).showable = true ∧ (iD p).shown.length ≤ 3 + 60 * 4 := by
    intro p hp
    obtain ⟨h1, h2⟩ := path_text (p := p) fun k hk => by
      have := T.paths_small t p hp k hk
      omega
    have l := T.paths_dep t p hp
    have l2 := T.dep_size t
    exact ⟨h1, by omega⟩
  refine ⟨?_, PyData.hasDict_of_canLay _ (psD_lay _), Nat.le_trans (psD_depth _) (by decide), ?_⟩
  · refine showable_map fun d hd => ?_
    obtain ⟨p, hp, rfl⟩ := List.mem_map.mp hd
    exact (each p hp).1
  · show (tupleText (PyData.shownAll (t.paths.map iD))).length ≤ _
    rw [shownAll_map]
    have l := tuple_len (ts := (t.paths.map iD).map PyData.shown) (m := 3 + 60 * 4) fun u hu => by
      obtain ⟨d, hd, rfl⟩ := List.mem_map.mp hu
      obtain ⟨p, hp, rfl⟩ := List.mem_map.mp hd
      exact (each p hp).2
    rw [List.length_map, List.length_map, T.paths_len] at l
    have m : t.size * (3 + 60 * 4 + 2) ≤ 60 * (3 + 60 * 4 + 2) := Nat.mul_le_mul_right _ h
    rw [sizeLine_eq]
    omega
theorem pv_dp {K : PySem.W.Frag} {H : Hp} : ∀ {ps : List (List Int)} {us : List V}, F2 (PV K H) ps us → DpAll K H us (ps.map iD)
  | [], us, h => by
    cases (show us = [] from h)
    exact .nil
  | p :: ps, us, h => by
    obtain ⟨u, vs, rfl, ⟨a, rfl, s⟩, r⟩ := h
    exact .cons (iD_dp s) (pv_dp r)
theorem psD_dp {K : PySem.W.Frag} {H : Hp} {a : Addr} {ps : List (List Int)} {us : List V} (h : SqT K H a us) (f : F2 (PV K H) ps us) : Dp K H (.ref a) (psD ps) := .tup h (pv_dp f)
theorem eqv_one {d : PyData} (h : SeqAt.shaped d = true) : PyData.eqv d d = true := SeqAt.eqv_refl d (SeqAt.canLay_of_shaped h)
end Ad

/-! The law keeps its word. -/
namespace Ad
open PySem PySem.Spec PySem.Calls PyProof.Rows L2 GxR
theorem iteNE {b : Bool} {A B : Prop} (hb : b = true) (h : B) : if (!b) = true then A else B := by
  rw [hb]
  exact iteF h
theorem iteE {b : Bool} {A B : Prop} (hb : b = true) (h : A) : if b = true then A else B := by
  rw [hb]
  exact iteT h
theorem pen_but {G G' : Hp} {Pt p l : Addr} {ns : List Int} {c : Nat} (tab : TabG G Pt) (b : ∀ q o, q ≠ Pt → G q = some o → G' q = some o) (h : Pn.Pen G p l ns c) : Pn.Pen G' p l ns c := by
  obtain ⟨ps, e, _⟩ := tab
  obtain ⟨⟨a1, a2, a3, a4, a5⟩, a6⟩ := h
  have np : p ≠ Pt := fun z => by
    rw [z, e] at a4
    cases a4
  have nl : l ≠ Pt := fun z => by
    rw [z, e] at a6
    cases a6
  exact ⟨⟨a1, a2, a3, b _ _ np a4, a5⟩, b _ _ nl a6⟩
/-- what a lap of the law knows -/
structure Ws (K : PySem.W.Frag) (Pt p l ra d : Addr) (ns : List Int) (c : Nat) (t t2 : T) (x y : V) (us : List V) (G : Hp) : Prop where
  pen : Pn.Pen G p l ns c
  rows : RowsAt K G ra rows5
  tab : TabG G Pt
  tx : Tm K G t x
  ty : Tm K G t2 y
  lst : G d = some (.lst us)
  ps : F2 (PV K G) t.paths us
section
variable {K : PySem.W.Frag} {Pt p l ra d : Addr} {ns : List Int} {c : Nat} {t t2 : T} {x y : V} {us : List V} {G G' : Hp}
theorem Ws.same (h : Ws K Pt p l ra d ns c t t2 x y us G) (s : Same G G') : Ws K Pt p l ra d ns c t t2 x y us G' := by
  have k := TK.same s
  exact ⟨pen_same h.pen s, h.rows.mono k, tab_same s h.tab, Tm.mono k _ _ h.tx, Tm.mono k _ _ h.ty, s _ _ h.lst, h.ps.mono (PV.mono k)⟩
theorem Ws.new (h : Ws K Pt p l ra d ns c t t2 x y us G) {q : Addr} (n : G q = none) (o : HO) : Ws K Pt p l ra d ns c t t2 x y us (upd G q o) := h.same (same_new (fun b o e => e) n _)
theorem Ws.but (h : Ws K Pt p l ra d ns c t t2 x y us G) (b : ∀ q o, q ≠ Pt → G q = some o → G' q = some o) (tab : TabG G' Pt) : Ws K Pt p l ra d ns c t t2 x y us G' := by
  have k := tab_tk h.tab b
  have nd : d ≠ Pt := fun z => by
    obtain ⟨ps, e, _⟩ := h.tab
    have e2 := h.lst
    rw [z, e] at e2
    cases e2
  exact ⟨pen_but h.tab b h.pen, h.rows.mono k, tab, Tm.mono k _ _ h.tx, Tm.mono k _ _ h.ty, b _ _ nd h.lst, h.ps.mono (PV.mono k)⟩
end
theorem rows5_ok : ROk rows5 := by
  refine ⟨?_, ⟨0, ("a", 0, 1), rfl, rfl⟩, by decide⟩
  have h : (rows5.all fun r => PyData.strOk r.1 && decide (r.2.1 ≤ 3)) = true := by decide +kernel
  intro r hr
  have z := List.all_eq_true.mp h r hr
  rw [Bool.and_eq_true] at z
  exact ⟨z.1, of_decide_eq_true z.2⟩
section
variable {P : Program} {w : World} {K : PySem.W.Frag} {mg : Str → Option Value} {base : Heap}
theorem ok_law {f Pt : Addr} {fd : FuncData} {k : Nat} (F : Fun K "law" "law" sLaw f fd)
    {f1 f2 f3 f4 f5 f6 f7 f8 f9 fa fb fc fe : Addr} {d1 d2 d3 d4 d5 d6 d7 d8 d9 da db dc de : FuncData}
    (hPen : Has P w K mg base k "_law_pen" ["_law_script"] (Pn.spPen K) f1 d1) (hDraw : Has P w K mg base k "_law_draw" ["_law_pen_here", "_law_many"] Pn.spDraw f2 d2)
    (hDrawn : Has P w K mg base k "_law_drawn_term" ["_law_pen_here", "_law_rows", "_law_deep", "_law_variables"] (spDrawn K 4) f3 d3)
    (hLPaths : Has P w K mg base k "_law_paths" ["_law_term"] (spLPaths K 6) f4 d4) (hSize : Has P w K mg base k "size" ["term"] (spSize K) f5 d5) (hLSize : Has P w K mg base k "_law_size" ["_law_term"] (spLSize K 6) f6 d6)
    (hVars : Has P w K mg base k "variables_of" ["term"] (spVars K) f7 d7) (hLVars : Has P w K mg base k "_law_vars" ["_law_term"] (spLVars K 6) f8 d8) (hPaths : HasG P w K mg base k "paths_of" ["term"] (spPaths K Pt) f9 d9)
    (hPut : Has P w K mg base k "put_at" ["term", "path", "new"] (spPut K 6) fa da) (hAt : Has P w K mg base k "at" ["term", "path"] (spAt K) fb db) (hLAt : Has P w K mg base k "_law_at" ["_law_term", "_law_path"] (spAt K) fc dc)
    (hLPut : Has P w K mg base k "_law_put_there" ["_law_term", "_law_path", "_law_new"] (spPut K 6) fe de)
    (mr : mg "range" = none) (mt : mg "tuple" = none) (ms : mg "sorted" = none) (mS : mg "set" = none) (mR : mg "repr" = none) : FnG P w K mg base CX0 (k + 1) f fd ["_law_script"] (spLaw K Pt) := by
  refine fng_of F scLaw (fun vs H Q E h => ?_) (fun cdv A outer s H vs Q E gd hr h => ?_)
  · obtain ⟨a, ns, rfl, _⟩ := h
    rfl
  · obtain ⟨a, ns, rfl, hS, few, tab, q⟩ := h
    have gd' : (A.deeper (envOfC "law" (defScope sLaw) s.heap.objs.size f cdv)).guards = some [] := deeper_guards gd
    have hu := hu64 hr
    refine ⟨_, PSs.nox (pss_cons (ps_set (i := 1) scLaw.nd rfl (.inl rfl) (pe_call hPen.G hr (by rfl) hPen.g hPen.kp hPen.b .nil pass0 (pa_cons (pv 0) pa_nil)))
      (pss_cons (ps_set (i := 2) scLaw.nd rfl (.inl rfl) (pe_tup (pa_cons (pe_tup (pa_cons (pe_tup (pa_cons pe_str (pa_cons pe_int (pa_cons pe_int pa_nil)))) (pa_cons (pe_tup (pa_cons pe_str (pa_cons pe_int (pa_cons pe_int pa_nil)))) (pa_cons (pe_tup (pa_cons pe_str (pa_cons pe_int (pa_cons pe_int pa_nil)))) (pa_cons (pe_tup (pa_cons pe_str (pa_cons pe_int (pa_cons pe_int pa_nil)))) (pa_cons (pe_tup (pa_cons pe_str (pa_cons pe_int (pa_cons pe_int pa_nil)))) pa_nil)))))) (pa_cons (pe_tup pa_nil) pa_nil))))
      (pss_cons (ps_for PassesOwn.never rfl (pi_range1 (by rfl) mr (pa_cons pe_int pa_nil)) (pg_name (i := 3) scLaw.nd rfl (.inl rfl))
        (pss_cons (ps_par (i := 4) (j := 5) (by rfl) scLaw.nd rfl rfl (by decide) rfl rfl (pa_cons (pe_call hDrawn.G hr (by rfl) hDrawn.g hDrawn.kp hDrawn.b .nil pass0 (pa_cons (pv 1) (pa_cons (pv 2) (pa_cons pe_int (pa_cons (pe_call hDraw.G hr (by rfl) hDraw.g hDraw.kp hDraw.b .nil pass0 (pa_cons (pv 1) (pa_cons pe_int pa_nil))) pa_nil)))))
            (pa_cons (pe_call hDrawn.G hr (by rfl) hDrawn.g hDrawn.kp hDrawn.b .nil pass0 (pa_cons (pv 1) (pa_cons (pv 2) (pa_cons pe_int (pa_cons pe_int pa_nil))))) pa_nil)) (by rfl))
        (pss_cons (ps_set (i := 6) scLaw.nd rfl (.inl rfl) (pe_call hLPaths.G hr (by rfl) hLPaths.g hLPaths.kp hLPaths.b .nil pass0 (pa_cons (pv 4) pa_nil)))
        (pss_cons (ps_if (pw_or (pt_cmpR op_ne (pe_call hSize.G hr (by rfl) hSize.g hSize.kp hSize.b .nil pass0 (pa_cons (pv 4) pa_nil)) (pe_call hLSize.G hr (by rfl) hLSize.g hLSize.kp hLSize.b .nil pass0 (pa_cons (pv 4) pa_nil)) (nomark _))
            (pw_or1 (pt_cmpR (op_neD hu) (pe_call hVars.G hr (by rfl) hVars.g hVars.kp hVars.b .nil pass0 (pa_cons (pv 4) pa_nil))
              (pe_callTy call_tuple_of (by rfl) mt (by decide +kernel) (pa_cons (pe_callB (cr_sortedSet rfl) (by rfl) ms (by decide +kernel) (pa_cons (pe_callTy (call_setL rfl) (by rfl) mS (by decide +kernel) (pa_cons (pe_call hLVars.G hr (by rfl) hLVars.g hLVars.kp hLVars.b .nil pass0 (pa_cons (pv 4) pa_nil)) pa_nil)) pa_nil)) pa_nil)) (nomark _)))).pt
          (pss_one (ps_ret pe_bl)) pss_nil)
        (pss_cons (ps_if (pt_cmpR op_ne (pe_callB (call_reprD gd' hu) (by rfl) mR (by decide +kernel) (pa_cons (pe_callG hPaths.G gd' hr (by rfl) hPaths.g hPaths.kp hPaths.b pass0 (pa_cons (pv 4) pa_nil)) pa_nil))
            (pe_callB (call_reprD gd' hu) (by rfl) mR (by decide +kernel) (pa_cons (pe_callTy call_tuple_of (by rfl) mt (by decide +kernel) (pa_cons (pv 6) pa_nil)) pa_nil)) (nomark _)) (pss_one (ps_ret pe_bl)) pss_nil)
        (pss_one (ps_for PassesOwn.never rfl (pi_list (pe_slice sl_list (pv 6) po_none (po_some pe_int))) (pg_name (i := 7) scLaw.nd rfl (.inl rfl))
          (pss_cons (ps_set (i := 8) scLaw.nd rfl (.inl rfl) (pe_call hPut.G hr (by rfl) hPut.g hPut.kp hPut.b .nil pass0 (pa_cons (pv 4) (pa_cons (pv 7) (pa_cons (pv 5) pa_nil)))))
          (pss_cons (ps_if (pw_or (pt_cmpR (op_neD hu) (pe_call hAt.G hr (by rfl) hAt.g hAt.kp hAt.b .nil pass0 (pa_cons (pv 4) (pa_cons (pv 7) pa_nil))) (pe_call hLAt.G hr (by rfl) hLAt.g hLAt.kp hLAt.b .nil pass0 (pa_cons (pv 4) (pa_cons (pv 7) pa_nil))) (nomark _))
              (pw_or1 (pt_cmpR (op_neD hu) (pv 8) (pe_call hLPut.G hr (by rfl) hLPut.g hLPut.kp hLPut.b .nil pass0 (pa_cons (pv 4) (pa_cons (pv 7) (pa_cons (pv 5) pa_nil)))) (nomark _)))).pt (pss_one (ps_ret pe_bl)) pss_nil)
          (pss_one (ps_if (pw_or (pt_cmpR (op_neD hu) (pe_call hAt.G hr (by rfl) hAt.g hAt.kp hAt.b .nil pass0 (pa_cons (pv 8) (pa_cons (pv 7) pa_nil))) (pv 5) (nomark _))
              (pw_or1 (pt_cmpR (op_neD hu) (pe_call hPut.G hr (by rfl) hPut.g hPut.kp hPut.b .nil pass0 (pa_cons (pv 8) (pa_cons (pv 7) (pa_cons (pe_call hAt.G hr (by rfl) hAt.g hAt.kp hAt.b .nil pass0 (pa_cons (pv 4) (pa_cons (pv 7) pa_nil))) pa_nil)))) (pv 4) (nomark _)))).pt (pss_one (ps_ret pe_bl)) pss_nil)))))))))))
      (pss_one (ps_ret (pe_cmpR (op_eqD hu) (pe_lst (pa_cons (pe_call hSize.G hr (by rfl) hSize.g hSize.kp hSize.b .nil pass0 (pa_cons pe_int pa_nil)) (pa_cons (pe_call hVars.G hr (by rfl) hVars.g hVars.kp hVars.b .nil pass0 (pa_cons pe_int pa_nil)) (pa_cons (pe_callG hPaths.G gd' hr (by rfl) hPaths.g hPaths.kp hPaths.b pass0 (pa_cons pe_int pa_nil))
          (pa_cons (pe_call hAt.G hr (by rfl) hAt.g hAt.kp hAt.b .nil pass0 (pa_cons (pe_tup (pa_cons pe_str (pa_cons pe_int pa_nil))) (pa_cons (pe_tup pa_nil) pa_nil))) pa_nil)))))
        (pe_lst (pa_cons pe_int (pa_cons (pe_tup (pa_cons pe_int pa_nil)) (pa_cons (pe_tup (pa_cons (pe_tup pa_nil) pa_nil)) (pa_cons (pe_tup (pa_cons pe_str (pa_cons pe_int pa_nil))) pa_nil))))) (nomark _))))))), ?_⟩
    refine ⟨.ref a, rfl, a, ns, rfl, hS, few, fun H1 p l sm1 np nl hP => ?_⟩
    have tab1 := tab_same sm1 tab
    refine ⟨(by show 3 ≤ sizeLine; decide), fun t1 n1 => ?_⟩
    have z1 : SqT K (upd H1 t1 (.tup [.str "a", .int 0, .int 1])) t1 [.str "a", .int 0, .int 1] := .inl (.inl upd_same)
    have y1 : Same H1 (upd H1 t1 (.tup [.str "a", .int 0, .int 1])) := same_new (fun b o e => e) n1 _
    replace tab1 := tab_same y1 tab1
    replace hP := pen_same hP y1
    generalize upd H1 t1 (.tup [.str "a", .int 0, .int 1]) = H2 at z1 y1  tab1 hP ⊢
    refine ⟨(by show 3 ≤ sizeLine; decide), fun t2 n2 => ?_⟩
    have z2 : SqT K (upd H2 t2 (.tup [.str "f", .int 1, .int 1])) t2 [.str "f", .int 1, .int 1] := .inl (.inl upd_same)
    have y2 : Same H2 (upd H2 t2 (.tup [.str "f", .int 1, .int 1])) := same_new (fun b o e => e) n2 _
    replace z1 := (TK.same y2).sq z1
    replace tab1 := tab_same y2 tab1
    replace hP := pen_same hP y2
    generalize upd H2 t2 (.tup [.str "f", .int 1, .int 1]) = H3 at z2 y2 z1 tab1 hP ⊢
    refine ⟨(by show 3 ≤ sizeLine; decide), fun t3 n3 => ?_⟩
    have z3 : SqT K (upd H3 t3 (.tup [.str "g", .int 2, .int 1])) t3 [.str "g", .int 2, .int 1] := .inl (.inl upd_same)
    have y3 : Same H3 (upd H3 t3 (.tup [.str "g", .int 2, .int 1])) := same_new (fun b o e => e) n3 _
    replace z1 := (TK.same y3).sq z1
    replace z2 := (TK.same y3).sq z2
    replace tab1 := tab_same y3 tab1
    replace hP := pen_same hP y3
    generalize upd H3 t3 (.tup [.str "g", .int 2, .int 1]) = H4 at z3 y3 z1 z2 tab1 hP ⊢
    refine ⟨(by show 3 ≤ sizeLine; decide), fun t4 n4 => ?_⟩
    have z4 : SqT K (upd H4 t4 (.tup [.str "h", .int 3, .int 1])) t4 [.str "h", .int 3, .int 1] := .inl (.inl upd_same)
    have y4 : Same H4 (upd H4 t4 (.tup [.str "h", .int 3, .int 1])) := same_new (fun b o e => e) n4 _
    replace z1 := (TK.same y4).sq z1
    replace z2 := (TK.same y4).sq z2
    replace z3 := (TK.same y4).sq z3
    replace tab1 := tab_same y4 tab1
    replace hP := pen_same hP y4
    generalize upd H4 t4 (.tup [.str "h", .int 3, .int 1]) = H5 at z4 y4 z1 z2 z3 tab1 hP ⊢
    refine ⟨(by show 3 ≤ sizeLine; decide), fun t5 n5 => ?_⟩
    have z5 : SqT K (upd H5 t5 (.tup [.str "b", .int 0, .int 1])) t5 [.str "b", .int 0, .int 1] := .inl (.inl upd_same)
    have y5 : Same H5 (upd H5 t5 (.tup [.str "b", .int 0, .int 1])) := same_new (fun b o e => e) n5 _
    replace z1 := (TK.same y5).sq z1
    replace z2 := (TK.same y5).sq z2
    replace z3 := (TK.same y5).sq z3
    replace z4 := (TK.same y5).sq z4
    replace tab1 := tab_same y5 tab1
    replace hP := pen_same hP y5
    generalize upd H5 t5 (.tup [.str "b", .int 0, .int 1]) = H6 at z5 y5 z1 z2 z3 z4 tab1 hP ⊢
    refine ⟨(by show 5 ≤ sizeLine; decide), fun t6 n6 => ?_⟩
    have z6 : SqT K (upd H6 t6 (.tup [.ref t1, .ref t2, .ref t3, .ref t4, .ref t5])) t6 [.ref t1, .ref t2, .ref t3, .ref t4, .ref t5] := .inl (.inl upd_same)
    have y6 : Same H6 (upd H6 t6 (.tup [.ref t1, .ref t2, .ref t3, .ref t4, .ref t5])) := same_new (fun b o e => e) n6 _
    replace z1 := (TK.same y6).sq z1
    replace z2 := (TK.same y6).sq z2
    replace z3 := (TK.same y6).sq z3
    replace z4 := (TK.same y6).sq z4
    replace z5 := (TK.same y6).sq z5
    replace tab1 := tab_same y6 tab1
    replace hP := pen_same hP y6
    generalize upd H6 t6 (.tup [.ref t1, .ref t2, .ref t3, .ref t4, .ref t5]) = H7 at z6 y6 z1 z2 z3 z4 z5 tab1 hP ⊢
    refine ⟨(by decide), fun t7 n7 => ?_⟩
    have z7 : SqT K (upd H7 t7 (.tup [])) t7 [] := .inl (.inl upd_same)
    have y7 : Same H7 (upd H7 t7 (.tup [])) := same_new (fun b o e => e) n7 _
    replace z1 := (TK.same y7).sq z1
    replace z2 := (TK.same y7).sq z2
    replace z3 := (TK.same y7).sq z3
    replace z4 := (TK.same y7).sq z4
    replace z5 := (TK.same y7).sq z5
    replace z6 := (TK.same y7).sq z6
    replace tab1 := tab_same y7 tab1
    replace hP := pen_same hP y7
    generalize upd H7 t7 (.tup []) = H8 at z7 y7 z1 z2 z3 z4 z5 z6 tab1 hP ⊢
    refine ⟨(by show 2 ≤ sizeLine; decide), fun t8 n8 => ?_⟩
    have z8 : SqT K (upd H8 t8 (.tup [.ref t6, .ref t7])) t8 [.ref t6, .ref t7] := .inl (.inl upd_same)
    have y8 : Same H8 (upd H8 t8 (.tup [.ref t6, .ref t7])) := same_new (fun b o e => e) n8 _
    replace z1 := (TK.same y8).sq z1
    replace z2 := (TK.same y8).sq z2
    replace z3 := (TK.same y8).sq z3
    replace z4 := (TK.same y8).sq z4
    replace z5 := (TK.same y8).sq z5
    replace z6 := (TK.same y8).sq z6
    replace z7 := (TK.same y8).sq z7
    replace tab1 := tab_same y8 tab1
    replace hP := pen_same hP y8
    generalize upd H8 t8 (.tup [.ref t6, .ref t7]) = H9 at z8 y8 z1 z2 z3 z4 z5 z6 z7 tab1 hP ⊢
    have hR : RowsAt K H9 t8 rows5 := ⟨t6, .ref t7, _, z8, z6, ⟨_, _, rfl, ⟨t1, rfl, z1⟩, ⟨_, _, rfl, ⟨t2, rfl, z2⟩, ⟨_, _, rfl, ⟨t3, rfl, z3⟩, ⟨_, _, rfl, ⟨t4, rfl, z4⟩, ⟨_, _, rfl, ⟨t5, rfl, z5⟩, rfl⟩⟩⟩⟩⟩⟩
    clear z1 z2 z3 z4 z5 z6 z7 z8 y1 y2 y3 y4 y5 y6 y7 y8 n1 n2 n3 n4 n5 n6 n7 n8
    generalize t8 = ra at hR ⊢
    generalize H9 = G0 at hR tab1 hP ⊢
    refine ⟨4, rfl, by decide, by decide, for_range (lo := 0) (n := 4) (fun i σ G => ∃ (v3 v4 v5 v6 v7 v8 : Option V) (c : Nat), σ = [some (.ref a), some (.ref p), some (.ref ra), v3, v4, v5, v6, v7, v8] ∧ Pn.Pen G p l ns c ∧ c ≤ i * 1000 ∧ RowsAt K G ra rows5 ∧ TabG G Pt)
      ⟨none, none, none, none, none, none, 0, rfl, hP, Nat.zero_le _, hR, tab1⟩ ?_ ?_⟩
    · clear hP hR tab1
      rintro i σ G hi ⟨v3, v4, v5, v6, v7, v8, c, rfl, hP, hc, hR, tabG⟩
      have d3 : dn 3 = 80 := rfl
      have d2 : dn 2 = 26 := rfl
      have s3 : sz 3 = 40 := rfl
      have s2 : sz 2 = 13 := rfl
      refine ⟨.ref p, rfl, .ref ra, rfl, .ref p, rfl, p, l, ns, c, 5, rfl, hP, (by omega), (by omega), (by decide), (by decide), fun nv G1 nv0 nv1 P1 b1 => ?_⟩
      refine ⟨p, l, ra, ns, c + 1, 3, nv, rows5, rfl, P1, (by omega), (by omega), hR.mono (pen_tk hP b1), rows5_ok, (by decide), nv0, (by omega), fun t x G2 c2 tx dt hc2 P2 b2 => ?_⟩
      refine ⟨.ref p, rfl, .ref ra, rfl, p, l, ra, ns, c2, 2, 3, rows5, rfl, P2, (by omega), (by omega), hR.mono (pen_tk hP (b1.trans b2)), rows5_ok, (by decide), (by decide), (by decide), fun t2 y G3 c3 ty dt2 hc3 P3 b3 => ?_⟩
      refine ⟨x, y, rfl, ?_⟩
      have tx3 := Tm.mono (pen_tk P2 b3) _ _ tx
      have hR3 := hR.mono (pen_tk hP ((b1.trans b2).trans b3))
      have tab3 : TabG G3 Pt := by
        obtain ⟨ps, e, ok⟩ := tabG
        refine ⟨ps, ((b1.trans b2).trans b3) _ _ (fun z => ?_) e, ok⟩
        obtain ⟨⟨_, _, _, e4, _⟩, _⟩ := hP
        rw [← z, e] at e4
        cases e4
      have dep1 := dt.dep
      have dep2 := dt2.dep
      have size1 := dt.size
      have size2 := dt2.size
      rw [s3] at size1
      rw [s2] at size2
      rw [d3] at hc2
      rw [d2] at hc3
      refine ⟨x, rfl, t, x, rfl, tx3, (by omega), (by omega), fun G4 d us s4 nd g4 pus => ?_⟩
      have ws : Ws K Pt p l ra d ns c3 t t2 x y us G4 := ⟨pen_same P3 s4, hR3.mono (TK.same s4), tab_same s4 tab3, Tm.mono (TK.same s4) _ _ tx3, Tm.mono (TK.same s4) _ _ ty, g4, pus⟩
      clear hP hR tabG P1 b1 tx P2 b2 ty P3 b3 tx3 hR3 tab3 s4 nd g4 pus
      -- size
      refine ⟨x, rfl, t, x, rfl, ws.tx, (by omega), fun G5 s5 => ⟨x, rfl, t, x, rfl, (ws.same s5).tx, (by omega), (by omega), fun G6 s6 => ⟨rfl, _, rfl, ?_⟩⟩⟩
      replace ws := (ws.same s5).same s6
      refine iteNS rfl ?_
      -- variables
      refine ⟨x, rfl, t, x, rfl, ws.tx, (by omega), fun G7 p7 ns7 s7 _ rising7 mem7 e7 => ?_⟩
      replace ws := ws.same s7
      refine ⟨x, rfl, t, x, rfl, ws.tx, (by omega), (by omega), fun G8 p8 s8 _ e8 => ?_⟩
      replace ws := ws.same s8
      have vl := t.vars_len
      have e7' := s8 _ _ e7
      refine ⟨p8, t.vars, rfl, .inl (.inl e8), (by unfold scanBound; omega), fun pS cS nS leS => ?_⟩
      replace ws := ws.new nS (SetO w pS (fun j => decide (j ∈ t.vars)) cS)
      have e7s := (same_new (fun b o e => e) nS (SetO w pS (fun j => decide (j ∈ t.vars)) cS)) _ _ e7'
      have eS : (upd G8 pS (SetO w pS (fun j => decide (j ∈ t.vars)) cS)) pS = some (SetO w pS (fun j => decide (j ∈ t.vars)) cS) := upd_same
      generalize hG9 : upd G8 pS (SetO _ pS _ cS) = G9
      replace ws : Ws K Pt p l ra d ns c3 t t2 x y us G9 := by
        rw [← hG9]
        exact ws
      replace e7s : G9 p7 = some (.tup (ns7.map V.int)) := by
        rw [← hG9]
        exact e7s
      replace eS : G9 pS = some (SetO w pS (fun j => decide (j ∈ t.vars)) cS) := by
        rw [← hG9]
        exact eS
      clear hG9
      refine ⟨pS, _, cS, rfl, eS, (by omega), fun ns9 p9 rising9 mem9 _ n9 => ?_⟩
      have same97 : ns7 = ns9 := rising_one rising7 rising9 fun j => (mem7 j).trans (decide_eq_true_iff.symm.trans (mem9 j).symm)
      subst same97
      replace ws := ws.new n9 (.lst (ns7.map V.int))
      have e7t := (same_new (fun b o e => e) n9 (.lst (ns7.map V.int))) _ _ e7s
      have e9 : (upd G9 p9 (.lst (ns7.map V.int))) p9 = some (.lst (ns7.map V.int)) := upd_same
      generalize upd G9 p9 (.lst (ns7.map V.int)) = G10 at ws e7t e9 ⊢
      refine ⟨p9, _, rfl, .inl ⟨.inl (.inl e9), fun p10 n10 => ?_⟩⟩
      replace ws := ws.new n10 (.tup (ns7.map V.int))
      have e7u := (same_new (fun b o e => e) n10 (.tup (ns7.map V.int))) _ _ e7t
      have e10 : (upd G10 p10 (.tup (ns7.map V.int))) p10 = some (.tup (ns7.map V.int)) := upd_same
      generalize upd G10 p10 (.tup (ns7.map V.int)) = G11 at ws e7u e10 ⊢
      refine ⟨iD ns7, iD ns7, iD_dp (.inl (.inl e7u)), iD_dp (.inl (.inl e10)), iD_shaped _, iD_shaped _, _, rfl, ?_⟩
      refine iteNE (eqv_one (iD_shaped _)) ?_
      -- paths
      obtain ⟨text1, text2, text3, text4⟩ := paths_text (t := t) (by omega)
      refine ⟨x, rfl, t, x, rfl, ws.tx, (by omega), ws.tab, fun G12 p12 us12 b12 tab12 _ e12 ps12 => ?_⟩
      replace ws := ws.but b12 tab12
      refine ⟨.ref p12, psD t.paths, rfl, psD_dp (.inl (.inl e12)) ps12, text1, text2, text3, text4, ?_⟩
      refine ⟨.ref d, rfl, d, us, rfl, .inl ⟨.inl (.inl ws.lst), fun p13 n13 => ?_⟩⟩
      replace ws := ws.new n13 (.tup us)
      have e13 : (upd G12 p13 (.tup us)) p13 = some (.tup us) := upd_same
      generalize upd G12 p13 (.tup us) = G13 at ws e13 ⊢
      refine ⟨.ref p13, psD t.paths, rfl, psD_dp (.inl (.inl e13)) ws.ps, text1, text2, text3, text4, rfl, _, rfl, ?_⟩
      refine iteNS rfl ?_
      -- each path
      refine ⟨.ref d, rfl, 40, rfl, d, us, rfl, .inl (.inl ws.lst), fun p14 n14 => ?_⟩
      replace ws := ws.new n14 (.lst (cutV us none (some 40)))
      have e14 : (upd G13 p14 (.lst (cutV us none (some 40)))) p14 = some (.lst (cutV us none (some 40))) := upd_same
      have inside : ∀ v ∈ cutV us none (some 40), v ∈ us := fun v hv => List.mem_of_mem_drop (List.mem_of_mem_take hv)
      generalize upd G13 p14 (.lst (cutV us none (some 40))) = G14 at ws e14 ⊢
      generalize cutV us none (some 40) = cs at e14 inside ⊢
      refine ⟨p14, rfl, ⟨_, .inl (.inl e14)⟩, for_list (K := K) (a := p14) (xs := cs) (fun j σ G => ∃ (v7 v8 : Option V), σ = [some (.ref a), some (.ref p), some (.ref ra), some (.int (0 + (i : Int))), some x, some y, some (.ref d), v7, v8] ∧ Same G14 G)
        ⟨v7, v8, rfl, fun b o e => e⟩ (fun j σ G _ ⟨_, _, _, sm⟩ => .inl (.inl (sm _ _ e14))) ?_ ?_⟩
      · rintro j z σ G15 hz ⟨v7, v8, rfl, sm⟩
        obtain ⟨pp, hpp, ⟨ap, rfl, sqp⟩⟩ := ws.ps.mem (inside z (List.mem_of_getElem? hz))
        replace ws := ws.same sm
        replace sqp := (TK.same sm).sq sqp
        obtain ⟨u, hu⟩ := T.paths_sub t pp hpp
        obtain ⟨r, r1, r2, r3, r4, r5, r6⟩ := T.put_sub t2 hu
        obtain ⟨u1, u2, u3⟩ := T.sub_small hu
        have short := T.paths_dep t pp hpp
        have shT : SeqAt.shaped t.d = true := T.shaped dt.named (by omega)
        have shN : SeqAt.shaped t2.d = true := T.shaped dt2.named (by omega)
        have shU : SeqAt.shaped u.d = true := T.shaped (u1 dt.named) (by omega)
        have shR : SeqAt.shaped r.d = true := T.shaped (r6 dt.named dt2.named) (by omega)
        refine ⟨x, rfl, .ref ap, rfl, y, rfl, t, t2, r, x, y, ap, pp, rfl, ws.tx, ws.ty, sqp, (by omega), (by omega), r1, fun v G16 s16 tv => ?_⟩
        replace ws := ws.same s16
        replace sqp := (TK.same s16).sq sqp
        refine ⟨x, rfl, .ref ap, rfl, t, u, x, ap, pp, rfl, ws.tx, sqp, hu, fun va ta => ⟨x, rfl, .ref ap, rfl, t, u, x, ap, pp, rfl, ws.tx, sqp, hu, fun vb tb => ⟨u.d, u.d, Tm.dp _ _ ta, Tm.dp _ _ tb, shU, shU, _, rfl, ?_⟩⟩⟩
        refine iteNE (eqv_one shU) ?_
        refine ⟨v, rfl, x, rfl, .ref ap, rfl, y, rfl, t, t2, r, x, y, ap, pp, rfl, ws.tx, ws.ty, sqp, (by omega), (by omega), r1, fun v' G17 s17 tv' => ?_⟩
        replace ws := ws.same s17
        replace sqp := (TK.same s17).sq sqp
        replace tv := Tm.mono (TK.same s17) _ _ tv
        refine ⟨r.d, r.d, Tm.dp _ _ tv, Tm.dp _ _ tv', shR, shR, _, rfl, ?_⟩
        refine iteNE (eqv_one shR) ?_
        refine ⟨v, rfl, .ref ap, rfl, r, t2, v, ap, pp, rfl, tv, sqp, r2, fun vn tn => ⟨y, rfl, t2.d, t2.d, Tm.dp _ _ tn, Tm.dp _ _ ws.ty, shN, shN, _, rfl, ?_⟩⟩
        refine iteNE (eqv_one shN) ?_
        refine ⟨v, rfl, .ref ap, rfl, x, rfl, .ref ap, rfl, t, u, x, ap, pp, rfl, ws.tx, sqp, hu, fun vu tu => ⟨r, u, t, v, vu, ap, pp, rfl, tv, tu, sqp, (by omega), (by omega), r3, fun v'' G18 s18 tv'' => ?_⟩⟩
        replace ws := ws.same s18
        refine ⟨x, rfl, t.d, t.d, Tm.dp _ _ tv'', Tm.dp _ _ ws.tx, shT, shT, _, rfl, ?_⟩
        refine iteNE (eqv_one shT) ?_
        exact ⟨_, _, rfl, fun b o e => s18 _ _ (s17 _ _ (s16 _ _ (sm _ _ e)))⟩
      · rintro σ G15 ⟨v7, v8, rfl, sm⟩
        replace ws := ws.same sm
        exact ⟨_, _, _, _, _, _, c3, rfl, ws.pen, by omega, ws.rows, ws.tab⟩
    · rintro σ G ⟨v3, v4, v5, v6, v7, v8, c, rfl, _, _, _, tabG⟩
      clear hP hR tab1
      refine ⟨.v 0, .int 0, rfl, rfl, (by decide), fun G1 s1 => ?_⟩
      refine ⟨.v 3, .int 3, rfl, rfl, (by decide), fun G2 p2 ns2 s2 _ rising2 mem2 e2 => ?_⟩
      have is2 : ns2 = [3] := rising_one rising2 (List.pairwise_singleton _ _) mem2
      subst is2
      have tab2 := tab_same s2 (tab_same s1 tabG)
      refine ⟨.v 7, .int 7, rfl, rfl, (by decide), tab2, fun G3 p3 us3 b3 tab3 n3 e3 ps3 => ?_⟩
      have k23 := tab_tk tab2 b3
      have e2' := (k23 _ _).1 e2
      have f2 : SqT K G3 p2 [.int 3] := .inl (.inl e2')
      have f3 : SqT K G3 p3 us3 := .inl (.inl e3)
      refine ⟨(by show 2 ≤ sizeLine; decide), fun p4 n4 => ?_⟩
      have k4 : TK G3 (upd G3 p4 (.tup [.str "f", .int 2])) := TK.new n4 _
      have s4 : Same G3 (upd G3 p4 (.tup [.str "f", .int 2])) := same_new (fun b o e => e) n4 _
      have f4 : SqT K (upd G3 p4 (.tup [.str "f", .int 2])) p4 [.str "f", .int 2] := .inl (.inl upd_same)
      replace f2 := k4.sq f2
      replace f3 := k4.sq f3
      replace ps3 := ps3.mono (PV.mono k4)
      clear k4 s4
      generalize upd G3 p4 (.tup [.str "f", .int 2]) = G4 at f2 f3 f4 ps3 ⊢
      refine ⟨(by decide), fun p5 n5 => ?_⟩
      have k5 : TK G4 (upd G4 p5 (.tup [])) := TK.new n5 _
      have s5 : Same G4 (upd G4 p5 (.tup [])) := same_new (fun b o e => e) n5 _
      have f5 : SqT K (upd G4 p5 (.tup [])) p5 [] := .inl (.inl upd_same)
      replace f2 := k5.sq f2
      replace f3 := k5.sq f3
      replace f4 := k5.sq f4
      replace ps3 := ps3.mono (PV.mono k5)
      clear k5 s5
      generalize upd G4 p5 (.tup []) = G5 at f2 f3 f4 f5 ps3 ⊢
      refine ⟨.f "f" [.v 2], .f "f" [.v 2], .ref p4, p5, [], rfl, ⟨p4, _, rfl, f4, ⟨_, _, rfl, rfl, rfl⟩⟩, f5, rfl, fun v tv => ?_⟩
      refine ⟨(by show 4 ≤ sizeLine; decide), fun p6 n6 => ?_⟩
      have k6 : TK G5 (upd G5 p6 (.lst [.int ((T.v 0).size : Int), .ref p2, .ref p3, v])) := TK.new n6 _
      have s6 : Same G5 (upd G5 p6 (.lst [.int ((T.v 0).size : Int), .ref p2, .ref p3, v])) := same_new (fun b o e => e) n6 _
      replace f2 := k6.sq f2
      replace f3 := k6.sq f3
      replace f4 := k6.sq f4
      replace f5 := k6.sq f5
      replace ps3 := ps3.mono (PV.mono k6)
      have g6 : (upd G5 p6 (.lst [.int ((T.v 0).size : Int), .ref p2, .ref p3, v])) p6 = some (.lst [.int ((T.v 0).size : Int), .ref p2, .ref p3, v]) := upd_same
      replace tv := Tm.mono k6 _ _ tv
      clear k6 s6
      generalize upd G5 p6 (.lst [.int ((T.v 0).size : Int), .ref p2, .ref p3, v]) = G6 at f2 f3 f4 f5 ps3 tv g6 ⊢
      refine ⟨(by show 1 ≤ sizeLine; decide), fun p7 n7 => ?_⟩
      have k7 : TK G6 (upd G6 p7 (.tup [.int 3])) := TK.new n7 _
      have s7 : Same G6 (upd G6 p7 (.tup [.int 3])) := same_new (fun b o e => e) n7 _
      have f7 : SqT K (upd G6 p7 (.tup [.int 3])) p7 [.int 3] := .inl (.inl upd_same)
      replace f2 := k7.sq f2
      replace f3 := k7.sq f3
      replace f4 := k7.sq f4
      replace f5 := k7.sq f5
      replace ps3 := ps3.mono (PV.mono k7)
      replace g6 := s7 _ _ g6
      replace tv := Tm.mono k7 _ _ tv
      clear k7 s7
      generalize upd G6 p7 (.tup [.int 3]) = G7 at f2 f3 f4 f5 f7 ps3 tv g6 ⊢
      refine ⟨(by decide), fun p8 n8 => ?_⟩
      have k8 : TK G7 (upd G7 p8 (.tup [])) := TK.new n8 _
      have s8 : Same G7 (upd G7 p8 (.tup [])) := same_new (fun b o e => e) n8 _
      have f8 : SqT K (upd G7 p8 (.tup [])) p8 [] := .inl (.inl upd_same)
      replace f2 := k8.sq f2
      replace f3 := k8.sq f3
      replace f4 := k8.sq f4
      replace f5 := k8.sq f5
      replace f7 := k8.sq f7
      replace ps3 := ps3.mono (PV.mono k8)
      replace g6 := s8 _ _ g6
      replace tv := Tm.mono k8 _ _ tv
      clear k8 s8
      generalize upd G7 p8 (.tup []) = G8 at f2 f3 f4 f5 f7 f8 ps3 tv g6 ⊢
      refine ⟨(by show 1 ≤ sizeLine; decide), fun p9 n9 => ?_⟩
      have k9 : TK G8 (upd G8 p9 (.tup [.ref p8])) := TK.new n9 _
      have s9 : Same G8 (upd G8 p9 (.tup [.ref p8])) := same_new (fun b o e => e) n9 _
      have f9 : SqT K (upd G8 p9 (.tup [.ref p8])) p9 [.ref p8] := .inl (.inl upd_same)
      replace f2 := k9.sq f2
      replace f3 := k9.sq f3
      replace f4 := k9.sq f4
      replace f5 := k9.sq f5
      replace f7 := k9.sq f7
      replace f8 := k9.sq f8
      replace ps3 := ps3.mono (PV.mono k9)
      replace g6 := s9 _ _ g6
      replace tv := Tm.mono k9 _ _ tv
      clear k9 s9
      generalize upd G8 p9 (.tup [.ref p8]) = G9 at f2 f3 f4 f5 f7 f8 f9 ps3 tv g6 ⊢
      refine ⟨(by show 2 ≤ sizeLine; decide), fun p10 n10 => ?_⟩
      have k10 : TK G9 (upd G9 p10 (.tup [.str "f", .int 2])) := TK.new n10 _
      have s10 : Same G9 (upd G9 p10 (.tup [.str "f", .int 2])) := same_new (fun b o e => e) n10 _
      have f10 : SqT K (upd G9 p10 (.tup [.str "f", .int 2])) p10 [.str "f", .int 2] := .inl (.inl upd_same)
      replace f2 := k10.sq f2
      replace f3 := k10.sq f3
      replace f4 := k10.sq f4
      replace f5 := k10.sq f5
      replace f7 := k10.sq f7
      replace f8 := k10.sq f8
      replace f9 := k10.sq f9
      replace ps3 := ps3.mono (PV.mono k10)
      replace g6 := s10 _ _ g6
      replace tv := Tm.mono k10 _ _ tv
      clear k10 s10
      generalize upd G9 p10 (.tup [.str "f", .int 2]) = G10 at f2 f3 f4 f5 f7 f8 f9 f10 ps3 tv g6 ⊢
      refine ⟨(by show 4 ≤ sizeLine; decide), fun p11 n11 => ?_⟩
      have k11 : TK G10 (upd G10 p11 (.lst [.int 1, .ref p7, .ref p9, .ref p10])) := TK.new n11 _
      have s11 : Same G10 (upd G10 p11 (.lst [.int 1, .ref p7, .ref p9, .ref p10])) := same_new (fun b o e => e) n11 _
      replace f2 := k11.sq f2
      replace f3 := k11.sq f3
      replace f4 := k11.sq f4
      replace f5 := k11.sq f5
      replace f7 := k11.sq f7
      replace f8 := k11.sq f8
      replace f9 := k11.sq f9
      replace f10 := k11.sq f10
      replace ps3 := ps3.mono (PV.mono k11)
      have g11 : (upd G10 p11 (.lst [.int 1, .ref p7, .ref p9, .ref p10])) p11 = some (.lst [.int 1, .ref p7, .ref p9, .ref p10]) := upd_same
      replace g6 := s11 _ _ g6
      replace tv := Tm.mono k11 _ _ tv
      clear k11 s11
      generalize upd G10 p11 (.lst [.int 1, .ref p7, .ref p9, .ref p10]) = G11 at f2 f3 f4 f5 f7 f8 f9 f10 ps3 tv g6 g11 ⊢
      have left : Dp K G11 (.ref p6) (.list [.int 1, iD [3], psD [[]], T.d (.f "f" [.v 2])]) := .lst (.inl (.inl g6)) (.cons (.int 1) (.cons (iD_dp f2) (.cons (psD_dp f3 ps3) (.cons (Tm.dp _ _ tv) .nil))))
      have right : Dp K G11 (.ref p11) (.list [.int 1, iD [3], psD [[]], T.d (.f "f" [.v 2])]) := .lst (.inl (.inl g11)) (.cons (.int 1) (.cons (iD_dp (ns := [3]) f7) (.cons (psD_dp (ps := [[]]) f9 ⟨_, _, rfl, ⟨p8, rfl, f8⟩, rfl⟩) (.cons (.tup f10 (.cons (.str "f") (.cons (.int 2) .nil))) .nil))))
      have sh : SeqAt.shaped (.list [.int 1, iD [3], psD [[]], T.d (.f "f" [.v 2])]) = true := by decide +kernel
      refine ⟨_, _, left, right, sh, sh, ?_⟩
      rw [eqv_one sh]
      exact q _
end
end Ad

/-! The end of a law of such a def where some defs grow tables of code objects. -/
namespace Ad
open PySem PySem.Spec PySem.Calls PyProof.Rows L2 GxR
abbrev oList (us : List Value) : Obj := { cls := .type "list", data := .seq us.toArray }
abbrev oTab : Obj := { cls := .none, data := .fields #[] }
/-- an abstract heap over h: the list of us at a, locked (or not told), and empty tables -/
structure First (h : Heap) (K : PySem.W.Frag) (a : Addr) (us : List Value) (ns : List Int) (Ts : List Addr) (H : Hp) : Prop where
  told : ∀ b u, H b = some u → (b = a ∧ u = .frz (oList us) (.lst (ns.map V.int))) ∨ (b ∈ Ts ∧ u = .tbl #[])
  tabs : ∀ b ∈ Ts, H b = some (.tbl #[])
  offK : ∀ b u, H b = some u → K.lookup b = none
section
variable {h : Heap} {K : PySem.W.Frag} {a : Addr} {us : List Value} {ns : List Int} {Ts : List Addr} {H : Hp}
/-- an object that is neither is not tracked -/
theorem First.off (F : First h K a us ns Ts H) (ha : h.get? a = some (oList us)) (ht : ∀ b ∈ Ts, h.get? b = some oTab) {b : Addr} {o : Obj} (e : h.get? b = some o) (n1 : o ≠ oList us) (n2 : o ≠ oTab) : H b = none := by
  cases q : H b with
  | none => rfl
  | some u =>
    rcases F.told b u q with ⟨z, _⟩ | ⟨z, _⟩
    · rw [z, ha] at e
      exact absurd (Option.some.inj e).symm n1
    · rw [ht b z] at e
      exact absurd (Option.some.inj e).symm n2
theorem First.offC (F : First h K a us ns Ts H) (ha : h.get? a = some (oList us)) (ht : ∀ b ∈ Ts, h.get? b = some oTab) {b : Addr} {o : Obj} (e : h.get? b = some o) (n1 : o.cls ≠ .type "list") (n2 : o.cls ≠ .none) : H b = none :=
  F.off ha ht e (fun z => n1 (by rw [z])) fun z => n2 (by rw [z])
theorem First.dict (F : First h K a us ns Ts H) (ha : h.get? a = some (oList us)) (ht : ∀ b ∈ Ts, h.get? b = some oTab) {b : Addr} {m : Str → Option Value} (e : h.Ns b m) : (hidT h H).Ns b m := by
  obtain ⟨o, es, ep, e, d, r⟩ := e
  refine ⟨o, es, ep, hidT_get e (F.off ha ht e (fun z => ?_) fun z => ?_), d, r⟩
  · rw [z] at d
    cases d
  · rw [z] at d
    cases d
end
theorem lawGT {P : Program} {w : World} {K : PySem.W.Frag} {mg mb : Str → Option Value} {CX : CXT} {k : Nat} {fa a : Addr} {cs : List (Addr × Addr)} {fd : FuncData} {x : Str} {sp : Sp} {s : Shared} {us : List Value} {ns : List Int}
    (inK : K.In s.heap) (gl : s.heap.Ns mainGlobals mg) (bl : s.heap.Ns builtinsNs mb) (boot : ∀ x : Str, x ≠ "__name__" → mb x = bootBuiltins x) (lim : s.heap.NoLimit) (quiet : s.gens = #[])
    (tabs : ∀ p ∈ cs, s.heap.get? p.2 = some oTab) (off : ∀ p ∈ cs, K.lookup p.2 = none) (codes : ∀ p ∈ cs, PySem.W.CodeHd s.heap p.1 p.2)
    (top : ∃ (bm : Addr) (ob : Obj), mg "__builtins__" = some (.ref bm) ∧ bm ≠ builtinsNs ∧ s.heap.get? bm = some ob ∧ ob.cls = .type "module" ∧ ob.dict = some builtinsNs ∧ ob.data = .plain)
    (script : s.heap.get? a = some (oList us)) (nums : IntsAre us ns) (few : ns.length ≤ sizeLine) (room : Room k callerA)
    (F : ∀ base : Heap, K.In base → base.Ns mainGlobals mg → (∀ p ∈ cs, TabB base mg p.1 p.2) → FnG P w K mg base CX k fa fd [x] sp) (binds : ∀ (s : Shared) (u : Value), BindsTo s fd ⟨[u], []⟩ [(x, u)])
    (ask : ∀ H : Hp, (∀ p ∈ cs, H p.2 = some (.tbl #[])) → SqL K H a (ns.map V.int) → sp [.ref a] H (fun v _ => v = .bl true) fun _ _ _ => False) (noX : ∀ H e s', CX [] H s (fun _ _ _ => False) e s' → False) :
    codeAny (model P w) callerA (.call (.ref fa) ⟨[.ref a], []⟩) (fun r s' => r = .ok (.ret (.bool true)) ∧ OldK s.heap s'.heap ∧ s'.os = s.os ∧ AllBare s'.gens) s := by
  have rel := vals_ints nums
  have len := nums.length
  have ht : ∀ b ∈ cs.map (·.2), s.heap.get? b = some oTab := by
    intro b hb
    obtain ⟨p, hp, rfl⟩ := List.mem_map.mp hb
    exact tabs p hp
  have aOut : a ∉ cs.map (·.2) := fun z => by
    have e := ht a z
    rw [script] at e
    cases e
  have gone : ∀ {q : Prop} (b : Addr), b ∈ ([] : List Addr) → q := fun {q} b hb => absurd hb (by simp)
  have main : ∀ H : Hp, First s.heap K a us ns (cs.map (·.2)) H → SqL K H a (ns.map V.int) →
      codeAny (model P w) callerA (.call (.ref fa) ⟨[.ref a], []⟩) (fun r s' => r = .ok (.ret (.bool true)) ∧ OldK s.heap s'.heap ∧ s'.os = s.os ∧ AllBare s'.gens) s := by
    intro H D seq
    have ok : HOk P w H s.heap := by
      intro b u e
      rcases D.told b u e with ⟨rfl, rfl⟩ | ⟨z, rfl⟩
      · exact ⟨script, by rw [List.length_map]; exact few, us, _, rel, script⟩
      · exact ht b z
    have kin : K.In (hidT s.heap H) := by
      intro b o e
      refine hidT_get (inK b o e) ?_
      cases q : H b with
      | none => rfl
      | some u =>
        rw [D.offK b u q] at e
        cases e
    have tb : ∀ p ∈ cs, TabB (hidT s.heap H) mg p.1 p.2 := by
      intro p hp
      constructor
      · obtain ⟨o, vs, file, tf, flags, tg, inF, text, tt, e, c, r⟩ := codes p hp
        exact ⟨o, vs, file, tf, flags, tg, inF, text, tt, hidT_get e (D.offC script ht e (by rw [c]; decide) (by rw [c]; intro z; cases z)), c, r⟩
      · obtain ⟨bm, ob, b1, b2, b3, b4, b5, b6⟩ := top
        refine ⟨bm, ob, b1, b2, fun z => ?_, fun z => ?_, hidT_get b3 (D.offC script ht b3 (by rw [b4]; decide) (by rw [b4]; intro z; cases z)), b4, b5, b6⟩
        · obtain ⟨o, es, ep, e, d, _⟩ := gl
          rw [z, e] at b3
          cases b3
          rw [d] at b6
          cases b6
        · rw [z, tabs p hp] at b3
          cases b3
          cases b4
      · intro z
        obtain ⟨o, es, ep, e, d, _⟩ := gl
        rw [z, tabs p hp] at e
        cases e
        cases d
    have mod : L2.Mod K mg (hidT s.heap H) := by
      obtain ⟨mc, l1, l2⟩ := lim
      exact ⟨kin, D.dict script ht gl, ⟨mb, D.dict script ht bl, boot⟩, mc, D.dict script ht l1, l2⟩
    have env : Env0 P w K mg (hidT s.heap H) callerA [] s H := ⟨rfl, mod, fun b o e => of_hidT e, Nat.le_of_eq (hidT_size _ _), trivial, fun b hb => gone b hb, ok, .of_eq quiet⟩
    have run := (F _ kin (D.dict script ht gl) tb).run callerA [] s H ⟨[.ref a], []⟩ [.ref a] [.ref a] _ _ rfl room env (binds s (.ref a)) (.cons rfl .nil) (ask H (fun p hp => D.tabs _ (List.mem_map.mpr ⟨p, hp, rfl⟩)) seq)
    refine codeAny_mono run fun r s' back => ?_
    match r, back with
    | .error e, back => exact (noX H e s' back).elim
    | .ok .next, back => exact False.elim back
    | .ok .brk, back => exact False.elim back
    | .ok .cont, back => exact False.elim back
    | .ok (.ret u), ⟨v, H', os, bare, un, ok', rv, (q : v = .bl true)⟩ =>
      subst q
      obtain rfl : u = Value.bool true := rv
      have stays : ∀ b o, b ∉ cs.map (·.2) → s.heap.get? b = some o → s'.heap.get? b = some o := by
        intro b o nb e
        cases q : H b with
        | none => exact un.keep b o e q (fun z => gone b z) (by simp)
        | some u =>
          rcases D.told b u q with ⟨rfl, rfl⟩ | ⟨z, _⟩
          · have e2 := (ok' b _ (un.frzs b _ _ q)).1
            rw [script] at e
            cases e
            exact e2
          · exact absurd z nb
      have grew : ∀ b ∈ cs.map (·.2), ∃ more : Array Value, s'.heap.get? b = some { cls := .none, data := .fields more } := by
        intro b hb
        obtain ⟨more, z⟩ := un.tbls b #[] (D.tabs b hb)
        exact ⟨_, ok' b _ z⟩
      refine ⟨rfl, ⟨fun b o e => ?_, fun b o e => ?_⟩, os, bare⟩
      · by_cases hb : b ∈ cs.map (·.2)
        · obtain ⟨more, z⟩ := grew b hb
          obtain ⟨p, hp, rfl⟩ := List.mem_map.mp hb
          rw [tabs p hp] at e
          cases e
          refine .inr (.inl ⟨((codes p hp).tab (tabs p hp)).isCodeTable, rfl, #[], more, rfl, ?_⟩)
          rw [Array.empty_append]
          exact z
        · exact .inl (stays b o hb e)
      · by_cases hb : b ∈ cs.map (·.2)
        · obtain ⟨more, z⟩ := grew b hb
          exact ⟨_, z⟩
        · exact ⟨o, stays b o hb e⟩
  have offT : ∀ b ∈ cs.map (·.2), K.lookup b = none := by
    intro b hb
    obtain ⟨p, hp, rfl⟩ := List.mem_map.mp hb
    exact off p hp
  by_cases look : K.lookup a = none
  · refine main (fun b => if b ∈ cs.map (·.2) then some (.tbl #[]) else if b = a then some (.frz (oList us) (.lst (ns.map V.int))) else none) ⟨fun b u e => ?_, fun b hb => if_pos hb, fun b u e => ?_⟩ (.inl (.inr ⟨oList us, (if_neg aOut).trans (if_pos rfl)⟩))
    all_goals
      by_cases hb : b ∈ cs.map (·.2)
      · have e' := (if_pos hb).symm.trans e
        first
          | exact .inr ⟨hb, (Option.some.inj e').symm⟩
          | exact offT b hb
      · have e1 := (if_neg hb).symm.trans e
        by_cases hc : b = a
        · have e' := (if_pos hc).symm.trans e1
          first
            | exact .inl ⟨hc, (Option.some.inj e').symm⟩
            | exact hc ▸ look
        · exact nomatch (if_neg hc).symm.trans e1
  · obtain ⟨o, e⟩ := Option.ne_none_iff_exists'.mp look
    have e2 := inK a o e
    rw [script] at e2
    cases e2
    refine main (fun b => if b ∈ cs.map (·.2) then some (.tbl #[]) else none) ⟨fun b u e => ?_, fun b hb => if_pos hb, fun b u e => ?_⟩ (.inr ⟨_, us.toArray, _, e, rfl, rfl, rfl, ?_, by simpa using rel⟩)
    · by_cases hb : b ∈ cs.map (·.2)
      · exact .inr ⟨hb, (Option.some.inj ((if_pos hb).symm.trans e)).symm⟩
      · exact nomatch (if_neg hb).symm.trans e
    · by_cases hb : b ∈ cs.map (·.2)
      · exact offT b hb
      · exact nomatch (if_neg hb).symm.trans e
    · rw [List.size_toArray, len]
      exact few
/-- what is known of the law at the head's heap -/
def LawGAt (l : PySem.W.OpenLaw) (w : World) (K : PySem.W.Frag) (CX : CXT) (k n : Nat) (x : Str) (mg : Str → Option Value) (fa : Addr) (h : Heap) : Prop :=
  ∃ (fd : FuncData) (cs : List (Addr × Addr)) (sp : Sp), (∀ p ∈ cs, h.get? p.2 = some oTab) ∧ (∀ p ∈ cs, K.lookup p.2 = none) ∧ (∀ p ∈ cs, PySem.W.CodeHd h p.1 p.2) ∧ (∀ (s : Shared) (u : Value), BindsTo s fd ⟨[u], []⟩ [(x, u)]) ∧
    (∀ (H : Hp) (a : Addr) (ns : List Int), ns.length ≤ n → (∀ p ∈ cs, H p.2 = some (.tbl #[])) → SqL K H a (ns.map V.int) → sp [.ref a] H (fun v _ => v = .bl true) fun _ _ _ => False) ∧
    ∀ base : Heap, K.In base → base.Ns mainGlobals mg → (∀ p ∈ cs, TabB base mg p.1 p.2) → FnG l.prog w K mg base CX k fa fd [x] sp
theorem walkGT {l : PySem.W.OpenLaw} {n k : Nat} {q : Program} {loose : List Str} {XP : (Str → Option Value) → Heap → Prop} {YP : World → Heap → Prop} {d : DefRec} {CX : World → CXT} {x : Str}
    (most : l.most = some n) (short : n ≤ sizeLine) (plain : d.params.defaults = []) (room : Room k callerA)
    (F : ∀ (w : World) (mg : Str → Option Value) (fa : Addr) (h : Heap), YP w h → h.Ns mainGlobals mg → mg d.name = some (.ref fa) → ∃ K : PySem.W.Frag, K.In h ∧ LawGAt l w K (CX w) k n x mg fa h)
    (noX : ∀ (w : World) (H : Hp) (s : Shared) (e : Value) (s' : Shared), CX w [] H s (fun _ _ _ => False) e s' → False) : PySem.W.WalkO q loose XP YP l.row.toRowW d [] (fun f vs => PySem.call f vs) := by
  refine Att.attach_callB most plain fun w s0 s mg mb fa o pm cd doc a us ns G Y ho hd hcd hmg list nums few bits quiet => ?_
  obtain ⟨K, inK, fd, cs, sp, t1, t2, t3, b, ask, prom⟩ := F w mg fa _ Y G.T.g hmg
  exact lawGT inK G.T.g G.T.b G.T.builtins G.T.nolimit quiet t1 t2 t3 G.T.bmain list nums (Nat.le_trans few short) room prom b (fun H => ask H a ns few) fun H e s' => noX w H s e s'
end Ad

/-! The head: what the top leaves, by one run. -/
namespace Ad
open PySem PySem.Spec PyProof.Rows L2 GxR
def dd (i : Nat) (x : Str) : He.DefD := ⟨(x, none), x, x, defArgs (topS i), defBody (topS i), defScope (topS i), [], []⟩
def fnL : List He.DefD := [dd 1 "parts_of", dd 2 "places_of", dd 4 "size", dd 5 "variables_of", dd 6 "paths_of", dd 7 "at", dd 8 "put_at", dd 10 "_law_pen", dd 11 "_law_draw", dd 12 "_law_pick", dd 13 "_law_is_var", dd 14 "_law_size", dd 15 "_law_vars", dd 16 "_law_drawn_term", dd 17 "_law_paths", dd 18 "_law_at", dd 19 "_law_put_there", dd 20 "law"]
def faL : List He.Fa := [.glo "parts_of", .glo "places_of", .glo "size", .glo "variables_of", .glo "paths_of", .glo "at", .glo "put_at", .glo "_law_pen", .glo "_law_draw", .glo "_law_pick", .glo "_law_is_var", .glo "_law_size", .glo "_law_vars", .glo "_law_drawn_term", .glo "_law_paths", .glo "_law_at", .glo "_law_put_there", .glo "law",
  .free "isinstance", .free "tuple", .free "range", .free "len", .free "sorted", .free "int", .free "sum", .free "list", .free "set", .free "repr", .free "reversed"]
def tfL : List He.Defn := [("paths_of", none)]
abbrev exL : PySem.W.Frag → Bool := fun _ => true
abbrev RL : PySem.W.OpenRow := PySem.W.OpenLaw.row PySem.Challenge.rw_downtoground_k05_whole_terms_and_paths
abbrev hkL : PySem.W.Hook := He.hookX 4 faL fnL [] tfL exL
def obL (s : PySem.W.SharedT) : He.AlX := He.obsX 4 faL fnL [] tfL exL (HandSHeadRun.getT s)
theorem obL_eq (s : PySem.W.SharedT) : obL s = hkL.obs s.abs := He.obsX_eq (HandSHeadRun.getT_eq s)
theorem runL (w : World) : HandSHeadRun.RunEq RL (PySem.W.view RL.prog [20]) hkL obL 4000 ["parts_of", "places_of", "size", "variables_of", "paths_of", "at", "put_at", "_law_pen", "_law_draw", "_law_pick", "_law_is_var", "_law_size", "_law_vars", "_law_drawn_term", "_law_paths", "_law_at", "_law_put_there"] w := by
  intro os
  kernel_rfl
end Ad

/-! What the head tells, put together. -/
namespace Ad
open PySem PySem.Spec PyProof.Rows L2 GxR
theorem fun_of {K : PySem.W.Frag} {x q : Str} {st : Stmt} {f : Addr} {fd : FuncData} (F : FunD K x q (defArgs st) (defBody st) (defScope st) [] [] f fd) : Fun K x q st f fd := by
  obtain ⟨oc, od, dV, kV, doc, pm, an, cdv, ct, osl, e, lk, code, dfl, _⟩ := F.ex
  rcases dfl with ⟨_, rfl⟩ | ⟨z, _⟩
  · exact ⟨⟨oc, od, kV, doc, pm, an, cdv, ct, osl, e, lk, code⟩, F.kp⟩
  · exact absurd rfl z
theorem funC_of {K : PySem.W.Frag} {x q : Str} {st : Stmt} {p : He.Defn} {fd : FuncData} (F : FunD K x q (defArgs st) (defBody st) (defScope st) [] [] (He.fAd K p) fd) : FunC K x q st (He.fAd K p) (.ref (He.codeOf K p)) fd := by
  obtain ⟨oc, od, dV, kV, doc, pm, an, cdv, ct, osl, e, lk, code, dfl, _⟩ := F.ex
  rcases dfl with ⟨_, rfl⟩ | ⟨z, _⟩
  · obtain ⟨c, rfl⟩ := He.codeIn_ref code
    have e2 : He.codeOf K p = c := He.codeOf_eq lk (by rw [e]; first | done | rfl)
    rw [e2]
    exact ⟨⟨oc, od, kV, doc, pm, an, ct, osl, e, lk, code⟩, F.kp⟩
  · exact absurd rfl z
section
variable {w : World} {K : PySem.W.Frag} {h : Heap} {mg : Str → Option Value} {f : Addr}
theorem facts (X : K.In h) (G : h.Ns mainGlobals mg) (hfa : mg ("law" : Str) = some (.ref f)) (c : He.SaysX faL fnL [] tfL exL w h K) : LawGAt PySem.Challenge.rw_downtoground_k05_whole_terms_and_paths w K CX0 8 63 "_law_script" mg f h := by
  have cd := c.t.d
  obtain ⟨d1, E1⟩ : ∃ fd, FunD K "parts_of" "parts_of" (defArgs (topS 1)) (defBody (topS 1)) (defScope (topS 1)) [] [] (He.fAd K ("parts_of", none)) fd := cd.def_ 0 (d := dd 1 "parts_of") rfl
  have F1 := fun_of E1
  have g1 : mg "parts_of" = some (.ref (He.fAd K ("parts_of", none))) := He.glo_ok X G (cd.fact 0 (f := .glo "parts_of") rfl)
  have b1 : Binds K d1 ["term"] [] := (fun_of E1).binds fun _ _ _ _ _ _ us hl => match us, hl with | [_], _ => rfl
  obtain ⟨d2, E2⟩ : ∃ fd, FunD K "places_of" "places_of" (defArgs (topS 2)) (defBody (topS 2)) (defScope (topS 2)) [] [] (He.fAd K ("places_of", none)) fd := cd.def_ 1 (d := dd 2 "places_of") rfl
  have F2 := fun_of E2
  have g2 : mg "places_of" = some (.ref (He.fAd K ("places_of", none))) := He.glo_ok X G (cd.fact 1 (f := .glo "places_of") rfl)
  have b2 : Binds K d2 ["term"] [] := (fun_of E2).binds fun _ _ _ _ _ _ us hl => match us, hl with | [_], _ => rfl
  obtain ⟨d4, E4⟩ : ∃ fd, FunD K "size" "size" (defArgs (topS 4)) (defBody (topS 4)) (defScope (topS 4)) [] [] (He.fAd K ("size", none)) fd := cd.def_ 2 (d := dd 4 "size") rfl
  have F4 := fun_of E4
  have g4 : mg "size" = some (.ref (He.fAd K ("size", none))) := He.glo_ok X G (cd.fact 2 (f := .glo "size") rfl)
  have b4 : Binds K d4 ["term"] [] := (fun_of E4).binds fun _ _ _ _ _ _ us hl => match us, hl with | [_], _ => rfl
  obtain ⟨d5, E5⟩ : ∃ fd, FunD K "variables_of" "variables_of" (defArgs (topS 5)) (defBody (topS 5)) (defScope (topS 5)) [] [] (He.fAd K ("variables_of", none)) fd := cd.def_ 3 (d := dd 5 "variables_of") rfl
  have F5 := fun_of E5
  have g5 : mg "variables_of" = some (.ref (He.fAd K ("variables_of", none))) := He.glo_ok X G (cd.fact 3 (f := .glo "variables_of") rfl)
  have b5 : Binds K d5 ["term"] [] := (fun_of E5).binds fun _ _ _ _ _ _ us hl => match us, hl with | [_], _ => rfl
  obtain ⟨d6, E6⟩ : ∃ fd, FunD K "paths_of" "paths_of" (defArgs (topS 6)) (defBody (topS 6)) (defScope (topS 6)) [] [] (He.fAd K ("paths_of", none)) fd := cd.def_ 4 (d := dd 6 "paths_of") rfl
  have g6 : mg "paths_of" = some (.ref (He.fAd K ("paths_of", none))) := He.glo_ok X G (cd.fact 4 (f := .glo "paths_of") rfl)
  have b6 : Binds K d6 ["term"] [] := (fun_of E6).binds fun _ _ _ _ _ _ us hl => match us, hl with | [_], _ => rfl
  obtain ⟨d7, E7⟩ : ∃ fd, FunD K "at" "at" (defArgs (topS 7)) (defBody (topS 7)) (defScope (topS 7)) [] [] (He.fAd K ("at", none)) fd := cd.def_ 5 (d := dd 7 "at") rfl
  have F7 := fun_of E7
  have g7 : mg "at" = some (.ref (He.fAd K ("at", none))) := He.glo_ok X G (cd.fact 5 (f := .glo "at") rfl)
  have b7 : Binds K d7 ["term", "path"] [] := (fun_of E7).binds fun _ _ _ _ _ _ us hl => match us, hl with | [_, _], _ => rfl
  obtain ⟨d8, E8⟩ : ∃ fd, FunD K "put_at" "put_at" (defArgs (topS 8)) (defBody (topS 8)) (defScope (topS 8)) [] [] (He.fAd K ("put_at", none)) fd := cd.def_ 6 (d := dd 8 "put_at") rfl
  have F8 := fun_of E8
  have g8 : mg "put_at" = some (.ref (He.fAd K ("put_at", none))) := He.glo_ok X G (cd.fact 6 (f := .glo "put_at") rfl)
  have b8 : Binds K d8 ["term", "path", "new"] [] := (fun_of E8).binds fun _ _ _ _ _ _ us hl => match us, hl with | [_, _, _], _ => rfl
  obtain ⟨d10, E10⟩ : ∃ fd, FunD K "_law_pen" "_law_pen" (defArgs (topS 10)) (defBody (topS 10)) (defScope (topS 10)) [] [] (He.fAd K ("_law_pen", none)) fd := cd.def_ 7 (d := dd 10 "_law_pen") rfl
  have F10 := fun_of E10
  have g10 : mg "_law_pen" = some (.ref (He.fAd K ("_law_pen", none))) := He.glo_ok X G (cd.fact 7 (f := .glo "_law_pen") rfl)
  have b10 : Binds K d10 ["_law_script"] [] := (fun_of E10).binds fun _ _ _ _ _ _ us hl => match us, hl with | [_], _ => rfl
  obtain ⟨d11, E11⟩ : ∃ fd, FunD K "_law_draw" "_law_draw" (defArgs (topS 11)) (defBody (topS 11)) (defScope (topS 11)) [] [] (He.fAd K ("_law_draw", none)) fd := cd.def_ 8 (d := dd 11 "_law_draw") rfl
  have F11 := fun_of E11
  have g11 : mg "_law_draw" = some (.ref (He.fAd K ("_law_draw", none))) := He.glo_ok X G (cd.fact 8 (f := .glo "_law_draw") rfl)
  have b11 : Binds K d11 ["_law_pen_here", "_law_many"] [] := (fun_of E11).binds fun _ _ _ _ _ _ us hl => match us, hl with | [_, _], _ => rfl
  obtain ⟨d12, E12⟩ : ∃ fd, FunD K "_law_pick" "_law_pick" (defArgs (topS 12)) (defBody (topS 12)) (defScope (topS 12)) [] [] (He.fAd K ("_law_pick", none)) fd := cd.def_ 9 (d := dd 12 "_law_pick") rfl
  have F12 := fun_of E12
  have g12 : mg "_law_pick" = some (.ref (He.fAd K ("_law_pick", none))) := He.glo_ok X G (cd.fact 9 (f := .glo "_law_pick") rfl)
  have b12 : Binds K d12 ["_law_pen_here", "_law_some"] [] := (fun_of E12).binds fun _ _ _ _ _ _ us hl => match us, hl with | [_, _], _ => rfl
  obtain ⟨d13, E13⟩ : ∃ fd, FunD K "_law_is_var" "_law_is_var" (defArgs (topS 13)) (defBody (topS 13)) (defScope (topS 13)) [] [] (He.fAd K ("_law_is_var", none)) fd := cd.def_ 10 (d := dd 13 "_law_is_var") rfl
  have F13 := fun_of E13
  have g13 : mg "_law_is_var" = some (.ref (He.fAd K ("_law_is_var", none))) := He.glo_ok X G (cd.fact 10 (f := .glo "_law_is_var") rfl)
  have b13 : Binds K d13 ["_law_term"] [] := (fun_of E13).binds fun _ _ _ _ _ _ us hl => match us, hl with | [_], _ => rfl
  obtain ⟨d14, E14⟩ : ∃ fd, FunD K "_law_size" "_law_size" (defArgs (topS 14)) (defBody (topS 14)) (defScope (topS 14)) [] [] (He.fAd K ("_law_size", none)) fd := cd.def_ 11 (d := dd 14 "_law_size") rfl
  have F14 := fun_of E14
  have g14 : mg "_law_size" = some (.ref (He.fAd K ("_law_size", none))) := He.glo_ok X G (cd.fact 11 (f := .glo "_law_size") rfl)
  have b14 : Binds K d14 ["_law_term"] [] := (fun_of E14).binds fun _ _ _ _ _ _ us hl => match us, hl with | [_], _ => rfl
  obtain ⟨d15, E15⟩ : ∃ fd, FunD K "_law_vars" "_law_vars" (defArgs (topS 15)) (defBody (topS 15)) (defScope (topS 15)) [] [] (He.fAd K ("_law_vars", none)) fd := cd.def_ 12 (d := dd 15 "_law_vars") rfl
  have F15 := fun_of E15
  have g15 : mg "_law_vars" = some (.ref (He.fAd K ("_law_vars", none))) := He.glo_ok X G (cd.fact 12 (f := .glo "_law_vars") rfl)
  have b15 : Binds K d15 ["_law_term"] [] := (fun_of E15).binds fun _ _ _ _ _ _ us hl => match us, hl with | [_], _ => rfl
  obtain ⟨d16, E16⟩ : ∃ fd, FunD K "_law_drawn_term" "_law_drawn_term" (defArgs (topS 16)) (defBody (topS 16)) (defScope (topS 16)) [] [] (He.fAd K ("_law_drawn_term", none)) fd := cd.def_ 13 (d := dd 16 "_law_drawn_term") rfl
  have F16 := fun_of E16
  have g16 : mg "_law_drawn_term" = some (.ref (He.fAd K ("_law_drawn_term", none))) := He.glo_ok X G (cd.fact 13 (f := .glo "_law_drawn_term") rfl)
  have b16 : Binds K d16 ["_law_pen_here", "_law_rows", "_law_deep", "_law_variables"] [] := (fun_of E16).binds fun _ _ _ _ _ _ us hl => match us, hl with | [_, _, _, _], _ => rfl
  obtain ⟨d17, E17⟩ : ∃ fd, FunD K "_law_paths" "_law_paths" (defArgs (topS 17)) (defBody (topS 17)) (defScope (topS 17)) [] [] (He.fAd K ("_law_paths", none)) fd := cd.def_ 14 (d := dd 17 "_law_paths") rfl
  have F17 := fun_of E17
  have g17 : mg "_law_paths" = some (.ref (He.fAd K ("_law_paths", none))) := He.glo_ok X G (cd.fact 14 (f := .glo "_law_paths") rfl)
  have b17 : Binds K d17 ["_law_term"] [] := (fun_of E17).binds fun _ _ _ _ _ _ us hl => match us, hl with | [_], _ => rfl
  obtain ⟨d18, E18⟩ : ∃ fd, FunD K "_law_at" "_law_at" (defArgs (topS 18)) (defBody (topS 18)) (defScope (topS 18)) [] [] (He.fAd K ("_law_at", none)) fd := cd.def_ 15 (d := dd 18 "_law_at") rfl
  have F18 := fun_of E18
  have g18 : mg "_law_at" = some (.ref (He.fAd K ("_law_at", none))) := He.glo_ok X G (cd.fact 15 (f := .glo "_law_at") rfl)
  have b18 : Binds K d18 ["_law_term", "_law_path"] [] := (fun_of E18).binds fun _ _ _ _ _ _ us hl => match us, hl with | [_, _], _ => rfl
  obtain ⟨d19, E19⟩ : ∃ fd, FunD K "_law_put_there" "_law_put_there" (defArgs (topS 19)) (defBody (topS 19)) (defScope (topS 19)) [] [] (He.fAd K ("_law_put_there", none)) fd := cd.def_ 16 (d := dd 19 "_law_put_there") rfl
  have F19 := fun_of E19
  have g19 : mg "_law_put_there" = some (.ref (He.fAd K ("_law_put_there", none))) := He.glo_ok X G (cd.fact 16 (f := .glo "_law_put_there") rfl)
  have b19 : Binds K d19 ["_law_term", "_law_path", "_law_new"] [] := (fun_of E19).binds fun _ _ _ _ _ _ us hl => match us, hl with | [_, _, _], _ => rfl
  obtain ⟨d20, E20⟩ : ∃ fd, FunD K "law" "law" (defArgs (topS 20)) (defBody (topS 20)) (defScope (topS 20)) [] [] (He.fAd K ("law", none)) fd := cd.def_ 17 (d := dd 20 "law") rfl
  have F20 := fun_of E20
  have g20 : mg "law" = some (.ref (He.fAd K ("law", none))) := He.glo_ok X G (cd.fact 17 (f := .glo "law") rfl)
  have z_isinstance : mg "isinstance" = none := He.free_ok X G (cd.fact 18 (f := .free "isinstance") rfl)
  have z_tuple : mg "tuple" = none := He.free_ok X G (cd.fact 19 (f := .free "tuple") rfl)
  have z_range : mg "range" = none := He.free_ok X G (cd.fact 20 (f := .free "range") rfl)
  have z_len : mg "len" = none := He.free_ok X G (cd.fact 21 (f := .free "len") rfl)
  have z_sorted : mg "sorted" = none := He.free_ok X G (cd.fact 22 (f := .free "sorted") rfl)
  have z_int : mg "int" = none := He.free_ok X G (cd.fact 23 (f := .free "int") rfl)
  have z_sum : mg "sum" = none := He.free_ok X G (cd.fact 24 (f := .free "sum") rfl)
  have z_list : mg "list" = none := He.free_ok X G (cd.fact 25 (f := .free "list") rfl)
  have z_set : mg "set" = none := He.free_ok X G (cd.fact 26 (f := .free "set") rfl)
  have z_repr : mg "repr" = none := He.free_ok X G (cd.fact 27 (f := .free "repr") rfl)
  have m_reversed : mg "reversed" = none := He.free_ok X G (cd.fact 28 (f := .free "reversed") rfl)
  have law0 : f = He.fAd K ("law", none) := by
    have e := hfa.symm.trans g20
    cases e
    rfl
  subst law0
  have codeHd := c.hd ("paths_of", none) List.mem_cons_self
  refine ⟨d20, [He.cT K ("paths_of", none)], spLaw K (He.cT K ("paths_of", none)).2, ?_, ?_, ?_, ?_, ?_, ?_⟩
  · intro p hp
    cases List.mem_singleton.mp hp
    exact c.empty _ List.mem_cons_self
  · intro p hp
    cases List.mem_singleton.mp hp
    exact c.out _ List.mem_cons_self
  · intro p hp
    cases List.mem_singleton.mp hp
    exact PySem.W.codeHd_of_K X codeHd
  · exact fun s v => FunD.bindsA (ps := ["_law_script"]) E20 (fun _ _ _ _ _ _ us hl => match us, hl with | [_], _ => rfl) s [v] rfl
  · intro H a ns few tabs seq
    exact ⟨a, ns, rfl, seq, few, ⟨#[], tabs _ List.mem_cons_self, by first | trivial | exact TriplesOk.nil | constructor⟩, fun _ => rfl⟩
  · intro base inB nsB tb
    have tb0 := tb _ List.mem_cons_self
    have G1 : FnOk PySem.Challenge.rw_downtoground_k05_whole_terms_and_paths.prog w K mg base CX0 1 _ d1 ["term"] (spParts K) := ok_parts F1 z_isinstance z_tuple
    have G2 : FnOk PySem.Challenge.rw_downtoground_k05_whole_terms_and_paths.prog w K mg base CX0 1 _ d2 ["term"] (spPlaces K) := ok_places F2 z_isinstance z_tuple z_range z_len
    have G13 : FnOk PySem.Challenge.rw_downtoground_k05_whole_terms_and_paths.prog w K mg base CX0 1 _ d13 ["_law_term"] (spIsVar K) := ok_isvar F13 z_isinstance z_int
    have G11 : FnOk PySem.Challenge.rw_downtoground_k05_whole_terms_and_paths.prog w K mg base CX0 1 _ d11 ["_law_pen_here", "_law_many"] Pn.spDraw := Pn.ok_draw F11 z_int z_len
    have G12 : FnOk PySem.Challenge.rw_downtoground_k05_whole_terms_and_paths.prog w K mg base CX0 2 _ d12 ["_law_pen_here", "_law_some"] (Pn.spPick K) := Pn.ok_pick F12 G11 g11 F11.kp b11 z_len
    refine ok_law F20 ⟨(Pn.ok_pen (k := 0) F10 z_int z_list).mono (by decide), g10, F10.kp, b10⟩ ⟨G11.mono (by decide), g11, F11.kp, b11⟩
      ⟨(ok_drawn F16 g16 b16 (G11.mono (by decide : 1 ≤ 2)) g11 F11.kp b11 G12 g12 F12.kp b12 z_tuple z_range 4).mono (by decide), g16, F16.kp, b16⟩
      ⟨ok_lpaths F17 g17 b17 G13 g13 F13.kp b13 z_range z_len 6, g17, F17.kp, b17⟩ ⟨(ok_size F4 G1 g1 F1.kp b1 z_len).mono (by decide), g4, F4.kp, b4⟩ ⟨ok_lsize F14 g14 b14 G13 g13 F13.kp b13 z_sum 6, g14, F14.kp, b14⟩
      ⟨(ok_vars F5 G1 g1 F1.kp b1 z_tuple z_sorted z_isinstance z_int).mono (by decide), g5, F5.kp, b5⟩ ⟨ok_lvars F15 g15 b15 G13 g13 F13.kp b13 6, g15, F15.kp, b15⟩
      ⟨?_, g6, (fun_of E6).kp, b6⟩ ⟨(ok_put (k := 0) 6 F8 m_reversed).mono (by decide), g8, F8.kp, b8⟩ ⟨(ok_at (k := 0) F7).mono (by decide), g7, F7.kp, b7⟩ ⟨(ok_lat (k := 0) F18).mono (by decide), g18, F18.kp, b18⟩
      ⟨(ok_lput (k := 0) F19 g19 b19 6).mono (by decide), g19, F19.kp, b19⟩ z_range z_tuple z_sorted z_set z_repr
    have G6 := ok_paths (P := PySem.Challenge.rw_downtoground_k05_whole_terms_and_paths.prog) (w := w) (base := base) (funC_of (p := ("paths_of", none)) E6) tb0 (G2.mono (by decide : 1 ≤ 6)) g2 F2.kp b2 z_tuple
    exact G6
end
end Ad

open PySem PySem.W PySem.Calls PyProof.Rows
theorem PySem.Challenge.cw_downtoground_k05_whole_terms_and_paths_holds : PySem.Challenge.rw_downtoground_k05_whole_terms_and_paths.Holds := by
  w_on
  o_law
  refine HandSHeadRun.head_any (r := OpenLaw.row PySem.Challenge.rw_downtoground_k05_whole_terms_and_paths) (q := view (OpenLaw.row PySem.Challenge.rw_downtoground_k05_whole_terms_and_paths).prog [20]) (H := Ad.hkL) (ob := Ad.obL) (M := 4000) (loose := ["parts_of", "places_of", "size", "variables_of", "paths_of", "at", "put_at", "_law_pen", "_law_draw", "_law_pick", "_law_is_var", "_law_size", "_law_vars", "_law_drawn_term", "_law_paths", "_law_at", "_law_put_there"])
    (d := HandSHeadRun.topDef (OpenLaw.row PySem.Challenge.rw_downtoground_k05_whole_terms_and_paths).prog 20) (kwd := []) Ad.obL_eq (by kernel_rfl) (fun s => by kernel_rfl) Ad.runL (by kernel_rfl) (by kernel_rfl) (by kernel_rfl) (by rfl) (by first | assumption | decide +kernel) (by decide +kernel) ⟨rfl, rfl, rfl, rfl, rfl, by decide +kernel⟩ ?hw ?hc
  case hw => w_witness2
  case hc =>
    refine Ad.walkGT (l := PySem.Challenge.rw_downtoground_k05_whole_terms_and_paths) (n := 63) (k := 8) (x := "_law_script") (CX := fun _ => L2.CX0) rfl (by decide) (by kernel_rfl) ⟨rfl, by decide, by decide⟩ ?F (fun _ _ _ _ _ z => z)
    intro w mg fa h ⟨K, KX, c⟩ G named
    have e : (HandSHeadRun.topDef (OpenLaw.row PySem.Challenge.rw_downtoground_k05_whole_terms_and_paths).prog 20).name = ("law" : PySem.Str) := by kernel_rfl
    rw [e] at named
    exact ⟨K, KX, Ad.facts KX G named c⟩

