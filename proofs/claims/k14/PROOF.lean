import PyProof.Rows.All
import Wide.All
import OpenK.AllK
import Wide.FinOn
import HandS.ForMost
import HandS.More
import HandS.Style
import HandS.TupAny
import HandS.IsInst
import HandS.Codes
import HandS.Exc
import HandS.Ends
import PyProof.P3Eq
import PyProof.ReprReads
import PyProof.TupleIter
import HandS.GenList
import HandS.AnyAll
import PyProof.GenComp
import PyProof.TupleOfGen
import HandS.Conv
import HandS.WordsDict
import HandS.Zip
import HandS.Zip0
import PyProof.Draws
import PyProof.EnumMake
import PyProof.EnumFor
import PyProof.CollectWalk
import PyProof.ListNew
import HandS.Deep
import HandS.DictComp
import HandS.ExcInit
import HandS.ExcField
import HandS.WordsExc
import HandS.TryMany
import HandS.Lambda
import HandS.Walk
import HandS.EndTab
import HandS.Head0
import HandS.Head1
import HandS.Head2
import HandS.HeadEnd
import HandS.HeadHook1
import HandS.HeadHook2
import HandS.HeadHook3
import HandS.HeadHook4
import PySem.Challenge.RW_downtoground_k14_orders_refused
set_option Elab.async false
set_option linter.all false
set_option maxRecDepth 100000
set_option maxHeartbeats 0
/-! A tuple's tail from behind: t[:0:-1]. -/
namespace Ad
open PySem PySem.Spec PySem.Calls PyProof.Rows L2
section
variable {prog : Program} {w : World} {A : Around} {E : Value → Shared → Prop} {s : Shared}
theorem adj_back {n : Nat} (h : 1 ≤ n) : Builtin.Slice.sliceAdjust none (some 0) (-1) (n : Int) = ((n : Int) - 1, 0) := by
  unfold Builtin.Slice.sliceAdjust
  have h1 : ((-1 : Int) < 0) := by decide
  have h0 : ¬ ((0 : Int) < 0) := by decide
  simp only [h1, h0, if_true, if_false]
  congr 1
  omega
theorem places_back (n : Nat) : Builtin.Slice.slicePlaces ((n : Int) - 1) 0 (-1) = n - 1 := by
  unfold Builtin.Slice.slicePlaces
  have h1 : ¬ ((-1 : Int) > 0) := by decide
  have h2 : (- (-1 : Int)) = 1 := by decide
  simp only [h1, if_false, h2, Int.ediv_one]
  split <;> omega
theorem pick_back (xs : Array Value) : ((List.range (xs.size - 1)).filterMap fun (k : Nat) => xs[(((xs.size : Int) - 1) + (k : Int) * (-1)).toNat]?).toArray = (xs.toList.drop 1).reverse.toArray := by
  congr 1
  obtain ⟨l⟩ := xs
  simp only [List.size_toArray]
  have key : ∀ m, m ≤ l.length - 1 → (List.range m).filterMap (fun (k : Nat) => (l.toArray)[(((l.length : Int) - 1) + (k : Int) * (-1)).toNat]?) = (l.drop (l.length - m)).reverse := by
    intro m
    induction m with
    | zero =>
      intro _
      rw [List.range_zero, List.filterMap_nil, Nat.sub_zero, List.drop_length, List.reverse_nil]
    | succ m ih =>
      intro hm
      rw [List.range_succ, List.filterMap_append, ih (by omega), List.filterMap_cons, List.filterMap_nil]
      have e : (((l.length : Int) - 1) + (m : Int) * (-1)).toNat = l.length - (m + 1) := by omega
      rw [e]
      have hlt : l.length - (m + 1) < l.length := by omega
      rw [List.getElem?_toArray, List.getElem?_eq_getElem hlt]
      have d : l.drop (l.length - (m + 1)) = l[l.length - (m + 1)] :: l.drop (l.length - m) := by
        rw [List.drop_eq_getElem_cons hlt]
        congr 2
        omega
      rw [d, List.reverse_cons]
  have k1 := key (l.length - 1) (Nat.le_refl _)
  rw [k1]
  by_cases h : l.length = 0
  · have : l = [] := List.length_eq_zero_iff.mp h
    subst this
    rfl
  · congr 2
    omega
theorem applied_back {sl : Addr} {vu vs : Value} {n : Nat} {Q : Int × Int × Nat → Shared → Prop} (here : s.heap.IsSliceOf sl .none vu vs) (pu : IsPart vu (some 0)) (ps : IsPart vs (some (-1))) (hn : 1 ≤ n)
    (h : Q ((n : Int) - 1, -1, n - 1) s) : wpAny (model prog w) A (Builtin.Slice.sliceApplied (.ref sl) (pure (n : Int))) Q E s := by
  obtain ⟨ob, at', _, dat⟩ := id here
  unfold Builtin.Slice.sliceApplied Builtin.Slice.sliceFields
  refine wpAny_bind (wpAny_bind ?_)
  refine wpAny_field at' dat (x := .none) rfl (wpAny_bind ?_)
  refine wpAny_field at' dat (x := vu) rfl (wpAny_bind ?_)
  refine wpAny_field at' dat (x := vs) rfl (wpAny_pure ?_)
  refine wpAny_bind (HT.slicePart_ ps ?_)
  show wpAny _ _ (if ((-1 : Int) == 0) = true then _ else _) _ _ s
  rw [if_neg (by decide)]
  refine wpAny_bind (slicePart_none (wpAny_bind ?_))
  refine HT.slicePart_ pu (wpAny_bind (wpAny_pure ?_))
  show wpAny _ _ (match Builtin.Slice.sliceAdjust none (some 0) (-1) (n : Int) with | (lo, hi) => pure (lo, (-1 : Int), Builtin.Slice.slicePlaces lo hi (-1))) _ _ s
  rw [adj_back hn]
  show wpAny _ _ (pure ((n : Int) - 1, (-1 : Int), Builtin.Slice.slicePlaces ((n : Int) - 1) 0 (-1))) _ _ s
  rw [places_back]
  exact wpAny_pure h
theorem item_back {t sl : Addr} {items : Array Value} {vu vs : Value} {Q : Value → Shared → Prop} (ht : IsTup s.heap t items) (here : s.heap.IsSliceOf sl .none vu vs) (pu : IsPart vu (some 0)) (ps : IsPart vs (some (-1))) (hn : 1 ≤ items.size)
    (h : Q (.ref s.heap.objs.size) { s with heap := s.heap.push { cls := .type "tuple", data := .seq (items.toList.drop 1).reverse.toArray } }) (hsz : items.size ≤ sizeLine) :
    wpAny (model prog w) A (getItem (.ref t) (.ref sl)) Q E s := by
  have fits : sizeOk (.seq (items.toList.drop 1).reverse.toArray) := by
    show (items.toList.drop 1).reverse.toArray.size ≤ sizeLine
    rw [List.size_toArray, List.length_reverse, List.length_drop, Array.length_toList]
    omega
  obtain ⟨ob, at', cl, _⟩ := id here
  have isSl : s.TypeIs (.ref sl) "slice" := ⟨ob, at', cl⟩
  unfold getItem
  try (with_reducible refine wpAny_holding ?_)
  first
    | refine wpAny_bind (wpAny_pure ?_)
    | skip
  refine wpAny_bind (wpAny_sequenceKey ht.typeIs (by decide) ?_)
  refine wpAny_bind (wpAny_callSpecial?_slot (name := Str.ofString "__getitem__") ht.typeIs slot_tuple_getitem ?_)
  refine wpAny_call_entry slot_tuple_getitem ht.typeIs entry_tuple_getitem ?_ (args_tuple_getitem _ _)
  show wpAny _ _ (Builtin.Tuple.tupleItemsOf (.ref t) >>= _) _ _ s
  refine wpAny_bind (tupleItemsOf_ ht (wpAny_bind (wpAny_typeOf isSl ?_)))
  rw [if_pos (by decide)]
  refine wpAny_bind (applied_back here pu ps hn ?_)
  have not1 : ¬ ((((items.size : Int) - 1) == 0 && (-1 : Int) == 1 && (items.size - 1) == items.size) = true) := by
    intro q
    rw [Bool.and_eq_true, Bool.and_eq_true] at q
    exact absurd q.1.2 (by decide)
  show wpAny _ _ (if (((items.size : Int) - 1) == 0 && (-1 : Int) == 1 && (items.size - 1) == items.size) = true then _ else _) _ _ s
  rw [if_neg not1]
  rw [pick_back]
  first
    | exact wpAny_bind (wpAny_bind (m := Builtin.Tuple.tupleExact _) (wpAny_newObj_type (wpAny_pure ⟨_, rfl, wpAny_pure h⟩) fits))
    | exact wpAny_bind (wpAny_bind (m := Builtin.Tuple.tupleExact _) (wpAny_newObj_type (wpAny_pure (wpAny_pure ⟨_, rfl, wpAny_pure h⟩)) fits))
    | exact wpAny_bind (m := Builtin.Tuple.tupleExact _) (wpAny_newObj_type (wpAny_bind (wpAny_pure (wpAny_pure ⟨_, rfl, wpAny_pure h⟩))) fits)
    | exact wpAny_bind (m := Builtin.Tuple.tupleExact _) (wpAny_newObj_type (wpAny_pure ⟨_, rfl, wpAny_pure h⟩) fits)
end
section
variable {X : Cx}
/-- t[:0:-1], t a tuple that is not empty -/
def tBack (K : PySem.W.Frag) (te : TE) : TE := fun σ H Q => te σ H fun x G => ∃ a xs, x = .ref a ∧ SqT K G a xs ∧ 1 ≤ xs.length ∧ ∀ p, G p = none → Q (.ref p) (upd G p (.tup (xs.drop 1).reverse))
theorem pe_back {e : Expr} {te : TE} {k k0 : Nat} {p0 p1 p2 p3 pos : Pos} (he : PE X e te) :
    PE X (.Subscript e (.Slice none (some (.Constant (.int 0) k0 p0)) (some (.UnaryOp .USub (.Constant (.int 1) k p1) p2)) p3) pos) (tBack X.K te) := by
  constructor
  intro pins s0 σ H Q J ask
  refine Subscript_ (thn (he.run pins s0 σ H _ J ask) fun v s1 back => ?_)
  obtain ⟨x, G, J1, rx, a, xs, rfl, hx, hne, q⟩ := back
  cases rx
  have up : PO X (some (.Constant (.int 0) k0 p0)) (tPart (tC (.int 0))) := po_some pe_int
  have st : PO X (some (.UnaryOp .USub (.Constant (.int 1) k p1) p2)) (tPart (tUn (rU fun i => .int (-i)) (tC (.int 1)))) := po_some (pe_un un_neg pe_int)
  refine wpAny_Slice (thn (po_none.run pins s1 σ G (fun o G2 => o = none ∧ G2 = G) J1 ⟨rfl, rfl⟩) fun vl s2 r2 => ?_)
  obtain ⟨l, G2, J2, pl, rfl, rfl⟩ := r2
  refine thn (up.run pins s2 σ G2 (fun o G3 => o = some 0 ∧ G3 = G2) J2 ⟨0, rfl, rfl, rfl⟩) fun vu s3 r3 => ?_
  obtain ⟨u, G3, J3, pu, rfl, rfl⟩ := r3
  refine thn (st.run pins s3 σ G3 (fun o G4 => o = some (-1) ∧ G4 = G3) J3 ⟨1, rfl, -1, rfl, rfl, rfl⟩) fun vs s4 r4 => ?_
  obtain ⟨o, G4, J4, ps, rfl, rfl⟩ := r4
  cases pl
  have J5 : Inv X pins σ G4 { s4 with heap := s4.heap.push { cls := .type "slice", data := .fields #[.none, vu, vs] } } := J4.kept (t' := s4.toks) fun b ob z => Heap.get?_push_of_some _ z
  obtain ⟨its, r, ht, hz⟩ := J5.tuple hx
  have len := r.length
  show wpAny (model X.prog X.w) X.A (subscriptTail e (.Slice none (some (.Constant (.int 0) k0 p0)) (some (.UnaryOp .USub (.Constant (.int 1) k p1) p2)) p3) (.ref a) (.ref s4.heap.objs.size)) (EP X pins σ Q) X.xe _
  refine tail_any (ops := [.ref a, .ref s4.heap.objs.size]) ht.typeIs slot_tuple_getitem.lookup ?_ (by with_unfolding_all rfl)
  refine item_back ht (Heap.IsSliceOf.new _ .none vu vs) pu ps (by rw [List.size_toArray]; omega) ?_ (by rw [List.size_toArray]; omega)
  refine ⟨.ref _, _, J5.laid (t' := s4.toks) (o := .tup (xs.drop 1).reverse) (fun b ob z => Heap.get?_push_of_some _ z) (Nat.le_refl _) ?_, rfl, q _ (J5.hok.fresh (Nat.le_refl _))⟩
  refine ⟨by rw [List.length_reverse, List.length_drop]; omega, _, (r.drop 1).reverse, IsTup.new _ _⟩
end
end Ad

/-! Defs that are called where no repr is under way; repr of data; the end of a law of such a def. -/
namespace Ad
open PySem PySem.Spec PySem.Calls PyProof.Rows L2
theorem deeper_guards {A : Around} {env : Env} (h : A.guards = some []) : (A.deeper env).guards = some [] := by
  first
    | exact h
    | (show (A.deeper env).guards = _; simp [Around.deeper, h])
    | (obtain ⟨a, b, c, d, e⟩ := A; cases h; rfl)
/-- a def's promise, kept wherever no repr is under way -/
structure FnG (P : Program) (w : World) (K : PySem.W.Frag) (mg : Str → Option Value) (base : Heap) (CX : CXT) (k : Nat) (f : Addr) (fd : FuncData) (ps : List Str) (sp : Sp) : Prop where
  len : ∀ vs H Q E, sp vs H Q E → vs.length = ps.length
  run : ∀ (A : Around) (outer : List Env) (s : Shared) (H : Hp) (args : Args) (us : List Value) (vs : List V) (Q : VK) (E : XK), A.guards = some [] → Room k A → Env0 P w K mg base A outer s H → BindsTo s fd args (ps.zip us) → Vals vs us → sp vs H Q E →
    codeAny (model P w) A (.call (.ref f) args) (CR CX outer P w H s Q E) s
/-- a def of the text, its code object told -/
structure FunC (K : PySem.W.Frag) (x qual : Str) (st : Stmt) (f : Addr) (cdv : Value) (fd : FuncData) : Prop where
  ex : ∃ (oc : Value) (od : Option Addr) (kV doc pm : Value) (an : Option Addr) (ct : Value) (osl : Array (Option Value)),
    fd = PySem.W.fnOf x qual (defArgs st) (defBody st) (defScope st) .none kV doc pm an cdv ct ∧ K.lookup f = some ⟨oc, od, .func fd, osl⟩ ∧ PySem.W.codeIn K cdv qual = true
  kp : PySem.W.keepIn K (.ref f) = true
theorem FunC.fun {K : PySem.W.Frag} {x qual : Str} {st : Stmt} {f : Addr} {cdv : Value} {fd : FuncData} (F : FunC K x qual st f cdv fd) : Fun K x qual st f fd := by
  obtain ⟨⟨oc, od, kV, doc, pm, an, ct, osl, h⟩, k⟩ := F
  exact ⟨⟨oc, od, kV, doc, pm, an, cdv, ct, osl, h⟩, k⟩
theorem fng_ofC {CX : CXT} {P : Program} {w : World} {K : PySem.W.Frag} {mg : Str → Option Value} {base : Heap} {k : Nat} {x qual : Str} {st : Stmt} {f : Addr} {cdv : Value} {fd : FuncData} {N ps : List Str} {sp : Sp} (F : FunC K x qual st f cdv fd) (S : FnScope N ps (defScope st))
    (len : ∀ vs H Q E, sp vs H Q E → vs.length = ps.length)
    (body : ∀ (A : Around) (outer : List Env) (s : Shared) (H : Hp) (vs : List V) (Q : VK) (E : XK), A.guards = some [] → Room k (A.deeper (envOfC qual (defScope st) s.heap.objs.size f cdv)) → sp vs H Q E →
      ∃ t, PSs (cxOf CX P w K mg base N qual (defScope st) f cdv A outer s H E) (defBody st) t ∧ t { nx := fun _ H' => Q .non H', rt := Q } (start N vs) H) : FnG P w K mg base CX (k + 1) f fd ps sp := by
  obtain ⟨oc, od, kV, doc, pm, an, ct, osl, rfl, look, code⟩ := F.ex
  constructor
  · exact len
  · intro A outer s H args us vs Q E gd room e0 binds rel asked
    have many := len _ _ _ _ asked
    have kin : K.In s.heap := e0.mod.kin.keeps fun b o e => (e0.bs b o e).1
    have lim : s.heap.NoLimit := e0.mod.nolimit.keeps fun b o e => (e0.bs b o e).1
    have kinds : ∀ y ∈ ps.zip us, (defScope st).names.lookup y.1 = some .local ∨ ((defScope st).names.lookup y.1 = some .cell ∧ ((cellsFrom (s.heap.objs.size + 1) (defScope st).names []).lookup y.1).isSome = true) := by
      rintro ⟨n, v⟩ hy
      rcases S.par n (List.of_mem_zip hy).1 with q | q
      · exact .inl q
      · exact .inr ⟨q, PySem.W.cellsFrom_some _ _ _ (.inl q)⟩
    refine codeAny_call_function room.depth (kin _ _ look) rfl S.co S.gen rfl (PySem.W.codeRec_of kin code) (binds _ _ _ _ ?_)
    refine wpAny_newFunctionEnv_cells S.kind kinds fun env he s1 ready => ?_
    subst he
    refine ⟨lim.keeps ready.toInCall.keep, codeAny_func ?_⟩
    obtain ⟨t, ht, hq⟩ := body A outer s H vs Q E gd (room.deeper _) asked
    have J : Inv (cxOf CX P w K mg base N qual (defScope st) f cdv A outer s H E) [] (start N vs) H s1 := inv_start S room.hd e0 many rel ready
    refine wpAny_mono (ht.run [] s1 (start N vs) H _ J hq) (fun fl s' hs => ?_) fun e s' hs => hs
    have fin : ∀ {σ' : L2.St} {H' : Hp} {v : V} {u : Value}, Inv (cxOf CX P w K mg base N qual (defScope st) f cdv A outer s H E) [] σ' H' s' → RelV v u → Q v H' → CE outer P w H s Q u s' := by
      intro σ' H' v u J' rv q
      exact ⟨v, H', J'.os, J'.bare, J'.base, J'.hok, rv, q⟩
    match fl, hs with
    | .ret u, ⟨v, σ', H', J', rv, q⟩ => exact fin J' rv q
    | .next, ⟨σ', H', J', q⟩ => exact fin (v := V.non) (u := Value.none) J' rfl q
    | .brk, ⟨_, _, _, q⟩ => exact False.elim q
    | .cont, ⟨_, _, _, q⟩ => exact False.elim q
theorem fng_of {CX : CXT} {P : Program} {w : World} {K : PySem.W.Frag} {mg : Str → Option Value} {base : Heap} {k : Nat} {x qual : Str} {st : Stmt} {f : Addr} {fd : FuncData} {N ps : List Str} {sp : Sp} (F : Fun K x qual st f fd) (S : FnScope N ps (defScope st))
    (len : ∀ vs H Q E, sp vs H Q E → vs.length = ps.length)
    (body : ∀ (cdv : Value) (A : Around) (outer : List Env) (s : Shared) (H : Hp) (vs : List V) (Q : VK) (E : XK), A.guards = some [] → Room k (A.deeper (envOfC qual (defScope st) s.heap.objs.size f cdv)) → sp vs H Q E →
      ∃ t, PSs (cxOf CX P w K mg base N qual (defScope st) f cdv A outer s H E) (defBody st) t ∧ t { nx := fun _ H' => Q .non H', rt := Q } (start N vs) H) : FnG P w K mg base CX (k + 1) f fd ps sp := by
  obtain ⟨⟨oc, od, kV, doc, pm, an, cdv, ct, osl, h⟩, kp⟩ := F
  exact fng_ofC (F := ⟨⟨oc, od, kV, doc, pm, an, ct, osl, h⟩, kp⟩) S len (body cdv)
/-- a def that keeps its promise everywhere -/
theorem FnG.of {CX : CXT} {P : Program} {w : World} {K : PySem.W.Frag} {mg : Str → Option Value} {base : Heap} {k : Nat} {f : Addr} {fd : FuncData} {ps : List Str} {sp : Sp} (F : FnOk P w K mg base CX k f fd ps sp) : FnG P w K mg base CX k f fd ps sp :=
  ⟨F.len, fun A outer s H args us vs Q E _ => F.run A outer s H args us vs Q E⟩
section
variable {X : Cx} {CX : CXT} {k : Nat} {f : Addr} {fd : FuncData} {ps : List Str} {sp : Sp} {E : XK} {x : Str} {p pos : Pos} {e : Expr} {es : List Expr} {t : TA}
/-- f(e, ..) of such a def, where no repr is under way -/
theorem pe_callG (F : FnG X.prog X.w X.K X.mg X.base CX k f fd ps sp) (gd : X.A.guards = some []) (hr : Room k X.A) (hg : Gl X x) (hm : X.mg x = some (.ref f)) (hk : PySem.W.keepIn X.K (.ref f) = true) (hb : Binds X.K fd ps []) (hx : Passes CX X E)
    (pa : PA X (e :: es) t) (hdb : (x == ("__debug__" : Str)) = false := by decide) (hst : starEach (e :: es) X.env = (false, eval e X.env) :: starEach es X.env := by rfl) (hpl : (backTo pos (starEach es X.env)).any (·.1) = false := by rfl) :
    PE X (.Call (.Name x p) (e :: es) [] pos) (tCall sp [] E t) := by
  constructor
  intro pins s σ H Q J ask
  refine wpAny_Call_Name_kw (ld_glob J hg hm ?_ hdb)
  refine PySem.W.callWith_K (h₀ := X.base) J.ok.mod.kin hk (thn (pa.run pos pins s σ H _ (J.tok _) ask) fun us s1 back => ?_) hst hpl
  obtain ⟨vs, G, J1, rel, q⟩ := back
  refine ⟨J1.kIn, ?_⟩
  have q' : sp vs G Q E := by
    have z : sp (vs ++ []) G Q E := q
    rw [List.append_nil] at z
    exact z
  have many : us.length = ps.length := by
    rw [← rel.length]
    exact F.len _ _ _ _ q'
  have b := hb s1 us J1.kIn (by rw [List.append_nil]; exact many)
  rw [List.append_nil] at b
  refine wpAny_call (codeAny_mono (F.run X.A X.stack s1 G ⟨us, []⟩ us vs Q E gd hr J1.env0 b rel q') fun r s' back => ?_)
  match r, back with
  | .error er, back => exact hx pins σ G s1 er s' J1 back
  | .ok (.ret u), back => exact J1.after back
  | .ok .next, back => exact False.elim back
  | .ok .brk, back => exact False.elim back
  | .ok .cont, back => exact False.elim back
/-- repr(x) of data, where no repr is under way -/
theorem call_reprD (gd : X.A.guards = some []) (hu : X.A.units + 64 < cLine) : CallR X (.builtin "repr") (fun xs H Q => ∃ (v : V) (d : PyData), xs = [v] ∧ Dp X.K H v d ∧ d.showable = true ∧ d.hasDict = false ∧ d.depth ≤ 60 ∧ d.shown.length ≤ sizeLine ∧ Q (.str d.shown) H) := by
  intro pins s σ H xs us Q J rel ask
  obtain ⟨v, d, rfl, hd, show', plain, deep, fits, q⟩ := ask
  match us, rel with
  | [u], .cons r .nil =>
    obtain ⟨as, reads⟩ := Dp.reads J d v u hd r
    cases reads with
    | none => exact P.repr_of_none ⟨.str _, H, J.tok _, ⟨_, rfl⟩, q⟩
    | bool b =>
      refine P.repr_of_bool ⟨.str _, H, J.tok _, ⟨_, rfl⟩, ?_⟩
      cases b <;> exact q
    | int i tk => exact P.repr_of_int (of_decide_eq_true show') ⟨.str _, H, J.tok _, ⟨_, rfl⟩, q⟩
    | str z tk => exact P.repr_of_str ⟨.str _, H, J.tok _, ⟨_, rfl⟩, q⟩ fits
    | list h1 h2 h3 h4 => exact repr_of_reads' (Reads.list h1 h2 h3 h4) show' (PyData.noDict_hsm plain) gd (by omega) (fun _ _ z => z) (fun h' u tk kp => ⟨.str _, H, J.kept (t' := tk) kp, ⟨_, rfl⟩, q⟩) fits
    | tuple h1 h2 h3 h4 => exact repr_of_reads' (Reads.tuple h1 h2 h3 h4) show' (PyData.noDict_hsm plain) gd (by omega) (fun _ _ z => z) (fun h' u tk kp => ⟨.str _, H, J.kept (t' := tk) kp, ⟨_, rfl⟩, q⟩) fits
    | dict h1 h2 h3 h4 h5 => cases plain
end
/-- the call of a law by such a def, from the state behind the top -/
theorem lawG {P : Program} {w : World} {K : PySem.W.Frag} {mg mb : Str → Option Value} {CX : CXT} {k : Nat} {fa a : Addr} {fd : FuncData} {x : Str} {sp : Sp} {s : Shared} {vs : List Value} {ns : List Int}
    (kin : K.In s.heap) (gl : s.heap.Ns mainGlobals mg) (bl : s.heap.Ns builtinsNs mb) (same : ∀ x : Str, x ≠ "__name__" → mb x = bootBuiltins x) (lim : s.heap.NoLimit) (gens : s.gens = #[])
    (at' : s.heap.get? a = some { cls := .type "list", data := .seq vs.toArray }) (nums : IntsAre vs ns) (few : ns.length ≤ sizeLine) (room : Room k callerA)
    (F : ∀ base : Heap, K.In base → base.Ns mainGlobals mg → FnG P w K mg base CX k fa fd [x] sp) (bind : ∀ (s : Shared) (u : Value), BindsTo s fd ⟨[u], []⟩ [(x, u)])
    (asked : ∀ H : Hp, Only H → SqL K H a (ns.map V.int) → sp [.ref a] H (fun v _ => v = .bl true) fun _ _ _ => False) (noExc : ∀ H e s', CX [] H s (fun _ _ _ => False) e s' → False) :
    codeAny (model P w) callerA (.call (.ref fa) ⟨[.ref a], []⟩) (fun r s' => r = .ok (.ret (.bool true)) ∧ OldK s.heap s'.heap ∧ s'.os = s.os ∧ AllBare s'.gens) s := by
  have rel := vals_ints nums
  have many := nums.length
  have from' : ∀ H : Hp, Only H → SqL K H a (ns.map V.int) → HOk P w H s.heap → (∀ b, H b ≠ none → b = a) → (H a ≠ none → K.lookup a = none) →
      codeAny (model P w) callerA (.call (.ref fa) ⟨[.ref a], []⟩) (fun r s' => r = .ok (.ret (.bool true)) ∧ OldK s.heap s'.heap ∧ s'.os = s.os ∧ AllBare s'.gens) s := by
    intro H only seq ok onlyA notK
    have hid : ∀ {b : Addr} {o : Obj}, s.heap.get? b = some o → H b = none → (hidT s.heap H).get? b = some o := by
      intro b o e n
      exact hidT_get e n
    have dict0 : ∀ {b : Addr} {o : Obj} {es : Array DictEntry} {ep : Nat}, s.heap.get? b = some o → o.data = .dict es ep → H b = none := by
      intro b o es ep e d
      cases q : H b with
      | none => rfl
      | some u =>
        obtain rfl : b = a := onlyA b (by rw [q]; exact Option.some_ne_none u)
        rw [at'] at e
        cases e
        exact nomatch (show Data.seq vs.toArray _ = Data.dict es ep from d)
    have ns' : ∀ {b : Addr} {m : Str → Option Value}, s.heap.Ns b m → (hidT s.heap H).Ns b m := by
      rintro b m ⟨o, es, ep, e, d, r⟩
      exact ⟨o, es, ep, hid e (dict0 e d), d, r⟩
    have kin' : K.In (hidT s.heap H) := by
      intro b o e
      refine hid (kin b o e) ?_
      cases q : H b with
      | none => rfl
      | some u =>
        obtain rfl : b = a := onlyA b (by rw [q]; exact Option.some_ne_none u)
        rw [notK (by rw [q]; exact Option.some_ne_none u)] at e
        cases e
    have mod : Mod K mg (hidT s.heap H) := by
      refine ⟨kin', ns' gl, ⟨mb, ns' bl, same⟩, ?_⟩
      obtain ⟨mc, h1, h2⟩ := lim
      exact ⟨mc, ns' h1, h2⟩
    have none' : ∀ {q : Prop} (b : Addr), b ∈ ([] : List Addr) → q := fun {q} b hb => absurd hb (by simp)
    have env : Env0 P w K mg (hidT s.heap H) callerA [] s H := ⟨rfl, mod, fun b o e => of_hidT e, Nat.le_of_eq (hidT_size _ _), trivial, fun b hb => none' b hb, ok, .of_eq gens⟩
    have run := (F _ kin' (ns' gl)).run callerA [] s H ⟨[.ref a], []⟩ [.ref a] [.ref a] _ _ rfl room env (bind s (.ref a)) (.cons rfl .nil) (asked H only seq)
    refine codeAny_mono run fun r s' back => ?_
    match r, back with
    | .error e, back => exact (noExc H e s' back).elim
    | .ok .next, back => exact False.elim back
    | .ok .brk, back => exact False.elim back
    | .ok .cont, back => exact False.elim back
    | .ok (.ret u), ⟨v, H', os, bare, un, ok', rv, (q : v = .bl true)⟩ =>
      subst q
      obtain rfl : u = Value.bool true := rv
      refine ⟨rfl, OldK.of_keep fun b o e => ?_, os, bare⟩
      cases q : H b with
      | none => exact un.keep b o e q (fun z => none' b z) (by simp)
      | some u =>
        rcases only b with z | ⟨ob, xs, z⟩
        · rw [q] at z
          cases z
        · obtain ⟨e1, _⟩ := ok b _ z
          obtain ⟨e2, _⟩ := ok' b _ (un.frzs b ob _ z)
          rw [e] at e1
          cases e1
          exact e2
  cases look : K.lookup a with
  | some o =>
    have e := kin a o look
    rw [at'] at e
    cases e
    refine from' (fun _ => none) (fun _ => .inl rfl) (.inr ⟨_, vs.toArray, _, look, rfl, rfl, rfl, ?_, by simpa using rel⟩) ?_ (fun b z => absurd rfl z) fun z => absurd rfl z
    · rw [List.size_toArray, many]
      exact few
    · intro b u z
      exact nomatch (show (none : Option HO) = some u from z)
  | none =>
    refine from' (fun b => if b = a then some (.frz { cls := .type "list", data := .seq vs.toArray } (.lst (ns.map V.int))) else none) (fun b => ?_) (.inl (.inr ⟨{ cls := .type "list", data := .seq vs.toArray }, if_pos rfl⟩)) (fun b u z => ?_) (fun b z => ?_) fun _ => look
    all_goals by_cases hb : b = a
    · exact .inr ⟨_, _, if_pos hb⟩
    · exact .inl (if_neg hb)
    · cases (if_pos hb).symm.trans z
      subst hb
      refine ⟨at', ?_, vs, _, rel, at'⟩
      rw [List.length_map]
      exact few
    · cases (if_neg hb).symm.trans z
    · exact hb
    · exact absurd (if_neg hb) z
/-- the head's goal from such a law's promise -/
theorem walkG {l : PySem.W.OpenLaw} {n k : Nat} {q : Program} {loose : List Str} {XP : (Str → Option Value) → Heap → Prop} {YP : World → Heap → Prop} {d : DefRec} {K : Params → PySem.W.Frag} {CX : World → CXT} {sp : World → Sp} {x : Str}
    (hn : l.most = some n) (hn2 : n ≤ sizeLine) (hdf : d.params.defaults = []) (room : Room k callerA) (hY : ∀ (w : World) (h : Heap), YP w h → (K w.params).In h)
    (F : ∀ (w : World) (mg : Str → Option Value) (fa : Addr) (h : Heap), (K w.params).In h → h.Ns mainGlobals mg → mg d.name = some (.ref fa) →
      ∃ fd : FuncData, (∀ (s : Shared) (u : Value), BindsTo s fd ⟨[u], []⟩ [(x, u)]) ∧ ∀ base : Heap, (K w.params).In base → base.Ns mainGlobals mg → FnG l.prog w (K w.params) mg base (CX w) k fa fd [x] (sp w))
    (asked : ∀ (w : World) (H : Hp) (a : Addr) (ns : List Int), ns.length ≤ n → Only H → SqL (K w.params) H a (ns.map V.int) → sp w [.ref a] H (fun v _ => v = .bl true) fun _ _ _ => False)
    (noExc : ∀ (w : World) (H : Hp) (s : Shared) (e : Value) (s' : Shared), CX w [] H s (fun _ _ _ => False) e s' → False) :
    PySem.W.WalkO q loose XP YP l.row.toRowW d [] (fun f vs => PySem.call f vs) := by
  refine Att.attach_call hn hdf ?_
  intro w s0 s1 mg mb fa o pm cd doc a vs ns G Y ho hd hcd hmg hobj nums short gens
  have kin := hY w _ Y
  obtain ⟨fd, binds, prom⟩ := F w mg fa _ kin G.T.g hmg
  exact lawG kin G.T.g G.T.b G.T.builtins G.T.nolimit gens hobj nums (Nat.le_trans short hn2) room prom binds (fun H only seq => asked w H a ns short only seq) fun H e s' => noExc w H s1 e s'
end Ad

/-! xs.extend(t) of a tuple. -/
namespace Ad
open PySem PySem.Spec PySem.Calls PyProof.Rows L2
section
variable {X : Cx}
/-- xs.extend(t), t a tuple that may carry more than its items -/
theorem ext_tuple (l : Addr) (items : Array Value) (n : Nat) (b : Addr) (zs : Array Value) (m : Nat) (dd : Option Addr) (sl : Array (Option Value)) (notLong : ¬(!items.isEmpty && Builtin.List.listTooLong (items.size + zs.size)) = true) (short : items.size ≤ sizeLine) (both : items.size + zs.size ≤ sizeLine + 1) :
    Meets (Builtin.«list.extend» ⟨[.ref l, .ref b], []⟩) (fun _ R s => s.heap.get? l = some { cls := .type "list", dict := none, data := .seq items n, slots := #[] } ∧ s.heap.get? b = some { cls := .type "tuple", dict := dd, data := .seq zs m, slots := sl } ∧
      R (.ok (.ret Value.none)) { s with heap := s.heap.update l (Obj.mapSeq fun x => x ++ zs), toks := s.toks }) :=
  .of_wp fun prog w A R s h => by
    obtain ⟨hp, g, d, tk, os⟩ := s
    obtain ⟨hl, hb, h⟩ := h
    have f1 := AutoSeq1.idx_int
    have f2 := AutoSeq1.sub_tuple_tuple
    have f3 := AutoSeq1.sub_list_list
    have f4 := AutoSeq1.sub_tuple_list
    have f5 := AutoSeq1.sub_list_tuple
    have size2 : (items ++ zs).size ≤ sizeLine + 1 := by rw [Array.size_append]; exact both
    wp_walk using (wpAny_updateSeq hl rfl (hz := short) (_hz' := size2)), AutoSeq1.wpAny_loadPart' hl, AutoSeq1.wpAny_loadPart' hb
    exact ⟨_, rfl, h⟩
/-- xs.extend(t), t a tuple -/
def rExtT (K : PySem.W.Frag) : V → List V → Hp → VK → Prop := fun x vs H Q => ∃ l b xs zs, x = .ref l ∧ vs = [.ref b] ∧ H l = some (.lst xs) ∧ SqT K H b zs ∧ xs.length + zs.length ≤ sizeLine ∧ Q .non (upd H l (.lst (xs ++ zs)))
theorem mt_extT : MtM X "list.extend" (rExtT X.K) := by
  intro pins s σ H x vs v us Q I rx rv h
  obtain ⟨l, b, xs, zs, rfl, rfl, hH, hB, hz, q⟩ := h
  cases rx
  obtain ⟨u, rfl, ru⟩ := rv.one
  cases ru
  obtain ⟨z, its, n, r, hl, e⟩ := I.lstM hH
  obtain ⟨its2, r2, ⟨⟨cls, dd, data, sl⟩, ho, hcl, n2, hd⟩, _⟩ := I.tuple hB
  simp only at hcl hd
  subst hcl hd
  have hl2 := r2.length
  have short : its.toArray.size + its2.toArray.size ≤ sizeLine := by rw [List.size_toArray, List.size_toArray]; omega
  have notLong : ¬ (!its.toArray.isEmpty && Builtin.List.listTooLong (its.toArray.size + its2.toArray.size)) = true := by
    rw [notLongL short, Bool.and_false]
    exact Bool.false_ne_true
  refine call_meets F.slot_list_extend ⟨_, e, rfl⟩ F.entry_list_extend (F.args_list_extend_2 _ _) (ext_tuple l its.toArray n b its2.toArray n2 dd sl notLong (by rw [List.size_toArray]; omega) (by omega)) ⟨e, ho, ?_⟩
  refine ⟨.non, _, I.lset (its' := its ++ its2) hH e (by simp) (r.append r2) ?_, rfl, q⟩
  rw [List.length_append]
  omega
end
end Ad

/-! Terms: a variable's number, or a name with arguments; where they stand. -/
namespace Ad
open PySem PySem.Spec PySem.Calls PyProof.Rows L2
/-- a name whose text is short -/
def nameOk (x : Str) : Bool := PyData.strOk x && decide ((PyData.shown (.str x)).length ≤ 10)
theorem nameOk_lay {x : Str} (h : nameOk x = true) : PyData.strOk x = true := (Bool.and_eq_true_iff.mp h).1
theorem nameOk_short {x : Str} (h : nameOk x = true) : (PyData.shown (.str x)).length ≤ 10 := of_decide_eq_true (Bool.and_eq_true_iff.mp h).2
inductive T where
  | v (i : Int)
  | f (x : Str) (ts : List T)
namespace T
mutual
def d : T → PyData
  | .v i => .int i
  | .f x ts => .tuple (.str x :: ds ts)
def ds : List T → List PyData
  | [] => []
  | t :: ts => d t :: ds ts
end
mutual
/-- all that stands in a term -/
def parts : T → List T
  | .v i => [.v i]
  | .f x ts => .f x ts :: partsL ts
def partsL : List T → List T
  | [] => []
  | t :: ts => parts t ++ partsL ts
end
mutual
def size : T → Nat
  | .v _ => 1
  | .f _ ts => 1 + sizeL ts
def sizeL : List T → Nat
  | [] => 0
  | t :: ts => size t + sizeL ts
end
mutual
def dep : T → Nat
  | .v _ => 0
  | .f _ ts => 1 + depL ts
def depL : List T → Nat
  | [] => 0
  | t :: ts => max (dep t) (depL ts)
end
mutual
/-- the variables, as often as they stand there -/
def vars : T → List Int
  | .v i => [i]
  | .f _ ts => varsL ts
def varsL : List T → List Int
  | [] => []
  | t :: ts => vars t ++ varsL ts
end
mutual
/-- all names can be laid -/
def named : T → Bool
  | .v _ => true
  | .f x ts => nameOk x && namedL ts
def namedL : List T → Bool
  | [] => true
  | t :: ts => named t && namedL ts
end
mutual
theorem parts_len : ∀ t : T, t.parts.length = t.size
  | .v _ => rfl
  | .f x ts => by
    show (partsL ts).length + 1 = 1 + sizeL ts
    rw [partsL_len ts]
    omega
theorem partsL_len : ∀ ts : List T, (partsL ts).length = sizeL ts
  | [] => rfl
  | t :: ts => by
    show (parts t ++ partsL ts).length = size t + sizeL ts
    rw [List.length_append, parts_len t, partsL_len ts]
end
theorem size_pos : ∀ t : T, 1 ≤ t.size
  | .v _ => Nat.le_refl _
  | .f _ _ => Nat.le_add_right _ _
mutual
theorem dep_size : ∀ t : T, t.dep ≤ t.size
  | .v _ => Nat.zero_le _
  | .f x ts => by
    show 1 + depL ts ≤ 1 + sizeL ts
    have h := depL_size ts
    omega
theorem depL_size : ∀ ts : List T, depL ts ≤ sizeL ts
  | [] => Nat.le_refl _
  | t :: ts => by
    show max (dep t) (depL ts) ≤ size t + sizeL ts
    have h1 := dep_size t
    have h2 := depL_size ts
    omega
end
mutual
theorem d_depth : ∀ t : T, t.d.depth = t.dep
  | .v _ => rfl
  | .f x ts => by
    show max 0 (PyData.depthAll (ds ts)) + 1 = 1 + depL ts
    rw [ds_depth ts]
    omega
theorem ds_depth : ∀ ts : List T, PyData.depthAll (ds ts) = depL ts
  | [] => rfl
  | t :: ts => by
    show max (PyData.depth (d t)) (PyData.depthAll (ds ts)) = max (dep t) (depL ts)
    rw [d_depth t, ds_depth ts]
end
mutual
theorem d_lay : ∀ t : T, t.named = true → t.d.canLay0 = true
  | .v _, _ => rfl
  | .f x ts, h => by
    have h' : (nameOk x && namedL ts) = true := h
    rw [Bool.and_eq_true] at h'
    show (PyData.strOk x && PyData.canLayAll0 (ds ts)) = true
    rw [nameOk_lay h'.1, ds_lay ts h'.2]
    rfl
theorem ds_lay : ∀ ts : List T, namedL ts = true → PyData.canLayAll0 (ds ts) = true
  | [], _ => rfl
  | t :: ts, h => by
    have h' : (named t && namedL ts) = true := h
    rw [Bool.and_eq_true] at h'
    show (PyData.canLay0 (d t) && PyData.canLayAll0 (ds ts)) = true
    rw [d_lay t h'.1, ds_lay ts h'.2]
    rfl
end
theorem shaped {t : T} (h : t.named = true) (small : t.dep ≤ 64) : SeqAt.shaped t.d = true := by
  unfold SeqAt.shaped
  rw [d_lay t h, d_depth t]
  exact decide_eq_true small
theorem ds_map : ∀ ts : List T, ds ts = ts.map d
  | [] => rfl
  | t :: ts => by
    show d t :: ds ts = _
    rw [ds_map ts]
    rfl
theorem partsL_append : ∀ (as bs : List T), partsL (as ++ bs) = partsL as ++ partsL bs
  | [], _ => rfl
  | t :: ts, bs => by
    show parts t ++ partsL (ts ++ bs) = parts t ++ partsL ts ++ partsL bs
    rw [partsL_append ts bs, List.append_assoc]
theorem sizeL_append : ∀ (as bs : List T), sizeL (as ++ bs) = sizeL as + sizeL bs
  | [], _ => (Nat.zero_add _).symm
  | t :: ts, bs => by
    show size t + sizeL (ts ++ bs) = size t + sizeL ts + sizeL bs
    rw [sizeL_append ts bs, Nat.add_assoc]
theorem sizeL_reverse : ∀ ts : List T, sizeL ts.reverse = sizeL ts
  | [] => rfl
  | t :: ts => by
    rw [List.reverse_cons, sizeL_append, sizeL_reverse ts]
    show sizeL ts + (size t + 0) = size t + sizeL ts
    omega
theorem size_mem {t : T} {ts : List T} (h : t ∈ ts) : t.size ≤ sizeL ts := by
  induction ts with
  | nil => cases h
  | cons u us ih =>
    show t.size ≤ size u + sizeL us
    rcases List.mem_cons.mp h with e | e
    · rw [e]; omega
    · have := ih e; omega
theorem len_sizeL : ∀ ts : List T, ts.length ≤ sizeL ts
  | [] => Nat.le_refl _
  | t :: ts => by
    show ts.length + 1 ≤ size t + sizeL ts
    have h1 := size_pos t
    have h2 := len_sizeL ts
    omega
theorem dep_mem {t : T} {ts : List T} (h : t ∈ ts) : t.dep ≤ depL ts := by
  induction ts with
  | nil => cases h
  | cons u us ih =>
    show t.dep ≤ max (dep u) (depL us)
    rcases List.mem_cons.mp h with e | e
    · rw [e]; omega
    · have := ih e; omega
theorem named_mem {t : T} {ts : List T} (h : t ∈ ts) (n : namedL ts = true) : t.named = true := by
  induction ts with
  | nil => cases h
  | cons u us ih =>
    have n' : (named u && namedL us) = true := n
    rw [Bool.and_eq_true] at n'
    rcases List.mem_cons.mp h with e | e
    · rw [e]; exact n'.1
    · exact ih e n'.2
end T
/-- tuples stay -/
def TK (H H' : Hp) : Prop := ∀ b xs, (H b = some (.tup xs) → H' b = some (.tup xs)) ∧ (∀ o, H b = some (.frz o (.tup xs)) → H' b = some (.frz o (.tup xs)))
theorem TK.refl (H : Hp) : TK H H := fun _ _ => ⟨id, fun _ => id⟩
theorem TK.trans {H H1 H2 : Hp} (a : TK H H1) (b : TK H1 H2) : TK H H2 := fun c xs => ⟨fun e => (b c xs).1 ((a c xs).1 e), fun o e => (b c xs).2 o ((a c xs).2 o e)⟩
theorem TK.same {H H' : Hp} (s : Same H H') : TK H H' := fun b _ => ⟨s b _, fun _ => s b _⟩
theorem TK.lst {H : Hp} {p : Addr} {ys : List V} (h : H p = some (.lst ys)) (o : HO) : TK H (upd H p o) := fun b xs => by
  refine ⟨fun e => ?_, fun u e => ?_⟩
  · have n : b ≠ p := fun z => by rw [z, h] at e; cases e
    rw [upd_ne n]; exact e
  · have n : b ≠ p := fun z => by rw [z, h] at e; cases e
    rw [upd_ne n]; exact e
theorem TK.new {H : Hp} {p : Addr} (h : H p = none) (o : HO) : TK H (upd H p o) := fun b xs => by
  refine ⟨fun e => ?_, fun u e => ?_⟩
  · have n : b ≠ p := fun z => by rw [z, h] at e; cases e
    rw [upd_ne n]; exact e
  · have n : b ≠ p := fun z => by rw [z, h] at e; cases e
    rw [upd_ne n]; exact e
section
variable {K : PySem.W.Frag} {H H' : Hp}
theorem TK.sq (k : TK H H') {a : Addr} {xs : List V} (h : SqT K H a xs) : SqT K H' a xs := by
  rcases h with (h | ⟨o, h⟩) | h
  · exact .inl (.inl ((k a xs).1 h))
  · exact .inl (.inr ⟨o, (k a xs).2 o h⟩)
  · exact .inr h
mutual
/-- a value is a term -/
def Tm (K : PySem.W.Frag) (H : Hp) : T → V → Prop
  | .v i, x => x = .int i
  | .f n ts, x => ∃ a xs, x = .ref a ∧ SqT K H a (.str n :: xs) ∧ Tms K H ts xs
def Tms (K : PySem.W.Frag) (H : Hp) : List T → List V → Prop
  | [], xs => xs = []
  | t :: ts, xs => ∃ y ys, xs = y :: ys ∧ Tm K H t y ∧ Tms K H ts ys
end
mutual
theorem Tm.mono (k : TK H H') : ∀ (t : T) (x : V), Tm K H t x → Tm K H' t x
  | .v _, _, h => h
  | .f n ts, x, h => by
    obtain ⟨a, xs, e, sq, all⟩ := h
    exact ⟨a, xs, e, k.sq sq, Tms.mono k ts xs all⟩
theorem Tms.mono (k : TK H H') : ∀ (ts : List T) (xs : List V), Tms K H ts xs → Tms K H' ts xs
  | [], _, h => h
  | t :: ts, xs, h => by
    obtain ⟨y, ys, e, one, all⟩ := h
    exact ⟨y, ys, e, Tm.mono k t y one, Tms.mono k ts ys all⟩
end
mutual
theorem Tm.dp : ∀ (t : T) (x : V), Tm K H t x → Dp K H x t.d
  | .v i, x, h => by
    cases (show x = .int i from h)
    exact .int i
  | .f n ts, x, h => by
    obtain ⟨a, xs, rfl, sq, all⟩ := h
    exact .tup sq (.cons (.str n) (Tms.dp ts xs all))
theorem Tms.dp : ∀ (ts : List T) (xs : List V), Tms K H ts xs → DpAll K H xs (T.ds ts)
  | [], xs, h => by
    cases (show xs = [] from h)
    exact .nil
  | t :: ts, xs, h => by
    obtain ⟨y, ys, rfl, one, all⟩ := h
    exact .cons (Tm.dp t y one) (Tms.dp ts ys all)
end
theorem Tms.len : ∀ {ts : List T} {xs : List V}, Tms K H ts xs → xs.length = ts.length
  | [], xs, h => by
    cases (show xs = [] from h)
    rfl
  | t :: ts, xs, h => by
    obtain ⟨y, ys, rfl, _, all⟩ := h
    rw [List.length_cons, List.length_cons, Tms.len all]
theorem Tms.app : ∀ {as : List T} {xs : List V} {bs : List T} {ys : List V}, Tms K H as xs → Tms K H bs ys → Tms K H (as ++ bs) (xs ++ ys)
  | [], xs, _, _, h, k => by
    cases (show xs = [] from h)
    exact k
  | t :: ts, xs, _, _, h, k => by
    obtain ⟨y, zs, rfl, one, all⟩ := h
    exact ⟨y, _, rfl, one, Tms.app all k⟩
theorem Tms.one {t : T} {x : V} (h : Tm K H t x) : Tms K H [t] [x] := ⟨x, [], rfl, h, rfl⟩
theorem Tms.rev : ∀ {ts : List T} {xs : List V}, Tms K H ts xs → Tms K H ts.reverse xs.reverse
  | [], xs, h => by
    cases (show xs = [] from h)
    exact rfl
  | t :: ts, xs, h => by
    obtain ⟨y, ys, rfl, one, all⟩ := h
    rw [List.reverse_cons, List.reverse_cons]
    exact Tms.app (Tms.rev all) (Tms.one one)
theorem Tms.get : ∀ {ts : List T} {xs : List V} {i : Nat} {x : V}, Tms K H ts xs → xs[i]? = some x → ∃ t, ts[i]? = some t ∧ Tm K H t x
  | [], xs, i, x, h, e => by
    cases (show xs = [] from h)
    cases e
  | t :: ts, xs, i, x, h, e => by
    obtain ⟨y, ys, rfl, one, all⟩ := h
    cases i with
    | zero =>
      cases e
      exact ⟨t, rfl, one⟩
    | succ i => exact Tms.get (ts := ts) (xs := ys) (i := i) all e
theorem Tms.get' : ∀ {ts : List T} {xs : List V} {i : Nat} {t : T}, Tms K H ts xs → ts[i]? = some t → ∃ x, xs[i]? = some x ∧ Tm K H t x
  | [], xs, i, x, h, e => by cases e
  | t :: ts, xs, i, x, h, e => by
    obtain ⟨y, ys, rfl, one, all⟩ := h
    cases i with
    | zero =>
      cases e
      exact ⟨y, rfl, one⟩
    | succ i => exact Tms.get' (ts := ts) (xs := ys) (i := i) all e
/-- the last of them -/
theorem Tms.last : ∀ {ts : List T} {xs : List V}, Tms K H ts xs → ts ≠ [] → ∃ us u ys y, ts = us ++ [u] ∧ xs = ys ++ [y] ∧ Tms K H us ys ∧ Tm K H u y
  | [], _, _, n => absurd rfl n
  | [t], xs, h, _ => by
    obtain ⟨y, ys, rfl, one, all⟩ := h
    cases (show ys = [] from all)
    exact ⟨[], t, [], y, rfl, rfl, rfl, one⟩
  | t :: u :: ts, xs, h, _ => by
    obtain ⟨y, ys, rfl, one, all⟩ := h
    obtain ⟨us, w, zs, z, e1, e2, a, b⟩ := Tms.last (ts := u :: ts) all (by simp)
    exact ⟨t :: us, w, y :: zs, z, by rw [e1]; rfl, by rw [e2]; rfl, ⟨y, zs, rfl, one, a⟩, b⟩
end
end Ad

/-! What stands in a term. -/
namespace Ad
open PySem PySem.Spec PySem.Calls PyProof.Rows L2
theorem sq_ty {K : PySem.W.Frag} {H : Hp} {a : Addr} {xs : List V} (h : SqT K H a xs) : TyX K H (.ref a) (.type "tuple") := by
  rcases h with (h | ⟨o, h⟩) | h
  · exact .base (.tup h)
  · exact .fTuple h
  · obtain ⟨o, _, _, e, c, _⟩ := h
    exact .kTuple e c
theorem tm_tuple {K : PySem.W.Frag} {H : Hp} {n : Str} {ts : List T} {x : V} (h : Tm K H (.f n ts) x) : TyX K H x (.type "tuple") := by
  obtain ⟨a, xs, rfl, sq, _⟩ := h
  exact sq_ty sq
theorem kitTT {K : PySem.W.Frag} : PySem.W.kitOne K (.type "tuple") (.type "tuple") = some true := kit_ty (by decide +kernel)
theorem kitIT {K : PySem.W.Frag} : PySem.W.kitOne K (.type "int") (.type "tuple") = some false := kit_ty (by decide +kernel)
theorem kitTI {K : PySem.W.Frag} : PySem.W.kitOne K (.type "tuple") (.type "int") = some false := kit_ty (by decide +kernel)
theorem kitII {K : PySem.W.Frag} : PySem.W.kitOne K (.type "int") (.type "int") = some true := kit_ty (by decide +kernel)
def lenAt (H : Hp) (p : Addr) : Nat := match H p with
  | some (.lst xs) => xs.length
  | _ => 0
theorem lenAt_of {H : Hp} {p : Addr} {xs : List V} (h : H p = some (.lst xs)) : lenAt H p = xs.length := by
  unfold lenAt
  rw [h]
theorem same_on {H H' : Hp} {p : Addr} (s : Same H H') (n : H p = none) (o : HO) : Same H (upd H' p o) := fun b u e => by
  rw [upd_ne (ne_of_none e n)]
  exact s b u e
/-- the truth of a value, as a test -/
def tTrue (K : PySem.W.Frag) (te : TE) : TT := fun σ H Q => te σ H fun x G => ∃ b, TruV K x G b ∧ Q b G
theorem pt_true {X : Cx} {e : Expr} {te : TE} (he : PE X e te) (plain : ∀ whole, isTrue e X.env whole = (do let v ← whole; standAt e.pos; holding [v] (truthy v)) := by intro _; rfl) : PT X e (tTrue X.K te) := pt_truth he plain
/-- a while by a word and a measure -/
theorem while_m {c : TT} {tb : TS} {D : Ends} {σ : L2.St} {H : Hp} (Pv : L2.St → Hp → Prop) (μ : L2.St → Hp → Nat) (start : Pv σ H)
    (turn : ∀ σ H, Pv σ H → c σ H fun b G => if b = true then tb { D with nx := fun σ' H' => Pv σ' H' ∧ μ σ' H' < μ σ H, ct := fun σ' H' => Pv σ' H' ∧ μ σ' H' < μ σ H, bk := D.nx } σ G else D.nx σ G) (mono : ∀ σ H Q Q', (∀ b G, Q b G → Q' b G) → c σ H Q → c σ H Q') :
    ∃ W : Nat → L2.St → Hp → Prop, (∃ m, W m σ H) ∧ ∀ m σ H, W m σ H → c σ H fun b G => if b = true then ∃ N : L2.St → Hp → Prop, (∀ σ' H', N σ' H' → ∃ m', m' < m ∧ W m' σ' H') ∧ tb { D with nx := N, ct := N, bk := D.nx } σ G else D.nx σ G :=
  while_by Pv μ start turn mono
theorem mono_true {K : PySem.W.Frag} {te : TE} (m : ∀ σ H (Q Q' : VK), (∀ v G, Q v G → Q' v G) → te σ H Q → te σ H Q') : ∀ σ H (Q Q' : Bool → Hp → Prop), (∀ b G, Q b G → Q' b G) → tTrue K te σ H Q → tTrue K te σ H Q' := fun σ H Q Q' imp h => m σ H _ _ (fun v G ⟨b, t, q⟩ => ⟨b, t, imp _ _ q⟩) h
theorem mono_var {i : Nat} : ∀ σ H (Q Q' : VK), (∀ v G, Q v G → Q' v G) → tVar i σ H Q → tVar i σ H Q' := fun _ _ _ _ imp ⟨v, e, q⟩ => ⟨v, e, imp _ _ q⟩
end Ad

/-! Paths; places_of. -/
namespace Ad
open PySem PySem.Spec PySem.Calls PyProof.Rows L2
/-- two lists, item by item -/
def F2 {α β : Type} (R : α → β → Prop) : List α → List β → Prop
  | [], ys => ys = []
  | x :: xs, ys => ∃ y zs, ys = y :: zs ∧ R x y ∧ F2 R xs zs
section
variable {α β : Type} {R S : α → β → Prop}
theorem F2.mono (imp : ∀ a b, R a b → S a b) : ∀ {xs : List α} {ys : List β}, F2 R xs ys → F2 S xs ys
  | [], _, h => h
  | x :: xs, _, h => by
    obtain ⟨y, zs, rfl, r, t⟩ := h
    exact ⟨y, zs, rfl, imp _ _ r, F2.mono imp t⟩
theorem F2.len : ∀ {xs : List α} {ys : List β}, F2 R xs ys → ys.length = xs.length
  | [], ys, h => by
    cases (show ys = [] from h)
    rfl
  | x :: xs, _, h => by
    obtain ⟨y, zs, rfl, r, t⟩ := h
    rw [List.length_cons, List.length_cons, F2.len t]
theorem F2.app : ∀ {xs xs' : List α} {ys ys' : List β}, F2 R xs ys → F2 R xs' ys' → F2 R (xs ++ xs') (ys ++ ys')
  | [], _, ys, _, h, k => by
    cases (show ys = [] from h)
    exact k
  | x :: xs, _, _, _, h, k => by
    obtain ⟨y, zs, rfl, r, t⟩ := h
    exact ⟨y, _, rfl, r, F2.app t k⟩
theorem F2.one {a : α} {b : β} (h : R a b) : F2 R [a] [b] := ⟨b, [], rfl, h, rfl⟩
theorem F2.last : ∀ {xs : List α} {ys : List β}, F2 R xs ys → xs ≠ [] → ∃ us u zs z, xs = us ++ [u] ∧ ys = zs ++ [z] ∧ F2 R us zs ∧ R u z
  | [], _, _, n => absurd rfl n
  | [x], ys, h, _ => by
    obtain ⟨y, zs, rfl, r, t⟩ := h
    cases (show zs = [] from t)
    exact ⟨[], x, [], y, rfl, rfl, rfl, r⟩
  | x :: x2 :: xs, ys, h, _ => by
    obtain ⟨y, zs, rfl, r, t⟩ := h
    obtain ⟨us, u, qs, q, e1, e2, a, b⟩ := F2.last (xs := x2 :: xs) t (by simp)
    exact ⟨x :: us, u, y :: qs, q, by rw [e1]; rfl, by rw [e2]; rfl, ⟨y, qs, rfl, r, a⟩, b⟩
theorem F2.get : ∀ {xs : List α} {ys : List β} {i : Nat} {y : β}, F2 R xs ys → ys[i]? = some y → ∃ x, xs[i]? = some x ∧ R x y
  | [], ys, i, y, h, e => by
    cases (show ys = [] from h)
    cases e
  | x :: xs, ys, i, y, h, e => by
    obtain ⟨z, zs, rfl, r, t⟩ := h
    cases i with
    | zero =>
      cases e
      exact ⟨x, rfl, r⟩
    | succ i => exact F2.get (xs := xs) (ys := zs) (i := i) t e
theorem F2.get' : ∀ {xs : List α} {ys : List β} {i : Nat} {x : α}, F2 R xs ys → xs[i]? = some x → ∃ y, ys[i]? = some y ∧ R x y
  | [], ys, i, x, h, e => by cases e
  | x :: xs, ys, i, y, h, e => by
    obtain ⟨z, zs, rfl, r, t⟩ := h
    cases i with
    | zero =>
      cases e
      exact ⟨z, rfl, r⟩
    | succ i => exact F2.get' (xs := xs) (ys := zs) (i := i) t e
theorem F2.mem : ∀ {xs : List α} {ys : List β} {y : β}, F2 R xs ys → y ∈ ys → ∃ x, x ∈ xs ∧ R x y := fun h m => by
  obtain ⟨i, hi, rfl⟩ := List.mem_iff_getElem.mp m
  obtain ⟨x, e, r⟩ := h.get (List.getElem?_eq_getElem hi)
  exact ⟨x, List.mem_of_getElem? e, r⟩
end
end Ad

/-! at, put_at. -/
namespace Ad
open PySem PySem.Spec PySem.Calls PyProof.Rows L2
def iD (ns : List Int) : PyData := .tuple (ns.map .int)
theorem int_lay : ∀ ns : List Int, PyData.canLayAll0 (ns.map .int) = true
  | [] => rfl
  | n :: ns => by
    show (true && PyData.canLayAll0 (ns.map .int)) = true
    rw [int_lay ns]
    rfl
theorem int_depth : ∀ ns : List Int, PyData.depthAll (ns.map .int) = 0
  | [] => rfl
  | n :: ns => by
    show max 0 (PyData.depthAll (ns.map .int)) = 0
    rw [int_depth ns]
    rfl
theorem iD_shaped (ns : List Int) : SeqAt.shaped (iD ns) = true := by
  unfold SeqAt.shaped
  have h1 : (iD ns).canLay0 = true := int_lay ns
  have h2 : (iD ns).depth = 1 := by
    show PyData.depthAll (ns.map .int) + 1 = 1
    rw [int_depth]
  rw [h1, h2]
  rfl
theorem ints_dp {K : PySem.W.Frag} {H : Hp} : ∀ ns : List Int, DpAll K H (ns.map V.int) (ns.map .int)
  | [] => .nil
  | n :: ns => .cons (.int n) (ints_dp ns)
theorem iD_dp {K : PySem.W.Frag} {H : Hp} {a : Addr} {ns : List Int} (h : SqT K H a (ns.map V.int)) : Dp K H (.ref a) (iD ns) := .tup h (ints_dp ns)
theorem iD_nil (ns : List Int) : PyData.eqv (iD ns) (iD []) = ns.isEmpty := by
  cases ns <;> first | rfl | (simp [iD, PyData.eqv, PyData.eqvAll])
theorem hu1 {k : Nat} {A : Around} (hr : Room k A) : A.units + 1 < cLine := by
  have := hr.un
  omega
theorem hu64 {k : Nat} {A : Around} (hr : Room k A) : A.units + 64 < cLine := by
  have := hr.un
  omega
section
variable {P : Program} {w : World} {K : PySem.W.Frag} {mg : Str → Option Value} {base : Heap}
theorem same_new {H H' : Hp} {p : Addr} (s : Same H H') (n : H' p = none) (o : HO) : Same H (upd H' p o) := fun b u e => by
  rw [upd_ne (ne_of_none (s b u e) n)]
  exact s b u e
theorem vac {k : Nat} {f : Addr} {fd : FuncData} {ps : List Str} {sp : Sp} (no : ∀ vs H Q E, ¬ sp vs H Q E) : FnOk P w K mg base CX0 k f fd ps sp :=
  ⟨fun vs H Q E h => absurd h (no vs H Q E), fun A outer s H args us vs Q E _ _ _ _ h => absurd h (no vs H Q E)⟩
end
end Ad

/-! The law's own going: is it a variable, size, variables. -/
namespace Ad
open PySem PySem.Spec PySem.Calls PyProof.Rows L2
namespace T
mutual
theorem v_parts (j : Int) : ∀ t : T, .v j ∈ parts t ↔ j ∈ vars t
  | .v i => by
    show T.v j ∈ [T.v i] ↔ j ∈ [i]
    rw [List.mem_singleton, List.mem_singleton]
    exact ⟨fun e => T.v.inj e, fun e => congrArg T.v e⟩
  | .f x ts => by
    show T.v j ∈ T.f x ts :: partsL ts ↔ j ∈ varsL ts
    rw [List.mem_cons, ← v_partsL j ts]
    exact ⟨fun h => h.elim (fun e => nomatch e) id, .inr⟩
theorem v_partsL (j : Int) : ∀ ts : List T, .v j ∈ partsL ts ↔ j ∈ varsL ts
  | [] => ⟨(fun h => nomatch h), (fun h => nomatch h)⟩
  | t :: ts => by
    show T.v j ∈ parts t ++ partsL ts ↔ j ∈ vars t ++ varsL ts
    rw [List.mem_append, List.mem_append, v_parts j t, v_partsL j ts]
end
mutual
theorem vars_len : ∀ t : T, t.vars.length ≤ t.size
  | .v _ => Nat.le_refl _
  | .f x ts => by
    show (varsL ts).length ≤ 1 + sizeL ts
    have := varsL_len ts
    omega
theorem varsL_len : ∀ ts : List T, (varsL ts).length ≤ sizeL ts
  | [] => Nat.le_refl _
  | t :: ts => by
    show (vars t ++ varsL ts).length ≤ size t + sizeL ts
    have h1 := vars_len t
    have h2 := varsL_len ts
    rw [List.length_append]
    omega
end
end T
def T.isV : T → Bool
  | .v _ => true
  | .f _ _ => false
def spIsVar (K : PySem.W.Frag) : Sp := fun vs H Q _ => ∃ (t : T) (x : V), vs = [x] ∧ Tm K H t x ∧ Q (.bl t.isV) H
theorem cut_args {x : V} {xs : List V} : ¬ (HT.sIx (x :: xs).length 0 (some 1) = 0 ∧ HT.sIx (x :: xs).length (x :: xs).length none = (x :: xs).length) ∧ cutV (x :: xs) (some 1) none = xs := by
  have e2 : HT.sIx (x :: xs).length 0 (some ((1 : Nat) : Int)) = 1 := by
    rw [HT.sIx_nat, List.length_cons]
    omega
  have e3 : HT.sIx (x :: xs).length 0 (some 1) = 1 := e2
  constructor
  · rw [e3]
    omega
  · unfold cutV
    rw [e3, HT.sIx_none]
    show xs.take _ = _
    rw [List.take_of_length_le]
    rw [List.length_cons]
    omega
theorem sum_sizes : ∀ ts : List T, (ts.map fun t => (t.size : Int)).sum = (T.sizeL ts : Int)
  | [] => rfl
  | t :: ts => by
    rw [List.map_cons, List.sum_cons, sum_sizes ts]
    show (t.size : Int) + (T.sizeL ts : Int) = ((t.size + T.sizeL ts : Nat) : Int)
    omega
section
variable {P : Program} {w : World} {K : PySem.W.Frag} {mg : Str → Option Value} {base : Heap}
theorem T.varsL_append : ∀ (as bs : List T), T.varsL (as ++ bs) = T.varsL as ++ T.varsL bs
  | [], _ => rfl
  | t :: ts, bs => by
    show T.vars t ++ T.varsL (ts ++ bs) = T.vars t ++ T.varsL ts ++ T.varsL bs
    rw [T.varsL_append ts bs, List.append_assoc]
theorem T.varsL_take (ts : List T) (i : Nat) : (T.varsL (ts.take i)).length ≤ T.sizeL ts := by
  have h1 := T.varsL_len (ts.take i)
  have h2 := T.sizeL_append (ts.take i) (ts.drop i)
  rw [List.take_append_drop] at h2
  omega
end
end Ad

namespace Ad
open PySem PySem.Spec PySem.Calls PyProof.Rows L2
def topS (i : Nat) : Stmt := PySem.Challenge.pw_downtoground_k14_orders_refused.main.body.getD i (.Pass ⟨0, 0, 0, 0⟩)
end Ad

/-! The pen of a law: its cells, its draws, its picks. -/
namespace Pn
open PySem PySem.Spec PyProof.Rows L2
abbrev sPen : Stmt := Ad.topS 17
abbrev sDraw : Stmt := Ad.topS 18
abbrev sPick : Stmt := Ad.topS 19
theorem scPen : FnScope ["_law_script", "_law_fold", "_law_cell"] ["_law_script"] (defScope sPen) := ⟨rfl, rfl, rfl, by decide +kernel, rfl, by decide +kernel, by decide +kernel⟩
theorem scDraw : FnScope ["_law_pen_here", "_law_many", "_law_cell", "_law_digit", "_law_blend"] ["_law_pen_here", "_law_many"] (defScope sDraw) := ⟨rfl, rfl, rfl, by decide +kernel, rfl, by decide +kernel, by decide +kernel⟩
theorem scPick : FnScope ["_law_pen_here", "_law_some"] ["_law_pen_here", "_law_some"] (defScope sPick) := ⟨rfl, rfl, rfl, by decide +kernel, rfl, by decide +kernel, by decide +kernel⟩
/-! ### the pen's dict -/
abbrev kC : Key := .inr "cells"
abbrev kA : Key := .inr "at"
abbrev kD : Key := .inr "digits"
abbrev kN : Key := .inr "count"
abbrev kF : Key := .inr "fold"
theorem nCA : ¬ (kC = kA) := by decide +kernel
theorem nCD : ¬ (kC = kD) := by decide +kernel
theorem nCN : ¬ (kC = kN) := by decide +kernel
theorem nCF : ¬ (kC = kF) := by decide +kernel
theorem nAD : ¬ (kA = kD) := by decide +kernel
theorem nAN : ¬ (kA = kN) := by decide +kernel
theorem nAF : ¬ (kA = kF) := by decide +kernel
theorem nDN : ¬ (kD = kN) := by decide +kernel
theorem nDF : ¬ (kD = kF) := by decide +kernel
theorem nNF : ¬ (kN = kF) := by decide +kernel
def penK (l : Addr) (a d n f : Int) : List (Key × V) := [(kC, .ref l), (kA, .int a), (kD, .int d), (kN, .int n), (kF, .int f)]
section
variable (l : Addr) (a d n f x : Int)
theorem getC : valV (penK l a d n f) kC = some (.ref l) := valV_pos rfl
theorem getA : valV (penK l a d n f) kA = some (.int a) := by
  unfold penK; rw [valV_neg nCA, valV_pos rfl]
theorem getD : valV (penK l a d n f) kD = some (.int d) := by
  unfold penK; rw [valV_neg nCD, valV_neg nAD, valV_pos rfl]
theorem getN : valV (penK l a d n f) kN = some (.int n) := by
  unfold penK; rw [valV_neg nCN, valV_neg nAN, valV_neg nDN, valV_pos rfl]
theorem getF : valV (penK l a d n f) kF = some (.int f) := by
  unfold penK; rw [valV_neg nCF, valV_neg nAF, valV_neg nDF, valV_neg nNF, valV_pos rfl]
theorem put_is {kvs : List (Key × V)} {k : Key} {v : V} (h : valV kvs k = some v) (y : V) : putK kvs k y = kvs.map fun kv => if kv.1 = k then (kv.1, y) else kv := by
  unfold putK
  rw [valV_any, h]
  rfl
theorem putA : putK (penK l a d n f) kA (.int x) = penK l x d n f := by
  rw [put_is (getA l a d n f)]
  show [_, _, _, _, _] = _
  dsimp only
  rw [if_neg nCA, if_pos rfl, if_neg (Ne.symm nAD), if_neg (Ne.symm nAN), if_neg (Ne.symm nAF)]
  rfl
theorem putD : putK (penK l a d n f) kD (.int x) = penK l a x n f := by
  rw [put_is (getD l a d n f)]
  show [_, _, _, _, _] = _
  dsimp only
  rw [if_neg nCD, if_neg nAD, if_pos rfl, if_neg (Ne.symm nDN), if_neg (Ne.symm nDF)]
  rfl
theorem putN : putK (penK l a d n f) kN (.int x) = penK l a d x f := by
  rw [put_is (getN l a d n f)]
  show [_, _, _, _, _] = _
  dsimp only
  rw [if_neg nCN, if_neg nAN, if_neg nDN, if_pos rfl, if_neg (Ne.symm nNF)]
  rfl
theorem putF' : putK (penK l a d n f) kF (.int x) = penK l a d n x := by
  rw [put_is (getF l a d n f)]
  show [_, _, _, _, _] = _
  dsimp only
  rw [if_neg nCF, if_neg nAF, if_neg nDF, if_neg nNF, if_pos rfl]
  rfl
theorem merge_pen : mergeK [] [(kC, .ref l), (kA, .int a), (kD, .int d), (kN, .int n), (kF, .int f)] = penK l a d n f := by
  unfold mergeK penK
  simp only [List.foldl_cons, List.foldl_nil]
  rw [putK_new (kvs := []) (k := kC) _ rfl]
  rw [putK_new (k := kA) _ (by rw [List.nil_append, valV_neg nCA]; rfl)]
  rw [putK_new (k := kD) _ (by rw [List.nil_append, List.cons_append, valV_neg nCD, List.nil_append, valV_neg nAD]; rfl)]
  rw [putK_new (k := kN) _ (by simp only [List.nil_append, List.cons_append]; rw [valV_neg nCN, valV_neg nAN, valV_neg nDN]; rfl)]
  rw [putK_new (k := kF) _ (by simp only [List.nil_append, List.cons_append]; rw [valV_neg nCF, valV_neg nAF, valV_neg nDF, valV_neg nNF]; rfl)]
  rfl
end
/-- a pen stands at p, its cells at l, so many draws done -/
structure Pen (H : Hp) (p l : Addr) (ns : List Int) (c : Nat) : Prop where
  ex : ∃ (a : Nat) (d f : Int), H p = some (.dK (penK l (a : Int) d (c : Int) f)) ∧ a ≤ ns.length ∧ 0 ≤ d ∧ 0 ≤ f ∧ f < 2147483648
  ls : H l = some (.lst (ns.map V.int))
theorem pen_ne {H : Hp} {p l : Addr} {ns : List Int} {c : Nat} (h : Pen H p l ns c) : p ≠ l := by
  obtain ⟨⟨a, d, f, e, _⟩, q⟩ := h
  exact ne_of e q (by intro z; cases z)
/-- all but the pen's dict stays -/
def But (p : Addr) (H H' : Hp) : Prop := ∀ b o, b ≠ p → H b = some o → H' b = some o
theorem But.refl (p : Addr) (H : Hp) : But p H H := fun _ _ _ h => h
theorem But.trans {p : Addr} {H H1 H2 : Hp} (a : But p H H1) (b : But p H1 H2) : But p H H2 := fun c o n h => b c o n (a c o n h)
theorem But.upd {p : Addr} (H : Hp) (o : HO) : But p H (L2.upd H p o) := fun b u n h => by rw [upd_ne n]; exact h
theorem But.of {p : Addr} {H H' : Hp} (s : Same H H') : But p H H' := fun b o _ h => s b o h
theorem same_upd {H : Hp} {p : Addr} {o : HO} (h : H p = none) : Same H (L2.upd H p o) := fun b x e => by
  rw [upd_ne (ne_of_none e h)]
  exact e
section
variable {P : Program} {w : World} {K : PySem.W.Frag} {mg : Str → Option Value} {base : Heap}
def spPen (K : PySem.W.Frag) : Sp := fun vs H Q _ => ∃ (a : Addr) (ns : List Int), vs = [.ref a] ∧ SqL K H a (ns.map V.int) ∧ ns.length ≤ 63 ∧
  ∀ H' p l, Same H H' → H p = none → H l = none → Pen H' p l ns 0 → Q (.ref p) H'
theorem ok_pen {f : Addr} {fd : FuncData} {k : Nat} (F : Fun K "_law_pen" "_law_pen" sPen f fd) (mi : mg "int" = none) (ml : mg "list" = none) : FnOk P w K mg base CX0 (k + 1) f fd ["_law_script"] (spPen K) := by
  refine F.ok scPen (fun vs H Q E h => ?_) (fun cdv A outer s H vs Q E hr h => ?_)
  · obtain ⟨a, ns, rfl, _⟩ := h
    rfl
  · obtain ⟨a, ns, rfl, hS, hlen, q⟩ := h
    refine ⟨_, pss_cons (ps_set (i := 1) scPen.nd rfl (.inl rfl) pe_int)
      (pss_cons (ps_for PassesOwn.never rfl (pi_list (pv 0)) (pg_name (i := 2) scPen.nd rfl (.inl rfl))
        (pss_one (ps_set (i := 1) scPen.nd rfl (.inl rfl) (pe_op op_mod (pe_callTy call_int1 (by rfl) mi (by decide +kernel) (pa_cons (pe_op op_add (pe_op op_mul (pv 1) pe_int) (pv 2)) pa_nil)) pe_int))))
      (pss_one (ps_ret (pe_disp (pps_cons pe_str (pe_callTy call_list_of (by rfl) ml (by decide +kernel) (pa_cons (pv 0) pa_nil))
        (pps_cons pe_str pe_int (pps_cons pe_str pe_int (pps_cons pe_str pe_int (pps_cons pe_str (pv 1) pps_nil))))) (by rfl) (by rfl) (fun z => by cases z) (by decide))))), ?_⟩
    refine ⟨.ref a, rfl, a, rfl, ⟨_, hS⟩, for_list (K := K) (a := a) (xs := ns.map V.int) (fun i σ H2 => ∃ (g : Int) (v : Option V), σ = [some (.ref a), some (.int g), v] ∧ H2 = H ∧ 0 ≤ g ∧ g < 1000000007)
      ⟨0, none, rfl, rfl, by decide, by decide⟩ (fun i σ H2 _ ⟨_, _, _, e, _⟩ => by rw [e]; exact hS) ?_ ?_⟩
    · rintro i y σ H2 hi ⟨g, v, rfl, rfl, g0, g1⟩
      obtain ⟨z, rfl⟩ : ∃ z, y = V.int z := by
        rw [List.getElem?_map] at hi
        cases e : ns[i]? with
        | none =>
          rw [e] at hi
          cases hi
        | some z =>
          rw [e] at hi
          exact ⟨z, (Option.some.inj hi).symm⟩
      refine ⟨.int g, rfl, _, _, rfl, rfl, .inr ⟨by decide, by decide⟩, .int z, rfl, _, _, rfl, rfl, .inl ⟨_, rfl, _, _, rfl, rfl, (by show (0 : Int) < 1000000007; decide), ?_⟩⟩
      exact ⟨(g * 47 + z) % 1000000007, some (.int z), rfl, rfl, Int.emod_nonneg _ (by decide), Int.emod_lt_of_pos _ (by decide)⟩
    · rintro σ H2 ⟨g, v, rfl, rfl, g0, g1⟩
      intro p hp
      refine ⟨.ref a, rfl, a, _, rfl, .inl ((same_upd hp).seq hS), fun l hl => ?_⟩
      have nlp : l ≠ p := fun e => by
        rw [e, upd_same] at hl
        cases hl
      have hl0 : H2 l = none := by rw [upd_ne nlp] at hl; exact hl
      refine ⟨.int g, rfl, by rw [upd_ne nlp.symm, upd_same], [(kC, .ref l), (kA, .int 0), (kD, .int 0), (kN, .int 0), (kF, .int g)], rfl, (by show 5 ≤ 15; decide), ?_⟩
      rw [merge_pen]
      refine q _ p l ?_ hp hl0 ⟨⟨0, 0, g, upd_same, Nat.zero_le _, by decide, g0, by omega⟩, ?_⟩
      · intro b o e
        have b1 : b ≠ p := ne_of_none e hp
        have b2 : b ≠ l := ne_of_none e hl0
        rw [upd_ne b1, upd_ne b2, upd_ne b1]
        exact e
      · rw [upd_ne nlp, upd_same]
end
end Pn

namespace Pn
open PySem PySem.Spec PyProof.Rows L2
theorem pget {H : Hp} {p : Addr} {kvs : List (Key × V)} {k : Key} {v : V} (e : H p = some (.dK kvs)) (h : valV kvs k = some v) : DGet H p (kV k) (some v) := by
  have q : DGet H p (kV k) (valV kvs k) := DGet.k e
  rw [h] at q
  exact q
theorem pput {H : Hp} {p : Addr} {kvs kvs' : List (Key × V)} {k : Key} {v : V} (e : H p = some (.dK kvs)) (hl : kvs.length < sizeLine) (h : putK kvs k v = kvs') : DPut H p (kV k) v (L2.upd H p (.dK kvs')) := by
  have q : DPut H p (kV k) v (L2.upd H p (.dK (putK kvs k v))) := DPut.k e hl
  rw [h] at q
  exact q
theorem penl (l : Addr) (a d n f : Int) : (penK l a d n f).length < sizeLine := by
  show 5 < sizeLine
  decide
theorem pow17 {b : Int} (h0 : 0 ≤ b) : 0 ≤ b ^ (17 : Int).toNat := Int.pow_nonneg h0
section
variable {P : Program} {w : World} {K : PySem.W.Frag} {mg : Str → Option Value} {base : Heap}
def spDraw : Sp := fun vs H Q _ => ∃ (p l : Addr) (ns : List Int) (c : Nat) (m : Int), vs = [.ref p, .int m] ∧ Pen H p l ns c ∧ ns.length ≤ 1000 ∧ c ≤ 1000000000 ∧ 1 ≤ m ∧ m ≤ 1000000 ∧
  ∀ r H', 0 ≤ r → r < m → Pen H' p l ns (c + 1) → But p H H' → Q (.int r) H'
theorem ok_draw {f : Addr} {fd : FuncData} {k : Nat} (F : Fun K "_law_draw" "_law_draw" sDraw f fd) (mi : mg "int" = none) (ml : mg "len" = none) : FnOk P w K mg base CX0 (k + 1) f fd ["_law_pen_here", "_law_many"] spDraw := by
  refine F.ok scDraw (fun vs H Q E h => ?_) (fun cdv A outer s H vs Q E hr h => ?_)
  · obtain ⟨p, l, ns, c, m, rfl, _⟩ := h
    rfl
  · obtain ⟨p, l, ns, c, m, rfl, hP, hlen, hc, m1, m2, q⟩ := h
    have hu := hu_of hr
    have npl : p ≠ l := pen_ne hP
    obtain ⟨⟨a, d, f0, e, ha, hd, hf, hf2⟩, hl⟩ := hP
    refine ⟨_, pss_cons (ps_dput hu (pv 0) pe_str (pe_op op_add (pe_dget hu (pv 0) pe_str (fun _ _ => rfl)) pe_int) rfl)
      (C8.pss_cut (ps_if (pw_and (pt_cmpR op_eq (pe_dget hu (pv 0) pe_str (fun _ _ => rfl)) pe_int (nomark _)) (pw_and1 (pt_cmpR op_lt (pe_dget hu (pv 0) pe_str (fun _ _ => rfl)) (pe_callB call_len_seq (by rfl) ml PySem.boot_len (pa_cons (pe_dget hu (pv 0) pe_str (fun _ _ => rfl)) pa_nil)) (nomark _)))).pt
        (pss_cons (ps_set (i := 2) scDraw.nd rfl (.inl rfl) (pe_ix ix_list (pe_dget hu (pv 0) pe_str (fun _ _ => rfl)) (pe_dget hu (pv 0) pe_str (fun _ _ => rfl)) (fun _ _ => rfl)))
        (pss_cons (ps_dput hu (pv 0) pe_str (pe_op op_add (pe_dget hu (pv 0) pe_str (fun _ _ => rfl)) pe_int) rfl)
        (pss_one (ps_if (pt_cmpR op_ge (pv 2) (pe_op op_pow pe_int pe_int) (nomark _))
          (pss_one (ps_dput hu (pv 0) pe_str (pe_op op_sub (pv 2) (pe_op op_pow pe_int pe_int)) rfl))
          (pss_one (ps_dput hu (pv 0) pe_str (pe_op op_mod (pe_callTy call_int1 (by rfl) mi (by decide +kernel) (pa_cons (pe_op op_add (pe_op op_mul (pe_dget hu (pv 0) pe_str (fun _ _ => rfl)) pe_int) (pv 2)) pa_nil)) pe_int) rfl))))))
        pss_nil)
      (pss_cons (ps_if (pt_cmpR op_gt (pe_dget hu (pv 0) pe_str (fun _ _ => rfl)) pe_int (nomark _))
        (pss_cons (ps_set (i := 3) scDraw.nd rfl (.inl rfl) (pe_op op_mod (pe_callTy call_int1 (by rfl) mi (by decide +kernel) (pa_cons (pe_dget hu (pv 0) pe_str (fun _ _ => rfl)) pa_nil)) (pv 1)))
        (pss_cons (ps_dput hu (pv 0) pe_str (pe_op op_fdiv (pe_dget hu (pv 0) pe_str (fun _ _ => rfl)) (pv 1)) rfl)
        (pss_one (ps_ret (pv 3)))))
        pss_nil)
      (pss_cons (ps_set (i := 4) scDraw.nd rfl (.inl rfl) (pe_op op_add (pe_op op_add (pe_dget hu (pv 0) pe_str (fun _ _ => rfl)) (pe_op op_mul (pe_dget hu (pv 0) pe_str (fun _ _ => rfl)) pe_int)) pe_int))
      (pss_one (ps_ret (pe_op op_mod (pe_op op_fdiv (pe_callTy call_int1 (by rfl) mi (by decide +kernel) (pa_cons (pe_op op_mod (pe_op op_pow (pv 4) pe_int) pe_int) pa_nil)) pe_int) (pv 1))))))), ?_⟩
    -- count
    refine ⟨.ref p, rfl, p, _, rfl, pget e (getN ..), _, _, rfl, rfl, .ref p, rfl, p, _, rfl, pput e (penl ..) (putN ..), ?_⟩
    have e1 : (L2.upd H p (.dK (penK l (a : Int) d ((c : Int) + 1) f0))) p = some (.dK (penK l (a : Int) d ((c : Int) + 1) f0)) := upd_same
    have l1 : (L2.upd H p (.dK (penK l (a : Int) d ((c : Int) + 1) f0))) l = some (.lst (ns.map V.int)) := by rw [upd_ne npl.symm]; exact hl
    have b1 : But p H (L2.upd H p (.dK (penK l (a : Int) d ((c : Int) + 1) f0))) := But.upd _ _
    generalize L2.upd H p (.dK (penK l (a : Int) d ((c : Int) + 1) f0)) = H1 at e1 l1 b1
    -- the cell
    refine ⟨fun σ H' => ∃ (v2 : Option V) (a : Nat) (d f : Int), σ = [some (.ref p), some (.int m), v2, none, none] ∧ H' p = some (.dK (penK l (a : Int) d ((c : Int) + 1) f)) ∧ a ≤ ns.length ∧ 0 ≤ d ∧ 0 ≤ f ∧ f < 2147483648 ∧ H' l = some (.lst (ns.map V.int)) ∧ But p H H', ?_, ?_⟩
    · refine ⟨.ref p, rfl, p, _, rfl, pget e1 (getD ..), rfl, _, rfl, ?_⟩
      refine ite2 (fun hd0 => ?_) (fun _ => ?_)
      · refine ⟨.ref p, rfl, p, _, rfl, pget e1 (getA ..), .ref p, rfl, p, _, rfl, pget e1 (getC ..), l, _, rfl, .inl (.inl (.inl l1)), _, _, rfl, rfl, _, rfl, ?_⟩
        refine ite2 (fun hlt => ?_) (fun _ => ?_)
        · have hlt' : (a : Int) < ((ns.map V.int).length : Int) := of_decide_eq_true hlt
          have hlt2 : a < ns.length := by
            rw [List.length_map] at hlt'
            omega
          have hz : (ns.map V.int)[a]? = some (.int ns[a]) := by
            rw [List.getElem?_map, List.getElem?_eq_getElem hlt2]
            rfl
          refine ⟨.ref p, rfl, p, _, rfl, pget e1 (getC ..), .ref p, rfl, p, _, rfl, pget e1 (getA ..), l, _, _, _, rfl, rfl, .inl (.inl l1), atI_nat hz, ?_⟩
          refine ⟨.ref p, rfl, p, _, rfl, pget e1 (getA ..), _, _, rfl, rfl, .ref p, rfl, p, _, rfl, pput e1 (penl ..) (putA ..), ?_⟩
          have e2 : (L2.upd H1 p (.dK (penK l ((a : Int) + 1) d ((c : Int) + 1) f0))) p = some (.dK (penK l ((a + 1 : Nat) : Int) d ((c : Int) + 1) f0)) := upd_same
          have l2 : (L2.upd H1 p (.dK (penK l ((a : Int) + 1) d ((c : Int) + 1) f0))) l = some (.lst (ns.map V.int)) := by rw [upd_ne npl.symm]; exact l1
          have b2 : But p H (L2.upd H1 p (.dK (penK l ((a : Int) + 1) d ((c : Int) + 1) f0))) := b1.trans (But.upd _ _)
          generalize L2.upd H1 p (.dK (penK l ((a : Int) + 1) d ((c : Int) + 1) f0)) = H2 at e2 l2 b2
          refine ⟨.int ns[a], rfl, _, _, rfl, rfl, ⟨by decide, by decide, by decide⟩, _, _, rfl, rfl, _, rfl, ?_⟩
          refine ite2 (fun hbig => ?_) (fun _ => ?_)
          · have hb : (10 : Int) ^ (18 : Int).toNat ≤ ns[a] := of_decide_eq_true hbig
            refine ⟨.int ns[a], rfl, _, _, rfl, rfl, ⟨by decide, by decide, by decide⟩, _, _, rfl, rfl, .ref p, rfl, p, _, rfl, pput e2 (penl ..) (putD ..), ?_⟩
            exact ⟨_, a + 1, _, f0, rfl, upd_same, hlt2, by omega, hf, hf2, by rw [upd_ne npl.symm]; exact l2, b2.trans (But.upd _ _)⟩
          · refine ⟨.ref p, rfl, p, _, rfl, pget e2 (getF ..), _, _, rfl, rfl, .inr ⟨by decide, by decide⟩, .int ns[a], rfl, _, _, rfl, rfl, .inl ⟨_, rfl, _, _, rfl, rfl, (by show (0 : Int) < 2147483587; decide), .ref p, rfl, p, _, rfl, pput e2 (penl ..) (putF' ..), ?_⟩⟩
            refine ⟨_, a + 1, d, _, rfl, upd_same, hlt2, hd, Int.emod_nonneg _ (by decide), Int.lt_trans (Int.emod_lt_of_pos _ (by decide)) (by decide), by rw [upd_ne npl.symm]; exact l2, b2.trans (But.upd _ _)⟩
        · exact ⟨none, a, d, f0, rfl, e1, ha, hd, hf, hf2, l1, b1⟩
      · refine iteF ?_
        exact ⟨none, a, d, f0, rfl, e1, ha, hd, hf, hf2, l1, b1⟩
    · rintro σ' H2 ⟨v2, a, d, f0, rfl, e2, ha, hd, hf, hf2, l2, b2⟩
      refine ⟨.ref p, rfl, p, _, rfl, pget e2 (getD ..), _, _, rfl, rfl, _, rfl, ?_⟩
      refine ite2 (fun _ => ?_) (fun _ => ?_)
      · refine ⟨.ref p, rfl, p, _, rfl, pget e2 (getD ..), .inl ⟨_, rfl, .int m, rfl, _, _, rfl, rfl, (by show 0 < m; omega), ?_⟩⟩
        refine ⟨.ref p, rfl, p, _, rfl, pget e2 (getD ..), .int m, rfl, _, _, rfl, rfl, ⟨(by omega), (by omega)⟩, .ref p, rfl, p, _, rfl, pput e2 (penl ..) (putD ..), ?_⟩
        refine ⟨.int (d % m), rfl, ?_⟩
        refine q _ _ (Int.emod_nonneg _ (by omega)) (Int.emod_lt_of_pos _ (by omega)) ⟨⟨a, d / m, f0, upd_same, ha, Int.ediv_nonneg hd (by omega), hf, hf2⟩, by rw [upd_ne npl.symm]; exact l2⟩ (b2.trans (But.upd _ _))
      · refine ⟨.ref p, rfl, p, _, rfl, pget e2 (getF ..), .ref p, rfl, p, _, rfl, pget e2 (getN ..), _, _, rfl, rfl, .inr ⟨by decide, by decide⟩, _, _, rfl, rfl, _, _, rfl, rfl, ?_⟩
        refine ⟨.int (f0 + ((c : Int) + 1) * 7907 + 43), rfl, _, _, rfl, rfl, ⟨by decide, by decide, by omega⟩, _, _, rfl, rfl, (by show (0 : Int) < 2305843009213693951; decide), .inl ⟨_, rfl, _, _, rfl, rfl, ⟨by decide, by decide⟩, .int m, rfl, _, _, rfl, rfl, (by show 0 < m; omega), ?_⟩⟩
        exact q _ _ (Int.emod_nonneg _ (by omega)) (Int.emod_lt_of_pos _ (by omega)) ⟨⟨a, d, f0, e2, ha, hd, hf, hf2⟩, l2⟩ b2
def spPick (K : PySem.W.Frag) : Sp := fun vs H Q _ => ∃ (p l s : Addr) (ns : List Int) (c : Nat) (xs : List V), vs = [.ref p, .ref s] ∧ Pen H p l ns c ∧ ns.length ≤ 1000 ∧ c ≤ 1000000000 ∧ (SqL K H s xs ∨ SqT K H s xs) ∧ xs ≠ [] ∧ xs.length ≤ 1000000 ∧ s ≠ p ∧
  ∀ x H', x ∈ xs → Pen H' p l ns (c + 1) → But p H H' → Q x H'
theorem But.sq {H H' : Hp} {p s : Addr} {xs : List V} (b : But p H H') (n : s ≠ p) (h : SqL K H s xs) : SqL K H' s xs := by
  rcases h with (h | ⟨o, h⟩) | h
  · exact .inl (.inl (b _ _ n h))
  · exact .inl (.inr ⟨o, b _ _ n h⟩)
  · exact .inr h
end
end Pn

namespace Pn
open PySem PySem.Spec PyProof.Rows L2
theorem ix_or {X : Cx} : IxR X (fun x y H Q => rIxL X.K x y H Q ∨ rIxT X.K x y H Q) := ix_list.or ix_tup
section
variable {P : Program} {w : World} {K : PySem.W.Frag} {mg : Str → Option Value} {base : Heap}
theorem ok_pick {f fD : Addr} {fd fdD : FuncData} {k : Nat} (F : Fun K "_law_pick" "_law_pick" sPick f fd) (G : FnOk P w K mg base CX0 (k + 1) fD fdD ["_law_pen_here", "_law_many"] spDraw) (gD : mg "_law_draw" = some (.ref fD)) (kD : PySem.W.keepIn K (.ref fD) = true) (bD : Binds K fdD ["_law_pen_here", "_law_many"] [])
    (ml : mg "len" = none) : FnOk P w K mg base CX0 (k + 2) f fd ["_law_pen_here", "_law_some"] (spPick K) := by
  refine F.ok scPick (fun vs H Q E h => ?_) (fun cdv A outer s H vs Q E hr h => ?_)
  · obtain ⟨p, l, s, ns, c, xs, rfl, _⟩ := h
    rfl
  · obtain ⟨p, l, s, ns, c, xs, rfl, hP, hlen, hc, hS, hne, hx, hsp, q⟩ := h
    refine ⟨_, pss_one (ps_ret (pe_ix ix_or (pv 1) (pe_call G hr (by rfl) gD kD bD .nil pass0 (pa_cons (pv 0) (pa_cons (pe_callB call_len_seq (by rfl) ml PySem.boot_len (pa_cons (pv 1) pa_nil)) pa_nil))) (fun _ _ => rfl))), ?_⟩
    have hpos : 1 ≤ xs.length := by
      cases xs with
      | nil => exact absurd rfl hne
      | cons x r => rw [List.length_cons]; omega
    refine ⟨.ref s, rfl, .ref p, rfl, .ref s, rfl, s, xs, rfl, hS, p, l, ns, c, _, rfl, hP, hlen, hc, by omega, by omega, fun r H' r0 r1 hP' b' => ?_⟩
    obtain ⟨j, rfl⟩ : ∃ j : Nat, r = (j : Int) := ⟨r.toNat, by omega⟩
    have hj : j < xs.length := by omega
    have hg : xs[j]? = some xs[j] := List.getElem?_eq_getElem hj
    rcases hS with hS | hS
    · exact .inl ⟨s, xs, _, _, rfl, rfl, b'.sq hsp hS, atI_nat hg, q _ _ (List.getElem_mem hj) hP' b'⟩
    · refine .inr ⟨s, xs, _, _, rfl, rfl, ?_, atI_nat hg, q _ _ (List.getElem_mem hj) hP' b'⟩
      rcases hS with (h | ⟨o, h⟩) | h
      · exact .inl (.inl (b' _ _ hsp h))
      · exact .inl (.inr ⟨o, b' _ _ hsp h⟩)
      · exact .inr h
end
end Pn

/-! Drawn terms. -/
namespace Ad
open PySem PySem.Spec PySem.Calls PyProof.Rows L2
/-- a row: name, number of arguments, weight -/
abbrev Row := Str × Nat × Int
def RowV (K : PySem.W.Frag) (H : Hp) (r : Row) (v : V) : Prop := ∃ b, v = .ref b ∧ SqT K H b [.str r.1, .int (r.2.1 : Int), .int r.2.2]
def RowsAt (K : PySem.W.Frag) (H : Hp) (a : Addr) (R : List Row) : Prop := ∃ b y vs, SqT K H a [.ref b, y] ∧ SqT K H b vs ∧ F2 (RowV K H) R vs
theorem RowV.mono {K : PySem.W.Frag} {H H' : Hp} (k : TK H H') (r : Row) (v : V) (h : RowV K H r v) : RowV K H' r v := by
  obtain ⟨b, e, s⟩ := h
  exact ⟨b, e, k.sq s⟩
theorem RowsAt.mono {K : PySem.W.Frag} {H H' : Hp} (k : TK H H') {a : Addr} {R : List Row} (h : RowsAt K H a R) : RowsAt K H' a R := by
  obtain ⟨b, y, vs, s1, s2, f⟩ := h
  exact ⟨b, y, vs, k.sq s1, k.sq s2, f.mono (RowV.mono k)⟩
/-- rows to draw from: names that can be laid, at most three arguments, one without any -/
structure ROk (R : List Row) : Prop where
  names : ∀ r ∈ R, nameOk r.1 = true ∧ r.2.1 ≤ 3
  const : ∃ (j : Nat) (r : Row), R[j]? = some r ∧ r.2.1 = 0
  few : R.length ≤ 1000
def sz : Nat → Nat
  | 0 => 1
  | d + 1 => 1 + 3 * sz d
def dn : Nat → Nat
  | 0 => 2
  | d + 1 => 2 + 3 * dn d
theorem two_dn : ∀ d, 2 ≤ dn d
  | 0 => Nat.le_refl _
  | _ + 1 => Nat.le_add_right _ _
theorem one_sz : ∀ d, 1 ≤ sz d
  | 0 => Nat.le_refl _
  | _ + 1 => Nat.le_add_right _ _
namespace Kb
mutual
/-- all names with their arities stand in the rows -/
def Wf (rk : List Row) : T → Prop
  | .v _ => True
  | .f x ts => (∃ r ∈ rk, r.1 = x ∧ r.2.1 = ts.length) ∧ WfL rk ts
def WfL (rk : List Row) : List T → Prop
  | [] => True
  | t :: ts => Wf rk t ∧ WfL rk ts
end
theorem wfL_of {rk : List Row} : ∀ {ts : List T}, (∀ t ∈ ts, Wf rk t) → WfL rk ts
  | [], _ => True.intro
  | t :: ts, h => ⟨h t (List.mem_cons_self ..), wfL_of fun u hu => h u (List.mem_cons_of_mem _ hu)⟩
mutual
theorem Wf.mono {rk rl : List Row} (h : ∀ r ∈ rk, r ∈ rl) : ∀ {t : T}, Wf rk t → Wf rl t
  | .v _, _ => True.intro
  | .f x ts, ⟨⟨r, hr, e⟩, k⟩ => ⟨⟨r, h r hr, e⟩, WfL.mono h k⟩
theorem WfL.mono {rk rl : List Row} (h : ∀ r ∈ rk, r ∈ rl) : ∀ {ts : List T}, WfL rk ts → WfL rl ts
  | [], _ => True.intro
  | t :: ts, ⟨a, b⟩ => ⟨Wf.mono h a, WfL.mono h b⟩
end
end Kb
/-- a drawn term of a depth, its variables below a number -/
structure DT (R : List Row) (deep : Nat) (nv : Int) (t : T) : Prop where
  named : t.named = true
  dep : t.dep ≤ deep + 1
  size : t.size ≤ sz deep
  vars : ∀ j ∈ t.vars, 0 ≤ j ∧ j < nv
  wf : Kb.Wf R t
theorem pen_tk {H H' : Hp} {p l : Addr} {ns : List Int} {c : Nat} (P : Pn.Pen H p l ns c) (b : Pn.But p H H') : TK H H' := by
  obtain ⟨⟨a, d, f, e, _⟩, _⟩ := P
  intro q xs
  refine ⟨fun h => b _ _ (fun z => ?_) h, fun o h => b _ _ (fun z => ?_) h⟩
  · rw [z, e] at h
    cases h
  · rw [z, e] at h
    cases h
theorem pen_same {H H' : Hp} {p l : Addr} {ns : List Int} {c : Nat} (P : Pn.Pen H p l ns c) (s : Same H H') : Pn.Pen H' p l ns c := by
  obtain ⟨⟨a, d, f, e, r⟩, h⟩ := P
  exact ⟨⟨a, d, f, s _ _ e, r⟩, s _ _ h⟩
def spDrawn (K : PySem.W.Frag) (n : Nat) : Sp := fun vs H Q _ => ∃ (p l ra : Addr) (ns : List Int) (c deep : Nat) (nv : Int) (R : List Row), vs = [.ref p, .ref ra, .int (deep : Int), .int nv] ∧ Pn.Pen H p l ns c ∧ ns.length ≤ 1000 ∧ c + dn deep ≤ 1000000000 ∧ RowsAt K H ra R ∧ ROk R ∧
  deep < n ∧ 0 ≤ nv ∧ nv ≤ 1000 ∧ ∀ t v H' c', Tm K H' t v → DT R deep nv t → c' ≤ c + dn deep → Pn.Pen H' p l ns c' → Pn.But p H H' → Q v H'
end Ad

/-! dict(t) of a tuple of pairs. -/
namespace Dt
open PySem PySem.Spec PySem.Calls PyProof.Rows L2
theorem tuple_keys_none : typeLookup (.type "tuple") "keys" = pure none := am_miss_of_fast (by first | decide +kernel | rfl)
section
variable {prog : Program} {w : World} {A : Around} {E : Value → Shared → Prop}
/-- a tuple has no attribute 'keys' -/
theorem no_keys {s : Shared} {a : Addr} {o : Obj} {xs : Array Value} {k : Nat} {Q : Option Value → Shared → Prop} (hx : s.heap.get? a = some o) (hc : o.cls = .type "tuple") (hdat : o.data = .seq xs k) (hd : o.dict = none) (hA : A.handled = none)
    (h : ∀ h' tk, (∀ b ob, s.heap.get? b = some ob → h'.get? b = some ob) → Q none { s with heap := h', toks := tk }) : wpAny (model prog w) A (getAttr? (.ref a) "keys") Q E s := by
  obtain ⟨c, dct, dat, sl⟩ := o
  simp only at hc hdat hd
  subst hc hdat hd
  obtain ⟨hp, g, d, tk, os⟩ := s
  have isT : ∀ tk', (⟨hp, g, d, tk', os⟩ : Shared).TypeIs (.ref a) "tuple" := fun _ => ⟨_, hx, rfl⟩
  have g1 := tuple_keys_none
  have g2 : (["__module__", "__name__", "__qualname__", "__doc__", "__annotations__"] : List Str).contains "keys" = false := by decide +kernel
  have g3 : ("keys" : Str).length + 100 ≤ sizeLine := by first | size_fits | decide +kernel
  have g4 := sub_AttributeError
  have g5 := PySem.F.slot_tuple_getattribute.lookup
  have g6 := PySem.F.slot_tuple_getattribute.bind (.ref a)
  have g7 := am_tuple_getattr_none
  unfold getAttr? getAttrBy? getAttrBy
  repeat (any_goals (first | assumption | exact isT _ | ((with_reducible show wpAny _ _ (call (Value.builtin "tuple.__getattribute__") _ _) _ _ _); refine call_meets PySem.F.slot_tuple_getattribute (isT _) am_entry_tuple_getattribute (PySem.F.args_tuple_getattribute_2 _ _) (meets_getattribute_miss_tuple a xs k sl "keys" _ g1 g2 g3) ⟨hx, hA, fun h' tk' e hx' => ?_⟩) | wp_step))
  obtain ⟨t', u', he⟩ := hx'.there
  show wpAny _ _ (getattributeRaised _ _ _ _ _ _ _) _ _ _
  unfold getattributeRaised
  repeat (any_goals (first | assumption | wp_step))
  all_goals first | exact h _ _ hx'.keeps | (dsimp only; repeat (any_goals (first | assumption | exact h _ _ hx'.keeps | wp_step)))
theorem walk {R : Result → Shared → Prop} {S I l : Addr} {items : Array Value} {res : Value} (hh : A.handled = none) (lI : l ≠ I) (sI : S ≠ I) (sl : S ≠ l) :
    ∀ (rest : List (L2.Key × Value)) (i : Nat) (acc : List (L2.Key × Value)) (ix : Int) (t : Tok) (s : Shared), items.size = i + rest.length → acc.length + rest.length ≤ sizeLine →
      (∀ (j : Nat) (q : L2.Key × Value), rest[j]? = some q → ∃ (b : Addr) (u : Value), items[i + j]? = some (.ref b) ∧ b ≠ S ∧ b ≠ I ∧ IsTup s.heap b #[u, q.2] ∧ keyIs q.1 u = true) →
      s.heap.IsTupleIter I l i → s.heap.IsTuple l items → s.heap.DictOf (mixKind prog w) S acc →
      (∀ h' tk, h'.DictOf (mixKind prog w) S (merged acc rest) → (∀ b o, b ≠ S → b ≠ I → s.heap.get? b = some o → h'.get? b = some o) → R (.ok (.ret res)) { s with heap := h', toks := tk }) →
      codeAny (model prog w) A (.builtin "dict.update.loop" ⟨[.ref S, .ref I, .int ix t, res], []⟩) R s
  | [], i, acc, ix, t, s, hsz, hln, ht, hit, hl, hm, hR => by
    refine codeAny_builtin ud_entry ?_
    rw [Around.under_plainId ud_plain _]
    show wpAny _ A.in1 (pyNext (.ref I) >>= _) _ _ s
    refine wpAny_bind (wpAny_pyNext_tuple_end (A := A.in1) hh hit hl (by first | exact Array.getElem?_eq_none (Nat.le_of_eq hsz) | (simp at hsz; simp; omega)) fun h' he => ?_)
    show wpAny _ A.in1 (Builtin.Dict.addKeywords S [] >>= _) _ _ _
    refine wpAny_bind (wpAny_pure (wpAny_pure ?_))
    exact hR h' s.toks (hm.extBut he sI) fun b o _ hb e => he b o hb e
  | q :: rest, i, acc, ix, t, s, hsz, hln, ht, hit, hl, hm, hR => by
    obtain ⟨b, u, hb, hbS, hbI, htup, hk⟩ := ht 0 q rfl
    rw [List.length_cons] at hsz hln
    refine codeAny_builtin ud_entry ?_
    rw [Around.under_plainId ud_plain _]
    show wpAny _ A.in1 (pyNext (.ref I) >>= _) _ _ s
    refine wpAny_bind (wpAny_pyNext_tuple_item (x := .ref b) hit hl (by simpa using hb) fun h1 hit1 hs1 => ?_)
    have tup1 : IsTup h1 b #[u, q.2] := htup.extBut hs1.extBut hbI
    have hl1 : h1.IsTuple l items := by
      obtain ⟨o, e, r⟩ := id hl
      exact ⟨o, hs1.extBut l o lI e, r⟩
    have hm1 : h1.DictOf (mixKind prog w) S acc := hm.extBut hs1.extBut sI
    obtain ⟨o, ho, hc, n, hd⟩ := id tup1
    show wpAny _ A.in1 (holding [Value.ref b] _ >>= _) _ _ _
    refine wpAny_bind (wpAny_holding (wpAny_bind (wpAny_tryCatch ?_)))
    unfold Builtin.Dict.pairItems
    refine wpAny_bind (wpAny_typeOf (T := "tuple") ⟨o, ho, hc⟩ ?_)
    rw [if_pos (by first | decide | rfl | simp)]
    refine wpAny_bind (wpAny_seqItems ho hd (wpAny_pure ?_))
    show wpAny _ A.in1 (holding [u, q.2] (dictSet S u q.2)) _ _ _
    refine wpAny_holding (wpAny_dictSet_pairs (knd := mixKind prog w) (k := q.1) hk hm1 (fun h2 hm2 hs2 => ?_) (by omega))
    refine wpAny_pure ⟨plainId_quiet ud_plain _, walk (items := items) hh lI sI sl rest (i + 1) (stored acc q.1 q.2) (ix + 1) 0 _ (show items.size = i + 1 + rest.length by omega) ?_ (fun j q' e => ?_) ?_ ?_ hm2 fun h' tk hd' k => ?_⟩
    · have z := stored_length_le acc q.1 q.2
      omega
    · obtain ⟨b', u', hb', hbS', hbI', htup', hk'⟩ := ht (j + 1) q' (by simpa using e)
      refine ⟨b', u', ?_, hbS', hbI', (htup'.extBut hs1.extBut hbI').extBut hs2.extBut hbS', hk'⟩
      rw [show i + 1 + j = i + (j + 1) by omega]
      exact hb'
    · exact hit1.at fun o' e => hs2.extBut I o' (Ne.symm sI) e
    · obtain ⟨o', e, r⟩ := id hl1
      exact ⟨o', hs2.extBut l o' (Ne.symm sl) e, r⟩
    · exact hR h' tk hd' fun c oc h3 h4 e => k c oc h3 h4 (hs2.extBut c oc h3 (hs1.extBut c oc h4 e))
theorem new_dict {s : Shared} {l : Addr} {ol : Obj} {items : Array Value} {n : Nat} {prs : List (L2.Key × Value)} {Q : Value → Shared → Prop} (hh : A.handled = none) (hl : s.heap.get? l = some ol) (hc : ol.cls = .type "tuple") (hd : ol.dict = none)
    (hdat : ol.data = .seq items n) (hsz : items.size = prs.length) (hln : prs.length ≤ sizeLine)
    (ht : ∀ (j : Nat) (q : L2.Key × Value), prs[j]? = some q → ∃ (b : Addr) (u : Value), items[j]? = some (.ref b) ∧ IsTup s.heap b #[u, q.2] ∧ keyIs q.1 u = true)
    (h : ∀ h' tk, h'.DictOf (mixKind prog w) s.heap.objs.size (merged [] prs) → (∀ b o, s.heap.get? b = some o → h'.get? b = some o) → Q (.ref s.heap.objs.size) { s with heap := h', toks := tk }) :
    wpAny (model prog w) A (call (.type "dict") [.ref l]) Q E s := by
  refine callType_codes (Q₁ := fun v sA => v = .ref s.heap.objs.size ∧ sA = { s with heap := s.heap.push { cls := .type "dict", data := .dict #[] } }) PySem.F.kt_called_dict (PySem.F.kt_typeCall_dict_1 _) PySem.F.entry_dict_init (kt_code_dict_new _ ⟨rfl, rfl⟩) ?_
  rintro v sA ⟨rfl, rfl⟩
  have made : (s.heap.push { cls := .type "dict", data := .dict #[] }).DictOf (mixKind prog w) s.heap.objs.size [] := Heap.DictOf.new s.heap
  have k0 : ∀ b o, s.heap.get? b = some o → (s.heap.push { cls := .type "dict", data := .dict #[] }).get? b = some o := fun b o e => Heap.get?_push_of_some _ e
  refine ⟨made.typeIs, PySem.F.args_dict_init_2 _ _, ?_⟩
  unfold Builtin.«dict.__init__»
  refine wpAny_bind ?_
  unfold Builtin.Dict.selfAndRest
  refine wpAny_bind (wpAny_notOrdered_dict made.typeIs ?_)
  show wpAny _ _ (pure (s.heap.objs.size, [Value.ref l])) _ _ _
  refine wpAny_pure ?_
  show wpAny _ _ (Builtin.Dict.updateFrom "dict.__init__" s.heap.objs.size (.ref l) [] .none) _ _ _
  unfold Builtin.Dict.updateFrom
  refine wpAny_bind (wpAny_typeOf (T := "tuple") ⟨ol, k0 _ _ hl, hc⟩ ?_)
  rw [if_pos (by first | decide | rfl | simp)]
  refine wpAny_bind (no_keys (k0 _ _ hl) hc hdat hd hh fun h1 tk1 hk1 => ?_)
  rw [if_pos (show (none : Option Value).isNone = true from rfl)]
  refine wpAny_bind (wpAny_rule ?_)
  have hl1 : h1.IsTuple l items := ⟨ol, hk1 _ _ (k0 _ _ hl), hc, n, hdat⟩
  have hS1 : s.heap.objs.size < h1.objs.size := by
    have e : (s.heap.push { cls := .type "dict", data := .dict #[] }).get? s.heap.objs.size = some { cls := .type "dict", data := .dict #[] } := Heap.get?_push_size _ rfl
    exact Heap.lt_size (hk1 _ _ e)
  refine wpAny_bind (wpAny_pyIter_tuple hl1 ?_)
  have k2 : ∀ b o, h1.get? b = some o → (h1.push { cls := .type "tuple_iterator", data := .fields #[.ref l, .int 0 0] }).get? b = some o := fun b o e => Heap.get?_push_of_some _ e
  have low : l < s.heap.objs.size := Heap.lt_size hl
  have key := walk (prog := prog) (w := w) (A := A.in1) (R := wants (fun r sB => r = .none ∧ Q (.ref s.heap.objs.size) sB) E) (S := s.heap.objs.size) (I := h1.objs.size) (l := l) (items := items) (res := Value.none) hh
    (Nat.ne_of_lt (Nat.lt_trans low hS1)) (Nat.ne_of_lt hS1) (Nat.ne_of_gt low) prs 0 [] 0 0
    { s with heap := h1.push { cls := .type "tuple_iterator", data := .fields #[.ref l, .int 0 0] }, toks := tk1 } (by rw [hsz, Nat.zero_add]) (by rw [List.length_nil, Nat.zero_add]; exact hln)
    (fun j q e => by
      obtain ⟨b, u, e1, e2, e3⟩ := ht j q e
      have hb : b < s.heap.objs.size := e2.lt
      exact ⟨b, u, by rw [Nat.zero_add]; exact e1, Nat.ne_of_lt hb, Nat.ne_of_lt (Nat.lt_trans hb hS1), e2.keeps fun c o z => k2 _ _ (hk1 _ _ (k0 _ _ z)), e3⟩)
    ⟨_, Heap.get?_push_size _ rfl, rfl, rfl⟩ (by
      obtain ⟨o', e, r⟩ := id hl1
      exact ⟨o', k2 _ _ e, r⟩) ((made.at fun o e => hk1 _ _ e).at fun o e => k2 _ _ e)
    (fun h' tk hd' k => ⟨rfl, h h' tk hd' fun b o e => k b o (Nat.ne_of_lt (Heap.lt_size e)) (Nat.ne_of_lt (Nat.lt_trans (Heap.lt_size e) hS1)) (k2 _ _ (hk1 _ _ (k0 _ _ e)))⟩)
  first
    | exact wpAny_pure ⟨plainId_quiet ud_plain _, key⟩
    | exact wpAny_bind (wpAny_pure (wpAny_pure ⟨plainId_quiet ud_plain _, key⟩))
end
/-- a tuple whose object is known: it bears no dict of its own -/
def Tup0 (H : Hp) (a : Addr) (xs : List V) : Prop := ∃ o : Obj, H a = some (.frz o (.tup xs)) ∧ o.dict = none
theorem Tup0.sq {K : PySem.W.Frag} {H : Hp} {a : Addr} {xs : List V} (h : Tup0 H a xs) : SqT K H a xs := by
  obtain ⟨o, e, _⟩ := h
  exact .inl (.inr ⟨o, e⟩)
section
variable {X : Cx}
/-- dict(t), t a tuple of pairs -/
theorem call_dictT (calm : X.calm = true) : CallR X (.type "dict") (fun xs H Q => ∃ (a : Addr) (ps : List Addr) (kvs : List (L2.Key × V)), xs = [.ref a] ∧ Tup0 H a (ps.map V.ref) ∧ Paired (fun p kv => SqT X.K H p [kV kv.1, kv.2]) ps kvs ∧
    ∀ p, H p = none → Q (.ref p) (upd H p (.dK (mergeK [] kvs)))) := by
  intro pins s σ H xs us Q I r q
  obtain ⟨a, ps, kvs, rfl, ⟨o, e, hd⟩, hp, q⟩ := q
  rw [Vals.ref1 r]
  obtain ⟨ho, hz, its, rv, ⟨o', ho', hc, n, hdat⟩⟩ := (show ObjOk X.prog X.w H s.heap a (.frz o (.tup (ps.map V.ref))) from I.hok a _ e)
  rw [ho] at ho'
  cases ho'
  have ei := refs_at rv
  subst ei
  rw [List.length_map] at hz
  obtain ⟨prs, rel, hl, hpr⟩ := pairs_of I hp
  refine new_dict (prs := prs) (I.ok.hd calm) ho hc hd hdat (by simp [hl]) (by rw [hl]; exact hz) (fun j q' e => ?_) fun h' tk hd' k => ?_
  · obtain ⟨b, u, e1, e2, e3⟩ := hpr j q' e
    exact ⟨b, u, by simp [e1], e2, e3⟩
  · have hm : (s.heap.objs.size == sysModules) = false := beq_eq_false_iff_ne.mpr (Nat.ne_of_gt I.big)
    have short : (mergeK [] kvs).length ≤ sizeLine := by
      refine Nat.le_trans (length_mergeK kvs []) ?_
      rw [List.length_nil, Nat.zero_add, rel.length, hl]
      exact hz
    exact ⟨.ref s.heap.objs.size, upd H s.heap.objs.size (.dK (mergeK [] kvs)), I.laid (t' := tk) k (Nat.le_refl _) (show ObjOk X.prog X.w _ _ _ (.dK (mergeK [] kvs)) from ⟨short, hm, merged [] prs, KV.merge rel .nil, hd'⟩), rfl, q _ (I.hok.fresh (Nat.le_refl _))⟩
/-- (a, b, ..), its object known -/
def tTup0 (t : TA) : TE := fun σ H Q => t σ H fun xs G => xs.length ≤ sizeLine ∧ ∀ p o, G p = none → o.dict = none → Q (.ref p) (upd G p (.frz o (.tup xs)))
theorem pe_tup0 {es : List Expr} {t : TA} {x1 : Nat} {pos : Pos} (h : PA X es t) : PE X (.Tuple es x1 pos) (tTup0 t) := by
  refine ⟨fun pins s σ H Q I hq => ?_⟩
  refine wpAny_Tuple_spliced (thn (h.run pos pins s σ H _ I hq) fun us s1 ⟨xs, H1, I1, r, z, q⟩ => ⟨by rw [← r.length]; exact z, ?_⟩)
  refine ⟨.ref s1.heap.objs.size, _, I1.laid (t' := s1.toks) (o := .frz { cls := .type "tuple", data := .seq us.toArray } (.tup xs)) (fun b u e => Heap.get?_push_of_some _ e) (Nat.le_refl _) ?_, rfl, q _ _ (I1.hok.fresh (Nat.le_refl _)) rfl⟩
  exact ⟨Heap.get?_push_size _ rfl, z, us, r, ⟨_, Heap.get?_push_size _ rfl, rfl, _, rfl⟩⟩
/-- tuple(xs) of a list, its object known -/
theorem call_tuple0 : CallR X (.type "tuple") (fun xs H Q => ∃ p ys, xs = [.ref p] ∧ SqL X.K H p ys ∧ ∀ q o, H q = none → o.dict = none → Q (.ref q) (upd H q (.frz o (.tup ys)))) := by
  intro pins s σ H xs us Q I r h
  obtain ⟨p, ys, rfl, hq, q⟩ := h
  rw [Vals.ref1 r]
  obtain ⟨its, r', pl, hz⟩ := I.list hq
  have len := r'.length
  refine call_tuple_list pl.isList (fun h' kp => ?_) (by simp only [List.size_toArray] <;> omega)
  have I1 : Inv X pins σ H { s with heap := h' } := I.kept (t' := s.toks) kp
  refine ⟨.ref h'.objs.size, _, I1.laid (t' := s.toks) (o := .frz { cls := .type "tuple", data := .seq its.toArray } (.tup ys)) (fun b o e => Heap.get?_push_of_some _ e) (Nat.le_refl _) ?_, rfl, q _ _ (I1.hok.fresh (Nat.le_refl _)) rfl⟩
  exact ⟨Heap.get?_push_size _ rfl, hz, its, r', IsTup.new _ _⟩
end
end Dt

/-! Substitutions. -/
namespace Ad
open PySem PySem.Spec PySem.Calls PyProof.Rows L2
abbrev Sb := List (Int × T)
namespace Sb
def look : Sb → Int → Option T
  | [], _ => none
  | (j, t) :: r, i => if j = i then some t else look r i
def put (tb : Sb) (i : Int) (t : T) : Sb := if (look tb i).isSome = true then tb.map (fun e => if e.1 = i then (e.1, t) else e) else tb ++ [(i, t)]
/-- what a variable becomes -/
def asg (tb : Sb) (i : Int) : T := (look tb i).getD (.v i)
theorem look_app (tb : Sb) (i : Int) (t : T) (j : Int) : look (tb ++ [(i, t)]) j = match look tb j with
    | some u => some u
    | none => if i = j then some t else none := by
  induction tb with
  | nil => rfl
  | cons e r ih =>
    obtain ⟨k, u⟩ := e
    show (if k = j then some u else look (r ++ [(i, t)]) j) = match (if k = j then some u else look r j) with | some u => some u | none => _
    by_cases h : k = j
    · rw [if_pos h, if_pos h]
    · rw [if_neg h, if_neg h, ih]
theorem look_map (tb : Sb) (i : Int) (t : T) (j : Int) : look (tb.map (fun e => if e.1 = i then (e.1, t) else e)) j = if i = j ∧ (look tb j).isSome = true then some t else look tb j := by
  induction tb with
  | nil =>
    rw [if_neg (by intro h; cases h.2)]
    rfl
  | cons e r ih =>
    obtain ⟨k, u⟩ := e
    show look ((if k = i then (k, t) else (k, u)) :: _) j = _
    by_cases h : k = i
    · rw [if_pos h]
      show (if k = j then some t else look (r.map _) j) = if i = j ∧ (if k = j then some u else look r j).isSome = true then some t else (if k = j then some u else look r j)
      by_cases hj : k = j
      · rw [if_pos hj, if_pos hj, if_pos ⟨h.symm.trans hj, rfl⟩]
      · have ne : ¬ i = j := fun z => hj (h.trans z)
        rw [if_neg hj, if_neg hj, ih]
    · rw [if_neg h]
      show (if k = j then some u else look (r.map _) j) = if i = j ∧ (if k = j then some u else look r j).isSome = true then some t else (if k = j then some u else look r j)
      by_cases hj : k = j
      · rw [if_pos hj, if_pos hj, if_neg (fun z => h (hj.trans z.1.symm))]
      · rw [if_neg hj, if_neg hj, ih]
theorem look_put (tb : Sb) (i : Int) (t : T) (j : Int) : look (put tb i t) j = if i = j then some t else look tb j := by
  unfold put
  by_cases h : (look tb i).isSome = true
  · rw [if_pos h, look_map]
    by_cases e : i = j
    · subst e
      rw [if_pos ⟨rfl, h⟩, if_pos rfl]
    · rw [if_neg (fun z => e z.1), if_neg e]
  · rw [if_neg h, look_app]
    by_cases e : i = j
    · subst e
      rw [if_pos rfl]
      cases z : look tb i with
      | none =>
        show some t = if i = i then some t else none
        exact (if_pos rfl).symm
      | some u =>
        rw [z] at h
        exact absurd rfl h
    · rw [if_neg e, if_neg e]
      cases look tb j <;> rfl
theorem look_key (tb : Sb) (i : Int) : (look tb i).isSome = true ↔ i ∈ tb.map (·.1) := by
  induction tb with
  | nil => exact ⟨(fun h => nomatch h), (fun h => nomatch h)⟩
  | cons e r ih =>
    obtain ⟨k, u⟩ := e
    show (if k = i then some u else look r i).isSome = true ↔ i ∈ k :: r.map (·.1)
    by_cases h : k = i
    · rw [if_pos h]
      exact ⟨fun _ => h ▸ List.mem_cons_self, fun _ => rfl⟩
    · rw [if_neg h, ih, List.mem_cons]
      exact ⟨.inr, fun z => z.elim (fun y => absurd y.symm h) id⟩
theorem keys_put (tb : Sb) (i : Int) (t : T) : (put tb i t).map (·.1) = if i ∈ tb.map (·.1) then tb.map (·.1) else tb.map (·.1) ++ [i] := by
  unfold put
  by_cases h : (look tb i).isSome = true
  · rw [if_pos h, if_pos ((look_key tb i).1 h), List.map_map]
    refine List.map_congr_left fun e _ => ?_
    show (if e.1 = i then (e.1, t) else e).1 = e.1
    split <;> rfl
  · rw [if_neg h, if_neg (fun z => h ((look_key tb i).2 z)), List.map_append]
    rfl
theorem nodup_put {tb : Sb} (h : (tb.map (·.1)).Nodup) (i : Int) (t : T) : ((put tb i t).map (·.1)).Nodup := by
  rw [keys_put]
  split
  · exact h
  · rename_i z
    rw [List.nodup_append]
    exact ⟨h, List.nodup_cons.mpr ⟨(fun y => nomatch y), List.nodup_nil⟩, fun a ha b hb e => z (by rw [List.mem_singleton.mp hb] at e; exact e ▸ ha)⟩
theorem len_put (tb : Sb) (i : Int) (t : T) : (put tb i t).length ≤ tb.length + 1 := by
  unfold put
  split
  · rw [List.length_map]
    exact Nat.le_succ _
  · rw [List.length_append]
    exact Nat.le_refl _
theorem mem_look {tb : Sb} (h : (tb.map (·.1)).Nodup) {i : Int} {t : T} : (i, t) ∈ tb ↔ look tb i = some t := by
  induction tb with
  | nil => exact ⟨(fun h => nomatch h), (fun h => nomatch h)⟩
  | cons e r ih =>
    obtain ⟨k, u⟩ := e
    obtain ⟨h1, h2⟩ := List.nodup_cons.mp h
    show _ ↔ (if k = i then some u else look r i) = some t
    by_cases z : k = i
    · rw [if_pos z, List.mem_cons]
      subst z
      constructor
      · rintro (y | y)
        · cases y
          rfl
        · exact absurd (List.mem_map.mpr ⟨_, y, rfl⟩) h1
      · intro y
        cases y
        exact .inl rfl
    · rw [if_neg z, List.mem_cons, ← ih h2]
      exact ⟨fun y => y.elim (fun x => absurd (congrArg Prod.fst x).symm z) id, .inr⟩
theorem look_mem {tb : Sb} {i : Int} {t : T} (h : look tb i = some t) : (i, t) ∈ tb := by
  induction tb with
  | nil => cases h
  | cons e r ih =>
    obtain ⟨k, u⟩ := e
    have h' : (if k = i then some u else look r i) = some t := h
    by_cases z : k = i
    · rw [if_pos z] at h'
      cases h'
      subst z
      exact List.mem_cons_self
    · rw [if_neg z] at h'
      exact List.mem_cons_of_mem _ (ih h')
end Sb
namespace T
mutual
def fill (s : Int → T) : T → T
  | .v i => s i
  | .f x ts => .f x (fillL s ts)
def fillL (s : Int → T) : List T → List T
  | [] => []
  | t :: ts => fill s t :: fillL s ts
end
theorem fillL_map (s : Int → T) : ∀ ts : List T, fillL s ts = ts.map (fill s)
  | [] => rfl
  | t :: ts => congrArg (fill s t :: ·) (fillL_map s ts)
mutual
theorem fill_fill (s r : Int → T) : ∀ t : T, fill r (fill s t) = fill (fun i => fill r (s i)) t
  | .v i => rfl
  | .f x ts => congrArg (T.f x) (fillL_fill s r ts)
theorem fillL_fill (s r : Int → T) : ∀ ts : List T, fillL r (fillL s ts) = fillL (fun i => fill r (s i)) ts
  | [] => rfl
  | t :: ts => by
    show fill r (fill s t) :: fillL r (fillL s ts) = _
    rw [fill_fill s r t, fillL_fill s r ts]
    rfl
end
mutual
theorem fill_congr {s r : Int → T} : ∀ t : T, (∀ j ∈ t.vars, s j = r j) → fill s t = fill r t
  | .v i, h => h i List.mem_cons_self
  | .f x ts, h => congrArg (T.f x) (fillL_congr ts h)
theorem fillL_congr {s r : Int → T} : ∀ ts : List T, (∀ j ∈ varsL ts, s j = r j) → fillL s ts = fillL r ts
  | [], _ => rfl
  | t :: ts, h => by
    show fill s t :: fillL s ts = _
    rw [fill_congr t fun j hj => h j (List.mem_append_left _ hj), fillL_congr ts fun j hj => h j (List.mem_append_right _ hj)]
    rfl
end
mutual
theorem fill_size {s : Int → T} {M : Nat} (one : 1 ≤ M) : ∀ t : T, (∀ j ∈ t.vars, (s j).size ≤ M) → (fill s t).size ≤ t.size * M
  | .v i, h => by
    have := h i List.mem_cons_self
    show (s i).size ≤ 1 * M
    omega
  | .f x ts, h => by
    have := fillL_size one ts h
    show 1 + sizeL (fillL s ts) ≤ (1 + sizeL ts) * M
    rw [Nat.add_mul]
    omega
theorem fillL_size {s : Int → T} {M : Nat} (one : 1 ≤ M) : ∀ ts : List T, (∀ j ∈ varsL ts, (s j).size ≤ M) → sizeL (fillL s ts) ≤ sizeL ts * M
  | [], _ => Nat.zero_le _
  | t :: ts, h => by
    have h1 := fill_size one t fun j hj => h j (List.mem_append_left _ hj)
    have h2 := fillL_size one ts fun j hj => h j (List.mem_append_right _ hj)
    show size (fill s t) + sizeL (fillL s ts) ≤ (size t + sizeL ts) * M
    rw [Nat.add_mul]
    omega
end
mutual
theorem fill_dep {s : Int → T} {D : Nat} : ∀ t : T, (∀ j ∈ t.vars, (s j).dep ≤ D) → (fill s t).dep ≤ t.dep + D
  | .v i, h => by
    have := h i List.mem_cons_self
    show (s i).dep ≤ 0 + D
    omega
  | .f x ts, h => by
    have := fillL_dep ts h
    show 1 + depL (fillL s ts) ≤ 1 + depL ts + D
    omega
theorem fillL_dep {s : Int → T} {D : Nat} : ∀ ts : List T, (∀ j ∈ varsL ts, (s j).dep ≤ D) → depL (fillL s ts) ≤ depL ts + D
  | [], _ => Nat.zero_le _
  | t :: ts, h => by
    have h1 := fill_dep t fun j hj => h j (List.mem_append_left _ hj)
    have h2 := fillL_dep ts fun j hj => h j (List.mem_append_right _ hj)
    show max (dep (fill s t)) (depL (fillL s ts)) ≤ max (dep t) (depL ts) + D
    omega
end
mutual
theorem fill_named {s : Int → T} : ∀ t : T, t.named = true → (∀ j ∈ t.vars, (s j).named = true) → (fill s t).named = true
  | .v i, _, h => h i List.mem_cons_self
  | .f x ts, n, h => by
    have n' : (nameOk x && namedL ts) = true := n
    rw [Bool.and_eq_true] at n'
    show (nameOk x && namedL (fillL s ts)) = true
    rw [n'.1, fillL_named ts n'.2 h]
    rfl
theorem fillL_named {s : Int → T} : ∀ ts : List T, namedL ts = true → (∀ j ∈ varsL ts, (s j).named = true) → namedL (fillL s ts) = true
  | [], _, _ => rfl
  | t :: ts, n, h => by
    have n' : (named t && namedL ts) = true := n
    rw [Bool.and_eq_true] at n'
    show (named (fill s t) && namedL (fillL s ts)) = true
    rw [fill_named t n'.1 fun j hj => h j (List.mem_append_left _ hj), fillL_named ts n'.2 fun j hj => h j (List.mem_append_right _ hj)]
    rfl
end
def isVar (i : Int) : T → Bool
  | .v j => decide (j = i)
  | .f _ _ => false
theorem isVar_iff {i : Int} {t : T} : isVar i t = true ↔ t = .v i := by
  cases t with
  | v j =>
    show decide (j = i) = true ↔ _
    rw [decide_eq_true_eq]
    exact ⟨fun e => congrArg T.v e, fun e => T.v.inj e⟩
  | f x ts => exact ⟨(fun h => nomatch h), (fun h => nomatch h)⟩
theorem eqv_var (t : T) (i : Int) : PyData.eqv t.d (.int i) = isVar i t := by
  cases t with
  | v j =>
    show PyData.eqv (.int j) (.int i) = decide (j = i)
    rw [PyData.eqv]
    first
      | rfl
      | (cases z : decide (j = i) <;> simp_all)
  | f x ts =>
    show PyData.eqv (.tuple _) (.int i) = false
    rw [PyData.eqv]
    all_goals (intros; first | contradiction | (intro z; cases z))
end T
namespace Sb
/-- the form of a substitution: rising, nothing that stays -/
structure Norm (tb su : Sb) : Prop where
  rising : (su.map (·.1)).Pairwise (· < ·)
  has : ∀ i t, (i, t) ∈ su ↔ look tb i = some t ∧ t.isVar i = false
theorem rising_nodup {l : List Int} (h : l.Pairwise (· < ·)) : l.Nodup := h.imp fun z e => by
  rw [e] at z
  exact Int.lt_irrefl _ z
theorem Norm.one {tb tb' su su' : Sb} (a : Norm tb su) (b : Norm tb' su') (same : ∀ i, look tb i = look tb' i) : su = su' := by
  have keys : su.map (·.1) = su'.map (·.1) := by
    refine rising_one' a.rising b.rising fun j => ?_
    constructor
    · intro h
      obtain ⟨⟨i, t⟩, h1, rfl⟩ := List.mem_map.mp h
      have h2 := (a.has i t).1 h1
      rw [same] at h2
      exact List.mem_map.mpr ⟨_, (b.has i t).2 h2, rfl⟩
    · intro h
      obtain ⟨⟨i, t⟩, h1, rfl⟩ := List.mem_map.mp h
      have h2 := (b.has i t).1 h1
      rw [← same] at h2
      exact List.mem_map.mpr ⟨_, (a.has i t).2 h2, rfl⟩
  have at' : ∀ {tb su : Sb}, Norm tb su → su.map some = su.map fun e => (look tb e.1).map fun t => (e.1, t) := by
    intro tb su n
    refine List.map_congr_left fun e he => ?_
    obtain ⟨i, t⟩ := e
    rw [((n.has i t).1 he).1]
    rfl
  have e1 : su.map some = (su.map (·.1)).map fun i => (look tb i).map fun t => (i, t) := by
    rw [at' a, List.map_map]
    rfl
  have e2 : su'.map some = (su'.map (·.1)).map fun i => (look tb' i).map fun t => (i, t) := by
    rw [at' b, List.map_map]
    rfl
  have e3 : su.map some = su'.map some := by
    rw [e1, e2, keys]
    exact List.map_congr_left fun i _ => by rw [same]
  exact List.map_inj_right (fun x y h => Option.some.inj h) |>.1 e3
where
  rising_one' : ∀ {as bs : List Int}, as.Pairwise (· < ·) → bs.Pairwise (· < ·) → (∀ j, j ∈ as ↔ j ∈ bs) → as = bs
    | [], [], _, _, _ => rfl
    | [], b :: bs, _, _, h => nomatch (h b).2 List.mem_cons_self
    | a :: as, [], _, _, h => nomatch (h a).1 List.mem_cons_self
    | a :: as, b :: bs, pa, pb, h => by
      obtain ⟨a1, a2⟩ := List.pairwise_cons.mp pa
      obtain ⟨b1, b2⟩ := List.pairwise_cons.mp pb
      have e : a = b := by
        rcases List.mem_cons.mp ((h a).1 List.mem_cons_self) with z | z
        · exact z
        · rcases List.mem_cons.mp ((h b).2 List.mem_cons_self) with y | y
          · exact y.symm
          · have h1 := b1 a z
            have h2 := a1 b y
            omega
      subst e
      congr 1
      refine rising_one' a2 b2 fun j => ⟨fun m => ?_, fun m => ?_⟩
      · rcases List.mem_cons.mp ((h j).1 (List.mem_cons_of_mem _ m)) with z | z
        · have := a1 j m
          omega
        · exact z
      · rcases List.mem_cons.mp ((h j).2 (List.mem_cons_of_mem _ m)) with z | z
        · have := b1 j m
          omega
        · exact z
/-- a substitution in its form does what the table does -/
theorem Norm.asg {tb su : Sb} (n : Norm tb su) (i : Int) : asg su i = asg tb i := by
  have nd := rising_nodup n.rising
  unfold Sb.asg
  cases h : look su i with
  | some t =>
    have m := (mem_look nd).2 h
    rw [((n.has i t).1 m).1]
  | none =>
    cases h2 : look tb i with
    | none => rfl
    | some t =>
      cases h3 : t.isVar i with
      | true => exact (T.isVar_iff.1 h3).symm
      | false =>
        have m := (mem_look nd).1 ((n.has i t).2 ⟨h2, h3⟩)
        rw [h] at m
        cases m
end Sb
/-! ### in the heap -/
/-- a table's entries -/
def TV (K : PySem.W.Frag) (H : Hp) (tb : Sb) (kvs : List (L2.Key × V)) : Prop := F2 (fun e kv => kv.1 = .inl e.1 ∧ Tm K H e.2 kv.2) tb kvs
section
variable {K : PySem.W.Frag} {H H' : Hp}
theorem TV.mono (k : TK H H') {tb : Sb} {kvs : List (L2.Key × V)} (h : TV K H tb kvs) : TV K H' tb kvs := F2.mono (fun _ _ z => ⟨z.1, Tm.mono k _ _ z.2⟩) h
theorem TV.val : ∀ {tb : Sb} {kvs : List (L2.Key × V)}, TV K H tb kvs → ∀ i, (tb.look i = none ∧ valV kvs (.inl i) = none) ∨ ∃ t v, tb.look i = some t ∧ valV kvs (.inl i) = some v ∧ Tm K H t v
  | [], kvs, h, i => by
    cases (show kvs = [] from h)
    exact .inl ⟨rfl, rfl⟩
  | (j, t) :: tb, kvs, h, i => by
    obtain ⟨kv, r, rfl, ⟨e, tm⟩, rest⟩ := h
    by_cases z : j = i
    · subst z
      exact .inr ⟨t, kv.2, if_pos rfl, valV_pos e, tm⟩
    · have ne : ¬ kv.1 = .inl i := fun y => z (by rw [e] at y; exact Sum.inl.inj y)
      rw [valV_neg ne]
      have e2 : Sb.look ((j, t) :: tb) i = Sb.look tb i := if_neg z
      rw [e2]
      exact TV.val (tb := tb) rest i
theorem TV.put {tb : Sb} {kvs : List (L2.Key × V)} (h : TV K H tb kvs) (i : Int) {t : T} {v : V} (tv : Tm K H t v) : TV K H (tb.put i t) (putK kvs (.inl i) v) := by
  unfold Sb.put putK
  have e : ((kvs.any fun kv => decide (kv.1 = .inl i)) = true) = ((tb.look i).isSome = true) := by
    rw [valV_any]
    rcases h.val i with ⟨a, b⟩ | ⟨t', v', a, b, _⟩
    · rw [a, b]
      rfl
    · rw [a, b]
      rfl
  simp only [e]
  split
  · clear e
    rename_i z
    clear z
    induction tb generalizing kvs with
    | nil =>
      cases (show kvs = [] from h)
      exact rfl
    | cons x tb ih =>
      obtain ⟨kv, r, rfl, ⟨e, tm⟩, rest⟩ := h
      refine ⟨_, _, rfl, ?_, ih rest⟩
      show (if kv.1 = .inl i then (kv.1, v) else kv).1 = .inl (if x.1 = i then (x.1, t) else x).1 ∧ Tm K H (if x.1 = i then (x.1, t) else x).2 (if kv.1 = .inl i then (kv.1, v) else kv).2
      by_cases y : x.1 = i
      · rw [if_pos y, if_pos (by rw [e, y])]
        exact ⟨e, tv⟩
      · rw [if_neg y, if_neg (fun z => y (by rw [e] at z; exact Sum.inl.inj z))]
        exact ⟨e, tm⟩
  · exact F2.app h (F2.one ⟨rfl, tv⟩)
theorem TV.keys : ∀ {tb : Sb} {kvs : List (L2.Key × V)}, TV K H tb kvs → kvs.map (·.1) = (tb.map (·.1)).map Sum.inl
  | [], kvs, h => by
    cases (show kvs = [] from h)
    rfl
  | e :: tb, kvs, h => by
    obtain ⟨kv, r, rfl, ⟨z, _⟩, rest⟩ := h
    show kv.1 :: r.map (·.1) = .inl e.1 :: _
    rw [z, TV.keys (tb := tb) rest]
theorem valV_out {kvs : List (L2.Key × V)} {k : L2.Key} (h : k ∉ kvs.map (·.1)) : valV kvs k = none := by
  induction kvs with
  | nil => rfl
  | cons p r ih =>
    rw [valV_neg (fun z => h (by rw [← z]; exact List.mem_cons_self))]
    exact ih fun z => h (List.mem_cons_of_mem _ z)
/-- pairs of unlike keys: all of them -/
theorem merge_all : ∀ (more kvs : List (L2.Key × V)), ((kvs ++ more).map (·.1)).Nodup → mergeK kvs more = kvs ++ more
  | [], kvs, _ => (List.append_nil _).symm
  | p :: more, kvs, h => by
    show mergeK (putK kvs p.1 p.2) more = _
    have out : p.1 ∉ kvs.map (·.1) := by
      intro z
      rw [List.map_append, List.nodup_append] at h
      exact h.2.2 p.1 z p.1 (by rw [List.map_cons]; exact List.mem_cons_self) rfl
    rw [putK_new _ (valV_out out)]
    have e : kvs ++ [(p.1, p.2)] ++ more = kvs ++ p :: more := by rw [List.append_assoc]; rfl
    rw [merge_all more _ (by rw [e]; exact h), e]
/-- a pair of a substitution -/
def SP (K : PySem.W.Frag) (H : Hp) (e : Int × T) (b : Addr) : Prop := ∃ v, SqT K H b [.int e.1, v] ∧ Tm K H e.2 v
/-- a substitution's value -/
def Su (K : PySem.W.Frag) (H : Hp) (su : Sb) (x : V) : Prop := ∃ (a : Addr) (bs : List Addr), x = .ref a ∧ Dt.Tup0 H a (bs.map V.ref) ∧ F2 (SP K H) su bs
theorem SP.mono (k : TK H H') (e : Int × T) (b : Addr) (h : SP K H e b) : SP K H' e b := by
  obtain ⟨v, s, t⟩ := h
  exact ⟨v, k.sq s, Tm.mono k _ _ t⟩
theorem tup0_mono (k : TK H H') {a : Addr} {xs : List V} (h : Dt.Tup0 H a xs) : Dt.Tup0 H' a xs := by
  obtain ⟨o, e, d⟩ := h
  exact ⟨o, (k a xs).2 o e, d⟩
theorem Su.mono (k : TK H H') {su : Sb} {x : V} (h : Su K H su x) : Su K H' su x := by
  obtain ⟨a, bs, e, t, f⟩ := h
  exact ⟨a, bs, e, tup0_mono k t, F2.mono (SP.mono k) f⟩
/-- its pairs as entries -/
theorem sp_pairs : ∀ {su : Sb} {bs : List Addr}, F2 (SP K H) su bs → ∃ kvs, Paired (fun p kv => SqT K H p [kV kv.1, kv.2]) bs kvs ∧ TV K H su kvs
  | [], bs, h => by
    cases (show bs = [] from h)
    exact ⟨[], .nil, rfl⟩
  | e :: su, bs, h => by
    obtain ⟨b, r, rfl, ⟨v, s, t⟩, rest⟩ := h
    obtain ⟨kvs, p, q⟩ := sp_pairs (su := su) rest
    exact ⟨(.inl e.1, v) :: kvs, .cons s p, _, _, rfl, ⟨rfl, t⟩, q⟩
end
end Ad

namespace Ad
open PySem PySem.Spec PySem.Calls PyProof.Rows L2
def spFilled (K : PySem.W.Frag) (n : Nat) : Sp := fun vs H Q _ => ∃ (t : T) (x : V) (d : Addr) (tb : Sb) (kvs : List (L2.Key × V)), vs = [x, .ref d] ∧ Tm K H t x ∧ H d = some (.dK kvs) ∧ TV K H tb kvs ∧ t.dep < n ∧ t.size ≤ 10000 ∧
  ∀ v H', Same H H' → Tm K H' (T.fill tb.asg t) v → Q v H'
def spPutIn (K : PySem.W.Frag) (n : Nat) : Sp := fun vs H Q _ => ∃ (t : T) (su : Sb) (x y : V), vs = [x, y] ∧ Tm K H t x ∧ Su K H su y ∧ (su.map (·.1)).Nodup ∧ t.dep < n ∧ t.size ≤ 10000 ∧ ∀ v H', Same H H' → Tm K H' (T.fill su.asg t) v → Q v H'
end Ad

/-! The run of a generator expression: its context, its start. -/
namespace Gx
open PySem PySem.Spec PySem.Calls PyProof.Rows L2
/-- the context of the run: its frame behind those that stood at s, its iterator's objects at fp -/
abbrev ctx (X : Cx) (s : Shared) (H : Hp) (e : Env) (fp : List Addr) (A : Around) (pn : List (Addr × Obj)) : Cx :=
  { X with A := A.deeper e, s_0 := s, H_0 := H, env := e, outer := X.stack, stack := e :: X.stack, ex := fp, fn := fun _ => false, calm := true, pn := pn, xe := fun _ _ => False }
theorem over_gen {A : Around} {e : Env} {elt tg iter : Expr} {ifs : List Expr} {scope : Scope} {pos : Pos} {it acc : Value} : A.over (.compLoop (.GeneratorExp elt [⟨tg, iter, ifs, 0⟩] scope pos) 0 it acc e) [] = A.deeper e := by
  first
    | rfl
    | (obtain ⟨hd, d, fr, gs, u⟩ := A; simp [Around.over, Around.deeper, marksOver, frameCount, unitsOf, envsOf, guardsOf, pushEnvs, pushGuards, Code.envs, Code.env?, Code.isFrame, Code.guards, Code.isGuard, Code.weight, Code.frames, Code.isCreation, Code.isCaller, Code.cUnits])
theorem over_start {A : Around} {e : Env} {elt tg iter : Expr} {ifs : List Expr} {scope : Scope} {pos : Pos} {it acc : Value} : A.over (.compStart (.GeneratorExp elt [⟨tg, iter, ifs, 0⟩] scope pos) 0 it acc e) [] = A.deeper e := by
  first
    | rfl
    | (obtain ⟨hd, d, fr, gs, u⟩ := A; simp [Around.over, Around.deeper, marksOver, frameCount, unitsOf, envsOf, guardsOf, pushEnvs, pushGuards, Code.envs, Code.env?, Code.isFrame, Code.guards, Code.isGuard, Code.weight, Code.frames, Code.isCreation, Code.isCaller, Code.cUnits])
section
variable {X : Cx} {pins : List (Addr × Obj)} {σ : L2.St} {H : Hp} {s : Shared}
theorem start {scope : Scope} {own : List (PySem.Str × Nat)} {fp : List Addr} {e : Env} {A : Around} {pn pins' : List (Addr × Obj)} {s' : Shared} {m : Str → Option Value} (I : Inv X pins σ H s) (ok : BlkOk X.N X.env.scope scope own) (nodup : X.N.Nodup) (noCell : ∀ y ∈ scope.names, y.2 ≠ .cell)
    (sc : e.scope = scope) (loc : e.locals = s.heap.objs.size) (glob : e.globals = mainGlobals) (blt : e.builtins = builtinsNs) (cells : e.cells = cloFrom X.env.cells scope.names []) (fr : e.frame = some e.locals)
    (ff : ∀ b ∈ fp, FpOk X pins H b ∧ b < s.heap.objs.size) (calm : A.handled = none) (frames : A.frames = some X.stack)
    (kp : ∀ b o, s.heap.get? b = some o → s'.heap.get? b = some o) (os : s'.os = s.os) (bare : AllBare s'.gens) (ns : s'.heap.Ns e.locals m)
    (pinned : ∀ p ∈ pn ++ pins', s'.heap.get? p.1 = some p.2 ∧ s.heap.objs.size < p.1 ∧ ∀ v, p.2.data ≠ .cell v) :
    Inv (ctx X s H e fp A pn) pins' (wipe σ (own.map (·.2))) H s' := by
  have from' : ∀ {y c}, e.cells.lookup y = some c → X.env.cells.lookup y = some c ∧ c < s.heap.objs.size := by
    intro y c h
    rw [cells] at h
    rcases cloFrom_mem (PySem.mem_of_lookup h) with z | ⟨h1, rfl⟩
    · cases z
    · obtain ⟨c, hc⟩ : ∃ c, X.env.cells.lookup y = some c := by
        rcases ok.free _ h1 rfl with k | k
        · exact I.ok.has _ (.inl k)
        · exact I.ok.has _ (.inr k)
      rw [hc]
      obtain ⟨w, z⟩ := I.cell _ _ hc
      exact ⟨rfl, z.lt⟩
  have to' : ∀ {y}, scope.names.lookup y = some .free → ∃ c, e.cells.lookup y = some c ∧ X.env.cells.lookup y = some c := by
    intro y h
    obtain ⟨c, hc⟩ := mem_lookup (cloFrom_has (cells := X.env.cells) (acc := []) (PySem.mem_of_lookup h))
    rw [← cells] at hc
    exact ⟨c, hc, (from' hc).1⟩
  refine ⟨?_, os, bare, Un.kept kp, ⟨m, ns, ?_⟩, ?_, ?_, ?_, ?_, I.hok.kept kp, ?_⟩
  · refine ⟨I.ok.mod, ?_, glob, blt, ?_, ?_, ?_, (fun x c z => nomatch z), fun _ => calm, Around.frames_deeper frames, .inr ⟨rfl, fr⟩, ?_, I.bs, Nat.le_trans I.ok.bsz I.sz, ?_, ?_, I.stack, I.stkFree⟩
    · show e.scope.kind = _
      rw [sc]
      exact ok.kind
    · show s.heap.objs.size ≤ e.locals
      rw [loc]
      exact Nat.le_refl _
    · intro x y c h1 h2
      exact I.ok.inj x y c (from' h1).1 (from' h2).1
    · intro x hx
      show ∃ c, e.cells.lookup x = some c
      have key : ∀ k, e.kindOf x = some k → (k = .cell ∨ k = .free) → ∃ c, e.cells.lookup x = some c := by
        intro k hk hk'
        unfold Env.kindOf at hk
        rw [sc] at hk
        rcases hk' with rfl | rfl
        · exact absurd rfl (noCell _ (PySem.mem_of_lookup hk))
        · obtain ⟨c, h, _⟩ := to' hk
          exact ⟨c, h⟩
      rcases hx with hx | hx
      · exact key _ hx (.inl rfl)
      · exact key _ hx (.inr rfl)
    · intro b hb
      refine ⟨?_, fun y c h z => ?_⟩
      · show b ≠ e.locals
        rw [loc]
        exact Nat.ne_of_lt (ff b hb).2
      · exact (ff b hb).1.2.2.2.2.1 y c (from' h).1 z
    · intro b o h hb
      rcases (ff b hb).1.2.2.2.1 with z | z
      · exact I.ok.noex b o h z
      · exact absurd (Nat.lt_of_lt_of_le (Heap.lt_size h) (Nat.le_trans I.ok.bsz z)) (Nat.lt_irrefl _)
    · intro b hb z
      rcases List.mem_cons.mp (I.stkSub b z) with z | z
      · exact (ff b hb).1.2.1 z
      · exact (ff b hb).1.2.2.1 z
  · intro i x v h1 h2 h3
    obtain ⟨h2, off⟩ := wipe_some h2
    have isFree : scope.names.lookup x = some .free := by
      have h3 : Vis e.scope x := h3
      rw [sc] at h3
      have no : ∀ k, scope.names.lookup x = some k → k = .local → False := by
        intro k hk hl
        rcases ok.own _ (PySem.mem_of_lookup hk) (.inl hl) with z | z
        · obtain ⟨p, hp, hpx⟩ := List.mem_map.mp z
          have h4 := ok.ix p hp
          have h5 : p.1 = x := hpx
          rw [h5] at h4
          exact off (List.mem_map.mpr ⟨p, hp, nodup_ix nodup h4 h1⟩)
        · exact z (List.mem_of_getElem? h1)
      rcases h3 with k | k | k
      · exact (no _ k rfl).elim
      · exact absurd rfl (noCell _ (PySem.mem_of_lookup k))
      · exact k
    obtain ⟨m0, _, look⟩ := I.loc
    have vis : Vis X.env.scope x := (ok.free _ (PySem.mem_of_lookup isFree) rfl).elim (fun k => .inr (.inl k)) fun k => .inr (.inr k)
    obtain ⟨u, r, q⟩ := look i x v h1 h2 vis
    obtain ⟨c, c1, c2⟩ := to' isFree
    refine ⟨u, r, .inr ⟨.inr ?_, c, c1, ?_⟩⟩
    · show e.scope.names.lookup x = some .free
      rw [sc]
      exact isFree
    · rcases q with ⟨k, _⟩ | ⟨_, c', e', z⟩
      · have k : X.env.scope.names.lookup x = some .local := k
        rcases ok.free _ (PySem.mem_of_lookup isFree) rfl with k' | k' <;> rw [show X.env.scope.names.lookup x = _ from k'] at k <;> cases k
      · rw [c2] at e'
        cases e'
        exact z.keeps kp
  · intro x c h
    obtain ⟨v, z⟩ := I.cell x c (from' h).1
    exact ⟨v, z.keeps kp⟩
  · show H e.locals = none
    rw [loc]
    exact I.hok.fresh (Nat.le_refl _)
  · intro x c h
    exact I.freeC x c (from' h).1
  · intro p hp
    obtain ⟨h1, h2, h3⟩ := pinned p hp
    refine ⟨h1, I.hok.fresh (Nat.le_of_lt h2), ?_, ?_, h3⟩
    · show p.1 ≠ e.locals
      rw [loc]
      exact Nat.ne_of_gt h2
    · intro z
      rcases List.mem_cons.mp (I.stkSub _ z) with z | z
      · have := I.lt
        rw [z] at h2
        exact absurd (Nat.lt_trans h2 this) (Nat.lt_irrefl _)
      · exact I.nofs (Nat.le_of_lt h2) z
  · rw [wipe_length]
    exact I.len
end
end Gx

/-! The run of a generator expression: its loop. -/
namespace Gx
open PySem PySem.Spec PySem.Calls PyProof.Rows L2
/-- what the run will hand out: J the walk; W turn, measure, what is out, heap -/
def Turns (J : It) (g : TG) (tt : TT) (te : TE) (vs : List Nat) (σ : L2.St) (cont : List V → Hp → Prop) (W : Nat → Nat → List V → Hp → Prop) : Prop := ∀ i m ys H, W i m ys H →
  (J.stop i H ∧ cont ys H) ∨ (J.go i H ∧ ∃ Nx : List V → Hp → Prop, (∀ ys' H', Nx ys' H' → ∃ m', m' < m ∧ W (i + 1) m' ys' H') ∧ ∀ x H', J.yld i H x H' → g x (wipe σ vs) H' fun σ2 H2 => wipe σ2 vs = wipe σ vs ∧ tt σ2 H2 fun b H3 =>
    if b = true then te σ2 H3 fun y H4 => ys.length < sizeLine ∧ Nx (ys ++ [y]) H4 else Nx ys H3)
/-- the end of such a run -/
def End (Y : Cx) (S : Addr) (cont : List V → Hp → Prop) : GenEnd := fun n _ r s => r = .ok .next ∧ ∃ ys ip σ H, n + ys.length = sizeLine ∧ GI Y S ip ys σ H s ∧ cont ys H
section
variable {Y : Cx} {A : Around} {S it : Addr} {fp : List Addr} {tn : Nat → Heap → Prop} {J : It} {elt tg iter : Expr} {ifs : List Expr} {scope : Scope} {pos : Pos} {g : TG} {tt : TT} {te : TE} {vs : List Nat} {σ : L2.St} {cont : List V → Hp → Prop} {W : Nat → Nat → List V → Hp → Prop}
theorem run (hov : A.over (.compLoop (.GeneratorExp elt [⟨tg, iter, ifs, 0⟩] scope pos) 0 (.ref it) .none Y.env) [] = Y.A) (calm : Y.calm = true) (co : Y.env.scope.isCoroutine = false) (noX : ∀ e s, Y.xe e s → False) (T : Turn Y.prog Y.w Y.K tg J fp it tn) (ex : Y.ex = fp)
    (pnS : ∀ p ∈ Y.pn, p.1 ≠ S) (pnF : ∀ p ∈ Y.pn, p.1 ∉ fp) (young : Apart Y S) (offS : S ∉ fp) (pg : PG Y tg g) (pt : PTs Y ifs tt) (pe : PE Y elt te) (turns : Turns J g tt te vs σ cont W) :
    ∀ (m n i : Nat) (ys : List V) (s₀ s : Shared) (H : Hp), n + ys.length = sizeLine → W i m ys H → GI Y S [] ys (wipe σ vs) H s → tn i s.heap → (∀ b ∈ fp, H b = none) →
      Seg (model Y.prog Y.w) A (End Y S cont) (GY Y S) n s₀ (.compLoop (.GeneratorExp elt [⟨tg, iter, ifs, 0⟩] scope pos) 0 (.ref it) .none Y.env)
        ((model Y.prog Y.w).den (.compLoop (.GeneratorExp elt [⟨tg, iter, ifs, 0⟩] scope pos) 0 (.ref it) .none Y.env)) [] s := by
  intro m
  induction m using Nat.strongRecOn with
  | ind m ih =>
    intro n i ys s₀ s H len w gi st none0
    obtain ⟨acc, cc, rv, I⟩ := gi
    have apart : ∀ {σ' : L2.St} {H' : Hp} {s' : Shared}, Inv Y [(S, lstObj acc cc)] σ' H' s' → (∀ b ∈ fp, H' b = none) → ∀ b ∈ fp, FpOk Y [(S, lstObj acc cc)] H' b := by
      intro σ' H' s' I' hn b hb
      have hb' : b ∈ Y.ex := by rw [ex]; exact hb
      refine ⟨hn b hb, (I'.ok.exf b hb').1, I'.ok.exfs b hb', .inl hb', fun x c e => (I'.ok.exf b hb').2 x c e, fun p hp z => ?_⟩
      rcases List.mem_append.mp hp with q | q
      · exact pnF p q (z ▸ hb)
      · rw [List.mem_singleton.mp q] at z
        have z' : S = b := z
        rw [← z'] at hb
        exact offS hb
    show Seg _ A _ _ _ s₀ _ ((compTurn (.GeneratorExp elt [⟨tg, iter, ifs, 0⟩] scope pos) 0 (.ref it) .none Y.env).onRaise (leaving Y.env)) [] s
    rw [compTurn_gen, Sem.onRaise_eq_wrap]
    refine seg_bind_wrap (wpAny_standAt ?_)
    refine seg_bind_wrap ?_
    rw [hov]
    rcases turns i m ys H w with ⟨stop, here⟩ | ⟨more, Nx, down, step⟩
    · refine wpAny_mono (T.done Y rfl rfl rfl calm i [(S, lstObj acc cc)] s _ H (fun _ _ => False) I (apart I none0) st stop) (fun r s6 r6 => ?_) fun x s' q => q.elim
      obtain ⟨rfl, I6⟩ := r6
      exact seg_end (.ok .next) ⟨rfl, ys, [], _, H, len, ⟨acc, cc, rv, I6⟩, here⟩
    · refine wpAny_mono (T.item Y rfl rfl rfl calm i [(S, lstObj acc cc)] s _ H (fun _ _ => False) I (apart I none0) st more) (fun r s6 r6 => ?_) fun x s' q => q.elim
      obtain ⟨u, rfl, h6⟩ := r6
      refine seg_bind_wrap ?_
      rw [hov]
      refine wpAny_mono h6 (fun _ s7 r7 => ?_) fun x s' q => q.elim
      obtain ⟨x, H7, I7, rx, y7, st7, n7⟩ := r7
      refine seg_bind_wrap ?_
      rw [hov]
      refine wpAny_mono (pg.run _ s7 _ H7 x u _ (I7.pinned (apart I7 n7) (T.obj _ _ st7)) rx (step x H7 y7)) (fun _ s8 r8 => ?_) fun x s' q => (noX _ _ q).elim
      obtain ⟨σ8, H8, I8, same, q8⟩ := r8
      refine seg_bind_wrap ?_
      rw [hov]
      refine wpAny_mono (pt.run _ s8 σ8 H8 _ I8 q8) (fun b s9 r9 => ?_) fun x s' q => (noX _ _ q).elim
      obtain ⟨H9, I9, q9⟩ := r9
      have lenσ : (wipe σ vs).length = σ8.length := by
        rw [← same]
        exact wipe_length ..
      have onward : ∀ {s' : Shared} {H' : Hp} {acc' : Array Value} {c' : Nat} {ys' : List V}, Vals ys' acc'.toList → Inv Y ([(S, lstObj acc' c')] ++ pinsAt fp s7.heap) σ8 H' s' → Nx ys' H' → ∀ n', n' + ys'.length = sizeLine → ∀ s₀',
          Seg (model Y.prog Y.w) A (End Y S cont) (GY Y S) n' s₀' (.compLoop (.GeneratorExp elt [⟨tg, iter, ifs, 0⟩] scope pos) 0 (.ref it) .none Y.env)
            ((model Y.prog Y.w).den (.compLoop (.GeneratorExp elt [⟨tg, iter, ifs, 0⟩] scope pos) 0 (.ref it) .none Y.env)) [] s' := by
        intro s' H' acc' c' ys' rv' I' nx n' len' s₀'
        obtain ⟨m', less, w'⟩ := down ys' H' nx
        have pinned : ∀ b ∈ fp, ∀ o, s7.heap.get? b = some o → s'.heap.get? b = some o ∧ H' b = none := by
          intro b hb o e
          have z := I'.pin (b, o) (List.mem_append_right _ (List.mem_append_right _ (mem_pinsAt hb e)))
          exact ⟨z.1, z.2.1⟩
        refine ih m' less n' (i + 1) ys' s₀' s' H' len' w' ⟨acc', c', rv', (I'.unpinned).weak lenσ ?_⟩ (T.keep _ _ _ st7 fun b hb o e => (pinned b hb o e).1) ?_
        · intro j v e
          rw [← same] at e
          exact (wipe_some e).1
        · intro b hb
          obtain ⟨o, e, _⟩ := T.obj _ _ st7 b hb
          exact (pinned b hb o e).2
      cases b with
      | false =>
        rw [if_neg Bool.false_ne_true] at q9
        simp only [Bool.false_eq_true, if_false]
        exact seg_again rfl (onward rv I9 q9 n len s₀)
      | true =>
        rw [if_pos rfl] at q9
        simp only [if_true]
        have hy : ∀ v, yieldOut Y.env v = yieldValue v := fun v => by simp only [yieldOut, co, Bool.false_eq_true, if_false]
        simp only [hy]
        rw [Sem.bind_eq_wrap', Sem.bind_eq_wrap', Sem.wrap_wrap, Sem.wrap_wrap]
        refine seg_wrap ?_
        rw [hov]
        refine wpAny_mono (pe.run _ s9 σ8 H9 _ I9 q9) (fun z s10 r10 => ?_) fun x s' q => (noX _ _ q).elim
        obtain ⟨yv, H10, I10, ry, room, nx⟩ := r10
        obtain ⟨n', rfl⟩ : ∃ n', n = n' + 1 := ⟨n - 1, by omega⟩
        have hip : ∀ p ∈ pinsAt fp s7.heap, p.1 ≠ S := fun p hp z => offS (z ▸ (of_pinsAt hp).1)
        have gi10 : GI Y S (pinsAt fp s7.heap) ys σ8 H10 s10 := ⟨acc, cc, rv, I10⟩
        refine seg_at (seg_yield rfl rfl rfl ⟨ys, yv, pinsAt fp s7.heap, σ8, H10, len, ry, gi10, fun s'' slept => ?_⟩)
        obtain ⟨acc', c', rv', I'⟩ := gi10.woken pnS hip young ry slept
        refine seg_again rfl (onward rv' I' nx n' ?_ s'')
        rw [List.length_append, List.length_singleton]
        omega
end
end Gx

/-! A generator expression as a value. -/
namespace Gx
open PySem PySem.Spec PySem.Calls PyProof.Rows L2 GxR
/-- (elt for tg in iter if ..); P: the def's table of code objects -/
def tGen (P : Addr) (wi : TI) (g : TG) (tt : TT) (te : TE) (vs : List Nat) : TGen := fun σ H cont => wi σ H fun J G => TabG G P ∧ ∀ G2, Tabbed P G G2 → ∃ W : Nat → Nat → List V → Hp → Prop, (∃ m, W 0 m [] G2) ∧ Turns J g tt te vs σ cont W
abbrev gEnv (X : Cx) (scope : Scope) (C : Addr) (cv : Value) : Env := genEnv scope (cloFrom X.env.cells scope.names []) C cv builtinsNs X.env
section
variable {X : Cx} {c P : Addr} {elt tg iter : Expr} {ifs : List Expr} {scope : Scope} {own : List (PySem.Str × Nat)} {pos : Pos} {wi : TI} {g : TG} {tt : TT} {te : TE} {k : Nat}
theorem pgen (room : Room (k + 1) X.A) (TB : TabB X.base X.mg c P) (code : X.env.code = .ref c) (nodup : X.N.Nodup) (walked : PI X tg iter wi) (blk : BlkOk X.N X.env.scope scope own) (noCell : ∀ y ∈ scope.names, y.2 ≠ .cell) (dot : scope.names.lookup (".0" : PySem.Str) = some NameKind.local) (co : scope.isCoroutine = false)
    (gg : ∀ (s : Shared) (H : Hp) (C : Addr) (cv : Value) (fp : List Addr) (A : Around) (pn : List (Addr × Obj)), PG (ctx X s H (gEnv X scope C cv) fp A pn) tg g)
    (gt : ∀ (s : Shared) (H : Hp) (C : Addr) (cv : Value) (fp : List Addr) (A : Around) (pn : List (Addr × Obj)), Room k (A.deeper (gEnv X scope C cv)) → PTs (ctx X s H (gEnv X scope C cv) fp A pn) ifs tt)
    (ge : ∀ (s : Shared) (H : Hp) (C : Addr) (cv : Value) (fp : List Addr) (A : Around) (pn : List (Addr × Obj)), Room k (A.deeper (gEnv X scope C cv)) → PE (ctx X s H (gEnv X scope C cv) fp A pn) elt te)
    (fold : ∀ v, genFold iter X.env v = pure v := by intro _; rfl) : PGen X (k + 1) (.GeneratorExp elt [⟨tg, iter, ifs, 0⟩] scope pos) (tGen P wi g tt te (own.map (·.2))) fun _ _ _ => False := by
  constructor
  intro pins s σ H cont I0 want
  have free : ∀ y ∈ scope.names, y.2 = .free → ∃ c, X.env.cells.lookup y.1 = some c := by
    intro y hy e
    rcases blk.free y hy e with z | z
    · exact I0.ok.has _ (.inl z)
    · exact I0.ok.has _ (.inr z)
  refine wpAny_GeneratorExp_make co (closure_ok free) noCell dot blk.kind (by have := room.dp; omega) ?_ fold
  refine thn (walked.run pins s σ H _ I0 want) fun xv s1 r1 => thn r1 fun itv s2 r2 => ?_
  obtain ⟨it, fp, tn, J, H2, rfl, I2, T, st2, f2, ⟨tab, hP, ht⟩, q⟩ := r2
  refine ⟨I2.nolimit, ?_⟩
  have tabS : s2.heap.get? P = some { cls := .none, data := .fields tab } := I2.hok P _ hP
  have cd : PySem.W.CodeHd s2.heap c P := TB.code.keeps fun b u e => I2.bk b u e
  have fpP : ∀ b ∈ fp, b ≠ P := by
    intro b hb z
    have e := (f2 b hb).1
    rw [z, hP] at e
    cases e
  have goOn : ∀ (cv : Value) (h3 : Heap) (tk : Nat) (tab' : Array Value), Heap.ExtBut P s2.heap h3 → s2.heap.objs.size ≤ h3.objs.size → h3.get? P = some { cls := .none, data := .fields tab' } → (∃ more, tab' = tab ++ more) → TriplesOk tab'.toList →
      wpAny (model X.prog X.w) X.A (builtinsFor X.env.globals X.env.builtins) (fun bi s₄ =>
        ∀ h', h'.Ns s₄.heap.objs.size (fun y => if y = ".0" then some (.ref it) else none) → Heap.SameBut s₄.heap.objs.size (s₄.heap.push { cls := .type "frame", data := .dict #[] }) h' →
          (fun u s' => ∃ H1 sc ex, Inv X pins σ H1 sc ∧ ExOk X pins ex ∧ GMade X.prog X.w (k + 1) X.stack H1 sc ex cont (fun _ _ _ => False) u s') (.ref h'.objs.size) { s₄ with
            gens := s₄.gens.push (.fresh (.compStart (.GeneratorExp elt [⟨tg, iter, ifs, 0⟩] scope pos) 0 (.ref it) .none (genEnv scope (cloFrom X.env.cells scope.names []) s₄.heap.objs.size cv bi X.env))),
            toks := s₄.toks + 1 + 1 + 1,
            heap := h'.push { cls := .type "generator", data := .fields #[.int s₄.gens.size 0, .str "<genexpr>" (s₄.toks + 1), .str (X.env.qual ++ "<genexpr>") (s₄.toks + 1 + 1)] } }) X.xe { s2 with heap := h3, toks := tk } := by
    intro cv h3 tk tab' ext grown tab3 more ok3
    obtain ⟨bm, ob, e1, e2, e3, e4, e5, e6, e7, e8⟩ := TB.bm
    refine wpAny_builtinsFor (m := X.mg) (by rw [I2.ok.glob]; exact (I2.mod.glob.keeps I2.bk).extBut ext TB.gP) e1 e2 (ext _ _ e4 (I2.bk _ _ e5)) e6 e7 e8 ?_
    intro h' hn' hs'
    obtain ⟨mo, em⟩ := more
    have I3 : Inv X pins σ (upd H2 P (.tbl (tab ++ mo))) { s2 with heap := h3, toks := tk } :=
      inv_tab (more := mo) (h' := h3) (g' := s2.gens) (d' := s2.drawn) (t' := tk) I2 hP (fun b u hb e => ext b u hb e) (by rw [← em]; exact tab3) I2.bare
    have tb3 : Tabbed P H2 (upd H2 P (.tbl (tab ++ mo))) := ⟨⟨tab ++ mo, upd_same, by rw [← em]; exact ok3⟩, fun b hb => upd_ne hb⟩
    obtain ⟨W, ⟨m0, w0⟩, turns⟩ := q _ tb3
    have f3 : ∀ b ∈ fp, FpOk X pins (upd H2 P (.tbl (tab ++ mo))) b := fun b hb => ⟨by rw [upd_ne (fpP b hb)]; exact (f2 b hb).1, (f2 b hb).2⟩
    have lt3 : ∀ b ∈ fp, b < h3.objs.size := by
      intro b hb
      obtain ⟨_, e, _⟩ := T.obj _ _ st2 b hb
      exact Nat.lt_of_lt_of_le (Heap.lt_size e) grown
    have st3 : tn 0 h3 := T.keep _ _ _ st2 fun b hb o e => ext b o (fpP b hb) e
    generalize upd H2 P (.tbl (tab ++ mo)) = H3 at I3 w0 f3
    generalize e3s : ({ s2 with heap := h3, toks := tk } : Shared) = s3 at I3
    have hh3 : s3.heap = h3 := congrArg Shared.heap e3s.symm
    clear e3s
    subst hh3
    have sz' : h'.objs.size = s3.heap.objs.size + 1 := by
      rw [hs'.1]
      exact Heap.size_push ..
    have kp' : ∀ b o, s3.heap.get? b = some o → h'.get? b = some o := fun b o e => hs'.extBut b o (Nat.ne_of_lt (Heap.lt_size e)) (Heap.get?_push_of_some _ e)
    refine ⟨H3, s3, fp, I3, fun b hb => ⟨(f3 b hb).2.2.2.1, (f3 b hb).2.1, (f3 b hb).2.2.2.2.1, (f3 b hb).2.2.2.2.2⟩, ?_⟩
    generalize ego : ({ cls := .type "generator", data := .fields #[.int s3.gens.size 0, .str "<genexpr>" (s3.toks + 1), .str (X.env.qual ++ "<genexpr>") (s3.toks + 1 + 1)] } : Obj) = go
    have isGen : ∀ h : Heap, h.get? h'.objs.size = some go → h.IsGen h'.objs.size s3.gens.size := by
      intro h e
      subst ego
      exact ⟨_, _, _, e, rfl, rfl, rfl⟩
    have pushed : (h'.push go).get? h'.objs.size = some go := by
      subst ego
      exact Heap.get?_push_size _ rfl
    have goData : ∀ v, go.data ≠ .cell v := by
      subst ego
      intro v z
      cases z
    have kpush : ∀ b o, s3.heap.get? b = some o → (h'.push go).get? b = some o := fun b o e => Heap.get?_push_of_some _ (kp' b o e)
    refine ⟨h'.objs.size, s3.gens.size, _, rfl, by rw [sz']; exact Nat.le_succ _, by show _ < (h'.push go).objs.size; rw [Heap.size_push]; exact Nat.lt_succ_self _, isGen _ pushed, Array.getElem?_push_size .., rfl, AllBare.push I3.bare rfl, ?_, fun b o e => kpush b o (e), ?_⟩
    · exact I3.nolimit.keeps fun b o e => kpush b o (e)
    intro A S s9 room9 frames9 young9 keep9 atS os9 bare9
    obtain ⟨cS, atS⟩ := atS
    have young9 : (h'.push go).objs.size ≤ S := young9
    rw [Heap.size_push] at young9
    have goAt : s9.heap.get? h'.objs.size = some go := keep9 _ _ pushed
    have kp9 : ∀ b o, s3.heap.get? b = some o → s9.heap.get? b = some o := fun b o e => keep9 b o (kpush b o (e))
    have ns9 : s9.heap.Ns (gEnv X scope s3.heap.objs.size cv).locals (fun y => if y = ".0" then some (.ref it) else none) := (hn'.push go).keeps fun b o e => keep9 b o e
    have I9 : Inv (ctx X s3 H3 (gEnv X scope s3.heap.objs.size cv) fp A [(h'.objs.size, go)]) [(S, lstObj #[] cS)] (wipe σ (own.map (·.2))) H3 s9 := by
      refine start I3 blk nodup noCell rfl rfl I0.ok.glob rfl rfl rfl (fun b hb => ⟨f3 b hb, lt3 b hb⟩) room9.hd frames9 kp9 os9 bare9 ns9 ?_
      intro p hp
      rcases List.mem_append.mp hp with z | z
      · rw [List.mem_singleton.mp z]
        refine ⟨goAt, ?_, goData⟩
        show s3.heap.objs.size < h'.objs.size
        rw [sz']
        exact Nat.lt_succ_self _
      · rw [List.mem_singleton.mp z]
        refine ⟨atS, ?_, fun v y => by cases y⟩
        show s3.heap.objs.size < S
        exact Nat.lt_of_lt_of_le (by rw [sz']; exact Nat.lt_succ_of_lt (Nat.lt_succ_self _)) young9
    have ltS : s3.heap.objs.size < S := Nat.lt_of_lt_of_le (by rw [sz']; exact Nat.lt_succ_of_lt (Nat.lt_succ_self _)) young9
    have apS : Apart (ctx X s3 H3 (gEnv X scope s3.heap.objs.size cv) fp A [(h'.objs.size, go)]) S := by
      refine ⟨by show s3.heap.objs.size ≤ S; exact Nat.le_of_lt ltS, Nat.ne_of_gt ltS, fun x c' e z => ?_⟩
      have e : (cloFrom X.env.cells scope.names []).lookup x = some c' := e
      rcases cloFrom_mem (PySem.mem_of_lookup e) with y | ⟨h1, rfl⟩
      · cases y
      · obtain ⟨c0, hc⟩ := free _ h1 rfl
        rw [hc] at z
        have z : c0 = S := z
        obtain ⟨v, y⟩ := I3.cell _ _ hc
        have lt := y.lt
        rw [z] at lt
        exact Nat.lt_irrefl _ (Nat.lt_trans lt ltS)
    have offS : S ∉ fp := fun z => Nat.lt_irrefl _ (Nat.lt_trans (lt3 S z) ltS)
    have st9 : tn 0 s9.heap := T.keep _ _ _ st3 fun b hb o e => kp9 b o e
    have deep := room9.deeper (gEnv X scope s3.heap.objs.size cv)
    have loop := run (Y := ctx X s3 H3 (gEnv X scope s3.heap.objs.size cv) fp A [(h'.objs.size, go)]) (A := A) (S := S) (it := it) (elt := elt) (tg := tg) (ifs := ifs) (scope := scope) (iter := iter) (pos := pos) (cont := cont) over_gen rfl co (fun _ _ z => z) T rfl
      (fun p hp => by rw [List.mem_singleton.mp hp]; exact Nat.ne_of_lt (Nat.lt_of_lt_of_le (Nat.lt_succ_self _) young9)) (fun p hp z => by
        rw [List.mem_singleton.mp hp] at z
        have := lt3 _ z
        rw [sz'] at this
        exact Nat.lt_irrefl _ (Nat.lt_trans (Nat.lt_succ_self _) this)) apS offS
      (gg s3 H3 s3.heap.objs.size cv fp A [(h'.objs.size, go)]) (gt s3 H3 s3.heap.objs.size cv fp A [(h'.objs.size, go)] deep) (ge s3 H3 s3.heap.objs.size cv fp A [(h'.objs.size, go)] deep) turns
      m0 sizeLine 0 [] s9 s9 H3 (Nat.add_zero _) w0 ⟨#[], cS, .nil, I9⟩ st9 (fun b hb => (f3 b hb).1)
    refine seg_imp (R := End (ctx X s3 H3 (gEnv X scope s3.heap.objs.size cv) fp A [(h'.objs.size, go)]) S cont) (Y := GY (ctx X s3 H3 (gEnv X scope s3.heap.objs.size cv) fp A [(h'.objs.size, go)]) S) (fun n s₀ r s1' hR => ?_) (fun n s₀ v s1' kap kap' hkk hY => ?_) sizeLine ?_
    · obtain ⟨rfl, ys, ip, σ', H', len, gi, fin⟩ := hR
      obtain ⟨a1, _, _, acc, cc, ra, ea⟩ := gi.at
      obtain ⟨_, _, _, K9⟩ := gi
      exact .inl ⟨.inr rfl, H', ys, acc, cc, K9.os, K9.bare, K9.base, K9.hok, a1, ea, ra, by omega, fin⟩
    · obtain ⟨ys, xx, ip, σ', H', len, h2, gi, h4⟩ := hY
      obtain ⟨_, _, _, acc, cc, ra, ea⟩ := gi.at
      obtain ⟨_, _, _, K9⟩ := gi
      have hg := isGen _ (K9.pin (h'.objs.size, go) (List.mem_append_left _ (List.mem_singleton.mpr rfl))).1
      have size : acc.size = ys.length := by
        have l1 := ra.length
        have l2 : acc.toList.length = acc.size := by simp
        omega
      exact ⟨K9.os, K9.bare, K9.nolimit, hg, ⟨acc, cc, ea, by rw [size]; exact len⟩, fun s' z => hkk _ _ (h4 s' z)⟩
    · show Seg _ A _ _ _ s9 _ ((compStart (.GeneratorExp elt [⟨tg, iter, ifs, 0⟩] scope pos) 0 (.ref it) .none (gEnv X scope s3.heap.objs.size cv)).onRaise (leaving (gEnv X scope s3.heap.objs.size cv))) [] s9
      unfold compStart
      rw [Sem.onRaise_eq_wrap]
      show Seg _ A _ _ _ s9 _ ((ask >>= _).wrap _ _ _ _) [] s9
      refine seg_bind_wrap (wpAny_askSetting ?_)
      split
      · exact seg_again rfl loop
      · first
          | exact seg_bind_wrap (wpAny_rule (seg_bind_wrap (wpAny_standAt (seg_bind_wrap (T.self _ 0 s9 _ _ st9 (seg_again rfl loop))))))
          | (refine seg_bind_wrap (wpAny_rule ?_); show Seg _ A _ _ _ s9 _ ((standAt iter.pos >>= _).wrap _ _ _ _) [] s9; exact seg_bind_wrap (wpAny_standAt (seg_bind_wrap (T.self _ 0 s9 _ _ st9 (seg_again rfl loop)))))
  cases hf : codeAmong pos tab.toList with
  | none =>
    refine wpAny_genexprCodeX code (cd.code tabS ht) (cd.tab tabS) hf fun c' h' tk hx hge hlt hco' _ htab' _ => ?_
    obtain ⟨o1, vs, f1, tf, fl, tg', inF, tx, tt', op, _, _, _, _, _, _, _, _, _, htr, _⟩ := hco'
    exact goOn _ h' tk _ hx (Nat.le_trans hge (Nat.le_of_lt hlt)) htab'.2 ⟨_, rfl⟩ htr
  | some cv =>
    refine wpAny_genexprCode_hit code (cd.code tabS ht) hf ?_
    exact goOn cv s2.heap s2.toks tab (Heap.ExtBut.refl _ _) (Nat.le_refl _) tabS ⟨#[], by simp⟩ ht
end
end Gx

/-! tuple(g) of a generator that has not begun. -/
namespace Gx
open PySem PySem.Spec PySem.Calls PyProof.Rows L2 GxR
section
variable {P : Program} {w : World} {outer : List Env} {H : Hp} {sc s : Shared} {ex : List Addr} {Q : List V → Hp → Prop} {A : Around} {k : Nat} {u : Value} {E : Value → Shared → Prop}
abbrev noEx : XK := fun _ _ _ => False
theorem never {e : Value} {s' : Shared} (h : CX P w outer H sc noEx e s') : False := by
  obtain ⟨a, B, H', cls, d, _, _, _, _, _, _, _, z⟩ := h
  exact z
/-- all that comes out of it -/
theorem gathered {Q' : List Value → Shared → Prop} (hr : Room (k + 1) A) (fr : A.frames = some outer) (made : GMade P w k outer H sc ex Q noEx u s)
    (hQ : ∀ S s' acc c H' ys, s.heap.objs.size ≤ S → s'.heap.get? S = some (lstObj acc c) → Vals ys acc.toList → ys.length ≤ sizeLine → s'.os = sc.os → AllBare s'.gens → Un (frs outer) ex H H' sc.heap s'.heap → HOk P w H' s'.heap → H' S = none → Q ys H' → Q' acc.toList s') :
    wpAny (model P w) A (collect u) Q' E s := by
  obtain ⟨a, g, c, rfl, above, below, isGen, fresh, os, bare, lim, old, wake⟩ := made
  have unlike : s.heap.objs.size ≠ a := Nat.ne_of_gt below
  have noStat : s.heap.objs.size ≠ cStatics := by
    obtain ⟨_, hn, _⟩ := lim
    exact Nat.ne_of_gt hn.lt
  unfold collect
  refine wpAny_bind (wpAny_runValue (codeAny_builtin F.entry_proto_collect ?_))
  rw [Around.under_plainId F.plain_proto_collect _]
  show wpAny _ A.in1 (newList [] >>= fun l => again (.builtin "list.__iadd__" ⟨[l, .ref a], []⟩)) _ _ s
  refine wpAny_bind (wpAny_newObj_type ?_)
  refine wpAny_pure ⟨plainId_quiet F.plain_list_iadd _, codeAny_builtin F.entry_list_iadd ?_⟩
  rw [Around.under_plainId F.plain_list_iadd _]
  have at1 : (s.heap.push { cls := .type "list", data := .seq ([] : List Value).toArray }).get? s.heap.objs.size = some { cls := .type "list", data := .seq ([] : List Value).toArray } := Heap.get?_push_size _ rfl
  have keep1 : ∀ b o, s.heap.get? b = some o → (s.heap.push { cls := .type "list", data := .seq ([] : List Value).toArray }).get? b = some o := fun b o e => Heap.get?_push_of_some _ e
  have up : ∀ (h : Heap) (f : Obj → Obj), (∀ b o, s.heap.get? b = some o → h.get? b = some o) → ∀ b o, s.heap.get? b = some o → (h.update s.heap.objs.size f).get? b = some o := fun h f q b o e =>
    (Heap.get?_update_other _ _ (Ne.symm (Nat.ne_of_lt (Heap.lt_size e)))).trans (q b o e)
  have genAt : ∀ {h : Heap}, (∀ b o, s.heap.get? b = some o → h.get? b = some o) → h.IsGen a g := fun {h} q => isGen.keeps q
  show wpAny _ A.in1 (Builtin.List.listExtendWith (.ref s.heap.objs.size) (.ref a) (.ref s.heap.objs.size)) _ _ _
  unfold Builtin.List.listExtendWith
  refine wpAny_bind (wpAny_typeOf (Heap.IsGen.typeIs (s := { s with heap := _ }) (genAt keep1)) ?_)
  have q1 : Builtin.List.listSameRef (.ref s.heap.objs.size) (.ref a) = false := by simp [Builtin.List.listSameRef, unlike]
  have q2 : (Value.type "generator" == Value.type "list") = false := by decide
  have q3 : (Value.type "generator" == Value.type "tuple") = false := by decide
  simp only [q1, q2, q3, Bool.or_false, Bool.false_eq_true, if_false]
  refine wpAny_bind (wpAny_pyIter_gen (s := { s with heap := _ }) (genAt keep1) ?_)
  refine wpAny_bind (wpAny_holding ?_)
  unfold Builtin.List.listLengthHint
  refine wpAny_bind (wpAny_specialOf (Heap.IsGen.typeIs (s := { s with heap := _ }) (genAt keep1)) F.gen_no_len ?_)
  show wpAny _ A.in1 (specialOf (Value.ref a) (Str.ofString "__length_hint__") >>= _) _ _ _
  refine wpAny_bind (wpAny_specialOf (Heap.IsGen.typeIs (s := { s with heap := _ }) (genAt keep1)) F.gen_no_hint ?_)
  refine wpAny_pure ?_
  show wpAny _ A.in1 (rule "list.extend.makes-room" >>= fun _ => Builtin.List.listTouch (.ref s.heap.objs.size) >>= fun _ =>
    again (.builtin "list.extend.loop" ⟨[.ref s.heap.objs.size, .ref a, .ref s.heap.objs.size], []⟩)) _ _ _
  refine wpAny_bind (wpAny_rule ?_)
  refine wpAny_bind ?_
  show wpAny _ A.in1 (updateSeq s.heap.objs.size (·.push .none) >>= fun _ => updateSeq s.heap.objs.size (·.pop)) _ _ _
  refine wpAny_bind (wpAny_updateSeq at1 rfl ?_)
  have at2 := Heap.get?_update_self (Obj.mapSeq (·.push Value.none)) at1 rfl
  refine wpAny_updateSeq (hz := by seq_fits) at2 rfl ?_
  have at3 := Heap.get?_update_self (Obj.mapSeq (·.pop)) at2 rfl
  have keep3 := up _ (Obj.mapSeq (·.pop)) (up _ (Obj.mapSeq (·.push Value.none)) keep1)
  refine wpAny_pure ⟨plainId_quiet F.plain_extend_loop _, ?_⟩
  refine drain (P := P) (w := w) (outer := outer) (H := H) (sc := sc) (ex := ex) (Q := Q) (EX := noEx) (A := A) (g := g) hr.hd (by have := hr.dp; show A.depth < _; omega) unlike noStat
    (fun s' acc c H' ys r1 r2 r3 r4 r5 r6 r7 r8 r9 => ?_) (fun e s' z => (never z).elim) sizeLine _ ?_ ?_ ⟨_, fresh, rfl, ?_⟩
  · show wpAny _ A (load s.heap.objs.size >>= _) _ _ s'
    refine wpAny_bind (wpAny_load r1 ?_)
    exact wpAny_pure (hQ s.heap.objs.size s' acc c H' ys (Nat.le_refl _) r1 r2 r3 r4 r5 r6 r7 r8 r9)
  · exact genAt keep3
  · exact lim.keeps keep3
  · refine wake _ _ _ ⟨hr.hd, ?_, ?_⟩ fr (Nat.le_refl _) keep3 ⟨_, at3⟩ os (allBare_setGen (s := { s with heap := _ }) bare rfl)
    · have := hr.dp
      show A.depth + 3 * k + 5 < _
      omega
    · have := hr.un
      show A.units + 1 + 1 + 16 * k + 200 < _
      omega
end
end Gx

/-! tuple(g), list(g) as expressions. -/
namespace Gx
open PySem PySem.Spec PySem.Calls PyProof.Rows L2 GxR
section
variable {P : Program} {w : World} {outer : List Env} {H : Hp} {sc s : Shared} {ex : List Addr} {Q : List V → Hp → Prop} {A : Around} {k : Nat} {u : Value} {E : Value → Shared → Prop}
theorem new_tuple {Q' : Value → Shared → Prop} (hr : Room (k + 2) A) (fr : A.frames = some outer) (made : GMade P w k outer H sc ex Q noEx u s)
    (hQ : ∀ (s' : Shared) (acc : Array Value) (H' : Hp) (ys : List V), s.heap.objs.size ≤ s'.heap.objs.size → Vals ys acc.toList → ys.length ≤ sizeLine → s'.os = sc.os → AllBare s'.gens → Un (frs outer) ex H H' sc.heap s'.heap → HOk P w H' s'.heap → Q ys H' → Q' (.ref s'.heap.objs.size) { s' with heap := s'.heap.push { cls := .type "tuple", data := .seq acc } }) :
    codeAny (model P w) A (.call (.builtin "tuple.__new__") ⟨[.type "tuple", u], []⟩) (wants Q' E) s := by
  have made' := made
  obtain ⟨a, g, c, rfl, _, _, isGen, _⟩ := made'
  refine codeAny_of_tree ?_
  show wpAny _ A.in1 (do checkBuiltinCall "tuple.__new__" ⟨[.type "tuple", .ref a], []⟩; again (.builtin "tuple.__new__" ⟨[.type "tuple", .ref a], []⟩)) _ _ s
  refine wpAny_bind (wpAny_of_eq (F.newCall_tuple_1 _) (wpAny_pure ⟨plainId_quiet F.plain_tuple_new _, codeAny_builtin F.entry_tuple_new ?_⟩))
  rw [Around.under_plainId F.plain_tuple_new _]
  have q1 := sub_tuple_self
  have q2 := init_tuple_lookup
  have q3 := madeHere_tuple
  have q4 := isGen.typeIs (s := s)
  have fr1 : A.in1.frames = some outer := fr
  wp_walk using wpAny_typeOf q4, gathered (k := k) hr.in1 fr1 made
  intro S s' acc c' H' ys r1 r2 r3 r4 r5 r6 r7 r8 r9 r10
  show wpAny _ _ (Builtin.Tuple.tupleExact acc.toList.toArray >>= fun v => ret v) _ _ _
  have e : acc.toList.toArray = acc := by simp
  have l := r3.length
  have l2 : acc.toList.length = acc.size := by simp
  unfold Builtin.Tuple.tupleExact
  refine wpAny_bind (wpAny_newObj_type ?_ (by show acc.toList.toArray.size ≤ sizeLine; rw [e]; omega))
  refine wpAny_pure ?_
  rw [e]
  exact hQ s' acc H' ys (Nat.le_trans r1 (Nat.le_of_lt (Heap.lt_size r2))) r3 r4 r5 r6 r7 r8 r10
theorem call_tuple_made {Q' : Value → Shared → Prop} (hr : Room (k + 4) A) (fr : A.frames = some outer) (made : GMade P w k outer H sc ex Q noEx u s)
    (hQ : ∀ (s' : Shared) (acc : Array Value) (H' : Hp) (ys : List V), s.heap.objs.size ≤ s'.heap.objs.size → Vals ys acc.toList → ys.length ≤ sizeLine → s'.os = sc.os → AllBare s'.gens → Un (frs outer) ex H H' sc.heap s'.heap → HOk P w H' s'.heap → Q ys H' → Q' (.ref s'.heap.objs.size) { s' with heap := s'.heap.push { cls := .type "tuple", data := .seq acc } }) :
    wpAny (model P w) A (call (.type "tuple") [u]) Q' E s := by
  have fr1 : A.in1.frames = some outer := fr
  refine callType_codes (Q₁ := fun obj s₁ => s₁.TypeIs obj "tuple" ∧ Q' obj s₁) F.called_tuple (F.typeCall_tuple_1 _) F.entry_object_init
    (new_tuple (k := k) (hr.mono (by omega : k + 3 ≤ k + 4)).in1 fr1 made fun s' acc H' ys r1 r2 r3 r4 r5 r6 r7 r8 => ⟨⟨_, Heap.get?_push_size _ rfl, rfl⟩, hQ s' acc H' ys r1 r2 r3 r4 r5 r6 r7 r8⟩) fun obj s₁ h₁ => ?_
  exact ⟨h₁.1, F.args_object_init_2 obj _, object_init_meets F.called_tuple.init.lookup F.called_tuple.made (by decide) P w A.in1 _ s₁ ⟨h₁.1, rfl, h₁.2⟩⟩
end
section
variable {X : Cx} {k : Nat} {e : Expr} {tg : TGen} {p pos : Pos}
def tTupG (tg : TGen) : TE := fun σ H Q => tg σ H fun out H2 => ∀ q, H2 q = none → Q (.ref q) (upd H2 q (.tup out))
/-- tuple(g) -/
theorem pe_tupG (h : PGen X k e tg noEx) (hr : Room (k + 4) X.A) (hg : Gl X "tuple") (hm : X.mg "tuple" = none) (he : starEach [e] X.env = (false, eval e X.env) :: starEach [] X.env := by rfl) : PE X (.Call (.Name "tuple" p) [e] [] pos) (tTupG tg) := by
  refine ⟨fun pins s σ H Q I hq => ?_⟩
  refine wpAny_Call_Name_kw (ld_blt I hg hm boot_tuple ?_)
  refine PyProof.Rows.callWith_type1 ?_ he rfl
  rw [he]
  show wpAny _ _ (spliced ((false, eval e X.env) :: backTo pos (starEach [] X.env))) _ _ s
  refine Calls.spliced_cons (thn (h.run pins s σ H _ I hq) fun u s1 ⟨H1, sc, ex, I1, hex, made⟩ => ?_)
  refine Calls.spliced_nil ?_
  refine call_tuple_made hr I1.ok.frames made fun s' acc H' ys r1 r2 r3 r4 r5 r6 r7 r8 => ?_
  have I2 : Inv X pins σ H' s' := I1.call' (ch := ex) r4 r6 r7 r5 hex
  refine ⟨.ref _, upd H' s'.heap.objs.size (.tup ys), I2.laid (t' := s'.toks) (fun b u z => Heap.get?_push_of_some _ z) (Nat.le_refl _) ?_, rfl, r8 _ (I2.hok.fresh (Nat.le_refl _))⟩
  refine ⟨r3, acc.toList, r2, ?_⟩
  have z : acc.toList.toArray = acc := by simp
  rw [z]
  exact ⟨_, Heap.get?_push_size _ rfl, rfl, _, rfl⟩
/-- tuple(g), its object known -/
def tTupG0 (tg : TGen) : TE := fun σ H Q => tg σ H fun out H2 => ∀ q o, H2 q = none → o.dict = none → Q (.ref q) (upd H2 q (.frz o (.tup out)))
theorem pe_tupG0 (h : PGen X k e tg noEx) (hr : Room (k + 4) X.A) (hg : Gl X "tuple") (hm : X.mg "tuple" = none) (he : starEach [e] X.env = (false, eval e X.env) :: starEach [] X.env := by rfl) : PE X (.Call (.Name "tuple" p) [e] [] pos) (tTupG0 tg) := by
  refine ⟨fun pins s σ H Q I hq => ?_⟩
  refine wpAny_Call_Name_kw (ld_blt I hg hm boot_tuple ?_)
  refine PyProof.Rows.callWith_type1 ?_ he rfl
  rw [he]
  show wpAny _ _ (spliced ((false, eval e X.env) :: backTo pos (starEach [] X.env))) _ _ s
  refine Calls.spliced_cons (thn (h.run pins s σ H _ I hq) fun u s1 ⟨H1, sc, ex, I1, hex, made⟩ => ?_)
  refine Calls.spliced_nil ?_
  refine call_tuple_made hr I1.ok.frames made fun s' acc H' ys r1 r2 r3 r4 r5 r6 r7 r8 => ?_
  have I2 : Inv X pins σ H' s' := I1.call' (ch := ex) r4 r6 r7 r5 hex
  refine ⟨.ref _, _, I2.laid (t' := s'.toks) (o := .frz { cls := .type "tuple", data := .seq acc } (.tup ys)) (fun b u z => Heap.get?_push_of_some _ z) (Nat.le_refl _) ?_, rfl, r8 _ _ (I2.hok.fresh (Nat.le_refl _)) rfl⟩
  refine ⟨Heap.get?_push_size _ rfl, r3, acc.toList, r2, ?_⟩
  have z : acc.toList.toArray = acc := by simp
  rw [z]
  exact ⟨_, Heap.get?_push_size _ rfl, rfl, _, rfl⟩
end
end Gx

/-! Turns over a list, a tuple that stay as they are. -/
namespace Gx
open PySem PySem.Spec PySem.Calls PyProof.Rows L2 GxR
section
variable {K : PySem.W.Frag} {a : Addr} {xs : List V} {g : TG} {tt : TT} {te : TE} {vs : List Nat} {σ : L2.St} {G : Hp} {cont : List V → Hp → Prop}
theorem turns_list (Pv : Nat → List V → Hp → Prop) (first : Pv 0 [] G) (stays : ∀ i ys H, i ≤ xs.length → Pv i ys H → SqL K H a xs)
    (turn : ∀ i x ys H, xs[i]? = some x → Pv i ys H → g x (wipe σ vs) H fun σ2 H2 => wipe σ2 vs = wipe σ vs ∧ tt σ2 H2 fun b H3 => if b = true then te σ2 H3 fun y H4 => ys.length < sizeLine ∧ Pv (i + 1) (ys ++ [y]) H4 else Pv (i + 1) ys H3)
    (after : ∀ ys H, Pv xs.length ys H → cont ys H) : ∃ W : Nat → Nat → List V → Hp → Prop, (∃ m, W 0 m [] G) ∧ Turns (Itl K a) g tt te vs σ cont W := by
  refine ⟨fun i m ys H => m = xs.length - i ∧ i ≤ xs.length ∧ Pv i ys H, ⟨xs.length, (Nat.sub_zero _).symm, Nat.zero_le _, first⟩, ?_⟩
  rintro i m ys H ⟨rfl, le, p⟩
  have seq := stays i ys H le p
  rcases Nat.lt_or_ge i xs.length with lt | ge
  · refine .inr ⟨⟨xs, xs[i], seq, List.getElem?_eq_getElem lt⟩, Pv (i + 1), fun ys' H' p' => ⟨xs.length - (i + 1), by omega, rfl, lt, p'⟩, fun x H' y => ?_⟩
    obtain ⟨rfl, y⟩ := y
    exact turn i x ys _ (y xs seq) p
  · have e : i = xs.length := by omega
    subst e
    exact .inl ⟨⟨xs, seq, Nat.le_refl _⟩, after ys H p⟩
theorem turns_tup (Pv : Nat → List V → Hp → Prop) (first : Pv 0 [] G) (stays : ∀ i ys H, i ≤ xs.length → Pv i ys H → SqT K H a xs)
    (turn : ∀ i x ys H, xs[i]? = some x → Pv i ys H → g x (wipe σ vs) H fun σ2 H2 => wipe σ2 vs = wipe σ vs ∧ tt σ2 H2 fun b H3 => if b = true then te σ2 H3 fun y H4 => ys.length < sizeLine ∧ Pv (i + 1) (ys ++ [y]) H4 else Pv (i + 1) ys H3)
    (after : ∀ ys H, Pv xs.length ys H → cont ys H) : ∃ W : Nat → Nat → List V → Hp → Prop, (∃ m, W 0 m [] G) ∧ Turns (Itt K a) g tt te vs σ cont W := by
  refine ⟨fun i m ys H => m = xs.length - i ∧ i ≤ xs.length ∧ Pv i ys H, ⟨xs.length, (Nat.sub_zero _).symm, Nat.zero_le _, first⟩, ?_⟩
  rintro i m ys H ⟨rfl, le, p⟩
  have seq := stays i ys H le p
  rcases Nat.lt_or_ge i xs.length with lt | ge
  · refine .inr ⟨⟨xs, xs[i], seq, List.getElem?_eq_getElem lt⟩, Pv (i + 1), fun ys' H' p' => ⟨xs.length - (i + 1), by omega, rfl, lt, p'⟩, fun x H' y => ?_⟩
    obtain ⟨rfl, y⟩ := y
    exact turn i x ys _ (y xs seq) p
  · have e : i = xs.length := by omega
    subst e
    exact .inl ⟨⟨xs, seq, Nat.le_refl _⟩, after ys H p⟩
end
end Gx

/-! A table's substitution. -/
namespace Ad
open PySem PySem.Spec PySem.Calls PyProof.Rows L2 GxR
namespace Sb
def pick (tb : Sb) (i : Int) : Option (Int × T) := match look tb i with
  | some t => if t.isVar i = true then none else some (i, t)
  | none => none
def sel (tb : Sb) (ks : List Int) : Sb := ks.filterMap (pick tb)
theorem pick_iff {tb : Sb} {i j : Int} {t : T} : pick tb i = some (j, t) ↔ i = j ∧ look tb i = some t ∧ t.isVar i = false := by
  unfold pick
  cases h : look tb i with
  | none => exact ⟨(fun z => nomatch z), (fun z => nomatch z.2.1)⟩
  | some u =>
    show (if u.isVar i = true then none else some (i, u)) = some (j, t) ↔ _
    cases hv : u.isVar i with
    | true =>
      rw [if_pos rfl]
      refine ⟨(fun z => nomatch z), fun z => ?_⟩
      have e := Option.some.inj z.2.1
      rw [← e, hv] at z
      exact nomatch z.2.2
    | false =>
      rw [if_neg Bool.false_ne_true]
      constructor
      · intro z
        cases z
        exact ⟨rfl, rfl, hv⟩
      · rintro ⟨rfl, z, _⟩
        cases z
        rfl
theorem norm_sel {tb : Sb} {ks : List Int} (rising : ks.Pairwise (· < ·)) (all : ∀ i, i ∈ ks ↔ i ∈ tb.map (·.1)) : Norm tb (sel tb ks) := by
  constructor
  · unfold sel
    have key : ∀ l : List Int, l.Pairwise (· < ·) → ((l.filterMap (pick tb)).map (·.1)).Pairwise (· < ·) ∧ ∀ j ∈ (l.filterMap (pick tb)).map (·.1), j ∈ l := by
      intro l
      induction l with
      | nil => intro _; exact ⟨.nil, fun j hj => nomatch hj⟩
      | cons i l ih =>
        intro h
        obtain ⟨h1, h2⟩ := List.pairwise_cons.mp h
        obtain ⟨r1, r2⟩ := ih h2
        cases hp : pick tb i with
        | none =>
          rw [List.filterMap_cons, hp]
          exact ⟨r1, fun j hj => List.mem_cons_of_mem _ (r2 j hj)⟩
        | some e =>
          obtain ⟨k, t⟩ := e
          have ek := (pick_iff.1 hp).1
          subst ek
          rw [List.filterMap_cons, hp]
          refine ⟨List.pairwise_cons.mpr ⟨fun j hj => h1 j (r2 j hj), r1⟩, fun j hj => ?_⟩
          rcases List.mem_cons.mp hj with z | z
          · rw [z]
            exact List.mem_cons_self
          · exact List.mem_cons_of_mem _ (r2 j z)
    exact (key ks rising).1
  · intro i t
    unfold sel
    rw [List.mem_filterMap]
    constructor
    · rintro ⟨k, _, hp⟩
      obtain ⟨rfl, h1, h2⟩ := pick_iff.1 hp
      exact ⟨h1, h2⟩
    · rintro ⟨h1, h2⟩
      exact ⟨i, (all i).2 ((look_key tb i).1 (by rw [h1]; rfl)), pick_iff.2 ⟨rfl, h1, h2⟩⟩
theorem sel_take {tb : Sb} {ks : List Int} {n : Nat} {i : Int} (h : ks[n]? = some i) : sel tb (ks.take (n + 1)) = sel tb (ks.take n) ++ (match pick tb i with
    | some e => [e]
    | none => []) := by
  unfold sel
  rw [List.take_add_one, h, List.filterMap_append]
  congr 1
  show List.filterMap (pick tb) [i] = _
  cases hp : pick tb i with
  | none => rw [List.filterMap_cons, hp]; rfl
  | some e => rw [List.filterMap_cons, hp]; rfl
end Sb
/-- all in a table can be compared -/
def Good (tb : Sb) : Prop := ∀ e ∈ tb, e.2.named = true ∧ e.2.dep ≤ 60
theorem TV.at {K : PySem.W.Frag} {H : Hp} {tb : Sb} {kvs : List (L2.Key × V)} (h : TV K H tb kvs) {i : Int} (m : i ∈ tb.map (·.1)) : ∃ t v, tb.look i = some t ∧ valV kvs (.inl i) = some v ∧ Tm K H t v := by
  rcases h.val i with ⟨a, _⟩ | z
  · have := (Sb.look_key tb i).2 m
    rw [a] at this
    cases this
  · exact z
theorem int_shaped (i : Int) : SeqAt.shaped (.int i) = true := rfl
theorem tab_same {H H' : Hp} {P : Addr} (s : Same H H') (t : TabG H P) : TabG H' P := by
  obtain ⟨ps, e, ok⟩ := t
  exact ⟨ps, s _ _ e, ok⟩
theorem tab_tk {H H' : Hp} {P : Addr} (t : TabG H P) (k : ∀ b o, b ≠ P → H b = some o → H' b = some o) : TK H H' := by
  obtain ⟨ps, e, ok⟩ := t
  intro b xs
  refine ⟨fun h => k b _ (fun z => ?_) h, fun o h => k b _ (fun z => ?_) h⟩
  · rw [z, e] at h
    cases h
  · rw [z, e] at h
    cases h
section
variable {P : Program} {w : World} {K : PySem.W.Frag} {mg : Str → Option Value} {base : Heap}
theorem tab_upd {H : Hp} {P q : Addr} {o : HO} (t : TabG H P) (n : H q = none) : TabG (upd H q o) P := by
  obtain ⟨ps, e, ok⟩ := t
  exact ⟨ps, by rw [upd_ne (ne_of_none e n)]; exact e, ok⟩
end
def spSubst (K : PySem.W.Frag) (Pt : Addr) : Sp := fun vs H Q _ => ∃ (d : Addr) (tb : Sb) (kvs : List (L2.Key × V)), vs = [.ref d] ∧ H d = some (.dK kvs) ∧ TV K H tb kvs ∧ (tb.map (·.1)).Nodup ∧ tb.length < 64 ∧ Good tb ∧ TabG H Pt ∧
  ∀ su x H', tb.Norm su → Su K H' su x → (∀ b o, b ≠ Pt → H b = some o → H' b = some o) → TabG H' Pt → Q x H'
end Ad

/-! One substitution behind another. -/
namespace Ad
open PySem PySem.Spec PySem.Calls PyProof.Rows L2 GxR
namespace Sb
def beh (one other : Sb) : Sb := one.foldl (fun tb e => put tb e.1 (T.fill (asg other) e.2)) other
theorem beh_take {one other : Sb} {i : Nat} {e : Int × T} (h : one[i]? = some e) : beh (one.take (i + 1)) other = put (beh (one.take i) other) e.1 (T.fill (asg other) e.2) := by
  unfold beh
  rw [List.take_add_one, h, List.foldl_append]
  rfl
theorem fold_look (other : Sb) (s : Int → T) : ∀ (one tb : Sb), (one.map (·.1)).Nodup → ∀ i, look (one.foldl (fun tb e => put tb e.1 (T.fill s e.2)) tb) i = match look one i with
    | some t => some (T.fill s t)
    | none => look tb i
  | [], tb, _, i => rfl
  | e :: one, tb, nd, i => by
    obtain ⟨n1, n2⟩ := List.nodup_cons.mp nd
    rw [List.foldl_cons, fold_look other s one _ n2]
    have e1 : look (e :: one) i = if e.1 = i then some e.2 else look one i := rfl
    rw [e1, look_put]
    by_cases h : e.1 = i
    · rw [if_pos h, if_pos h]
      have out : look one i = none := by
        cases z : look one i with
        | none => rfl
        | some t =>
          have := (look_key one i).1 (by rw [z]; rfl)
          rw [← h] at this
          exact absurd this n1
      rw [out]
    · rw [if_neg h, if_neg h]
theorem beh_look {one other : Sb} (nd : (one.map (·.1)).Nodup) (i : Int) : look (beh one other) i = match look one i with
    | some t => some (T.fill (asg other) t)
    | none => look other i := fold_look other _ one other nd i
/-- putting in by it is putting in by one, then by the other -/
theorem beh_asg {one other : Sb} (nd : (one.map (·.1)).Nodup) (i : Int) : asg (beh one other) i = T.fill (asg other) (asg one i) := by
  show (look (beh one other) i).getD (.v i) = T.fill (asg other) ((look one i).getD (.v i))
  rw [beh_look nd]
  cases look one i <;> rfl
theorem nodup_fold (s : Int → T) : ∀ (one tb : Sb), (tb.map (·.1)).Nodup → ((one.foldl (fun tb e => put tb e.1 (T.fill s e.2)) tb).map (·.1)).Nodup
  | [], tb, h => h
  | e :: one, tb, h => nodup_fold s one _ (nodup_put h _ _)
theorem len_fold (s : Int → T) : ∀ (one tb : Sb), (one.foldl (fun tb e => put tb e.1 (T.fill s e.2)) tb).length ≤ tb.length + one.length
  | [], tb => Nat.le_refl _
  | e :: one, tb => by
    have h1 := len_fold s one (put tb e.1 (T.fill s e.2))
    have h2 := len_put tb e.1 (T.fill s e.2)
    rw [List.foldl_cons, List.length_cons]
    omega
end Sb
section
variable {P : Program} {w : World} {K : PySem.W.Frag} {mg : Str → Option Value} {base : Heap}
theorem dict_of {H : Hp} {a : Addr} {bs : List Addr} {su : Sb} (tup : Dt.Tup0 H a (bs.map V.ref)) (prs : F2 (SP K H) su bs) (nd : (su.map (·.1)).Nodup) : ∃ kvs, Paired (fun p kv => SqT K H p [kV kv.1, kv.2]) bs kvs ∧ TV K H su kvs ∧ mergeK [] kvs = kvs := by
  obtain ⟨kvs, pd, tv⟩ := sp_pairs prs
  refine ⟨kvs, pd, tv, ?_⟩
  have z := merge_all kvs [] (by
    rw [List.nil_append, tv.keys]
    exact List.Pairwise.map Sum.inl (fun a b h e => h (Sum.inl.inj e)) nd)
  rw [z, List.nil_append]
def spBehind (K : PySem.W.Frag) (Pt : Addr) (n : Nat) : Sp := fun vs H Q _ => ∃ (one other : Sb) (x y : V), vs = [x, y] ∧ Su K H one x ∧ Su K H other y ∧ (one.map (·.1)).Nodup ∧ (other.map (·.1)).Nodup ∧ (∀ e ∈ one, e.2.dep < n ∧ e.2.size ≤ 10000) ∧ one.length + other.length < 64 ∧
  Good (Sb.beh one other) ∧ TabG H Pt ∧ ∀ su z H', (Sb.beh one other).Norm su → Su K H' su z → (∀ b o, b ≠ Pt → H b = some o → H' b = some o) → TabG H' Pt → Q z H'
end
end Ad

namespace Ad
open PySem PySem.Spec PySem.Calls PyProof.Rows L2 GxR
def spLPairs (K : PySem.W.Frag) : Sp := fun vs H Q _ => ∃ (d : Addr) (tb : Sb) (kvs : List (L2.Key × V)), vs = [.ref d] ∧ H d = some (.dK kvs) ∧ TV K H tb kvs ∧ (tb.map (·.1)).Nodup ∧ tb.length < 64 ∧ Good tb ∧
  ∀ su x H', tb.Norm su → Su K H' su x → Same H H' → Q x H'
end Ad

/-! The law's own: behind; renamed; drawn pairs. -/
namespace Ad
open PySem PySem.Spec PySem.Calls PyProof.Rows L2 GxR
theorem dk_tk {H : Hp} {d : Addr} {kvs : List (L2.Key × V)} (h : H d = some (.dK kvs)) (o : HO) : TK H (upd H d o) := by
  intro b xs
  refine ⟨fun e => ?_, fun u e => ?_⟩
  · rw [upd_ne (fun z => by rw [z, h] at e; cases e)]
    exact e
  · rw [upd_ne (fun z => by rw [z, h] at e; cases e)]
    exact e
section
variable {P : Program} {w : World} {K : PySem.W.Frag} {mg : Str → Option Value} {base : Heap}
def spLBeh (K : PySem.W.Frag) (n : Nat) : Sp := fun vs H Q _ => ∃ (one other : Sb) (x y : V), vs = [x, y] ∧ Su K H one x ∧ Su K H other y ∧ (one.map (·.1)).Nodup ∧ (other.map (·.1)).Nodup ∧ (∀ e ∈ one, e.2.dep < n ∧ e.2.size ≤ 10000) ∧ one.length + other.length < 64 ∧
  Good (Sb.beh one other) ∧ ∀ su z H', (Sb.beh one other).Norm su → Su K H' su z → Same H H' → Q z H'
end
/-! ### renamed -/
namespace Sb
/-- the variables of a row, in the order in which they come, called first, first + 1, .. -/
def ren (first : Int) (tb : Sb) : List Int → Sb
  | [] => tb
  | i :: l => ren first (if (look tb i).isSome = true then tb else put tb i (.v (first + (tb.length : Int)))) l
theorem ren_app (first : Int) : ∀ (l m : List Int) (tb : Sb), ren first tb (l ++ m) = ren first (ren first tb l) m
  | [], m, tb => rfl
  | i :: l, m, tb => ren_app first l m _
theorem ren_len (first : Int) : ∀ (l : List Int) (tb : Sb), (ren first tb l).length ≤ tb.length + l.length
  | [], tb => Nat.le_refl _
  | i :: l, tb => by
    have h1 := ren_len first l (if (look tb i).isSome = true then tb else put tb i (.v (first + (tb.length : Int))))
    have h2 := len_put tb i (.v (first + (tb.length : Int)))
    show (ren first _ l).length ≤ tb.length + (l.length + 1)
    split at h1
    · rename_i z
      rw [if_pos z]
      omega
    · rename_i z
      rw [if_neg z]
      omega
end Sb
namespace T
def varOf : T → List Int
  | .v i => [i]
  | .f _ _ => []
mutual
theorem parts_vars : ∀ t : T, t.parts.flatMap varOf = t.vars
  | .v i => rfl
  | .f x ts => by
    show (T.f x ts :: partsL ts).flatMap varOf = varsL ts
    rw [List.flatMap_cons, partsL_vars ts]
    rfl
theorem partsL_vars : ∀ ts : List T, (partsL ts).flatMap varOf = varsL ts
  | [] => rfl
  | t :: ts => by
    show (parts t ++ partsL ts).flatMap varOf = vars t ++ varsL ts
    rw [List.flatMap_append, parts_vars t, partsL_vars ts]
end
end T
end Ad

/-! Drawn orders. -/
namespace Ad
open PySem PySem.Spec PySem.Calls PyProof.Rows L2
/-- a name and its number of arguments -/
abbrev Pr := Str × Nat
def PrV (K : PySem.W.Frag) (H : Hp) (r : Pr) (v : V) : Prop := ∃ b, v = .ref b ∧ SqT K H b [.str r.1, .int (r.2 : Int)]
theorem PrV.mono {K : PySem.W.Frag} {H H' : Hp} (k : TK H H') (r : Pr) (v : V) (h : PrV K H r v) : PrV K H' r v := by
  obtain ⟨b, e, s⟩ := h
  exact ⟨b, e, k.sq s⟩
/-- a list of such pairs -/
def LsP (K : PySem.W.Frag) (H : Hp) (R : List Pr) (a : Addr) : Prop := ∃ vs, H a = some (.lst vs) ∧ F2 (PrV K H) R vs
theorem LsP.same {K : PySem.W.Frag} {H H' : Hp} (s : Same H H') {R : List Pr} {a : Addr} (h : LsP K H R a) : LsP K H' R a := by
  obtain ⟨vs, e, f⟩ := h
  exact ⟨vs, s _ _ e, f.mono (PrV.mono (TK.same s))⟩
section
variable {K : PySem.W.Frag} {σ : L2.St} {H : Hp} {Q : VK}
abbrev tPr (x : Str) (n : Int) : TE := tTup (tCons (tC (.str x)) (tCons (tC (.int n)) tNil))
theorem lit_pr (K : PySem.W.Frag) {x : Str} {n : Nat} (h : ∀ v G, Same H G → PrV K G (x, n) v → Q v G) : tPr x (n : Int) σ H Q :=
  ⟨(by show 2 ≤ sizeLine; decide), fun p np => h _ _ (same_new (fun b o e => e) np _) ⟨p, rfl, .inl (.inl upd_same)⟩⟩
theorem lit_ls1 (K : PySem.W.Frag) {x : Str} {n : Nat} (h : ∀ a G, Same H G → H a = none → LsP K G [(x, n)] a → Q (.ref a) G) : tLst (tCons (tPr x (n : Int)) tNil) σ H Q := by
  show tPr x (n : Int) σ H (fun v G => [v].length ≤ sizeLine ∧ ∀ p, G p = none → Q (.ref p) (upd G p (.lst [v])))
  refine lit_pr K fun v G s pv => ⟨(by show 1 ≤ sizeLine; decide), fun p np => h p _ (same_new s np _) ?_ ⟨_, upd_same, F2.one (PrV.mono (TK.new np _) _ _ pv)⟩⟩
  cases z : H p with
  | none => rfl
  | some o =>
    rw [s _ _ z] at np
    cases np
theorem lit_ls2 (K : PySem.W.Frag) {x y : Str} {n m : Nat} (h : ∀ a G, Same H G → H a = none → LsP K G [(x, n), (y, m)] a → Q (.ref a) G) : tLst (tCons (tPr x (n : Int)) (tCons (tPr y (m : Int)) tNil)) σ H Q := by
  show tPr x (n : Int) σ H (fun v G => tPr y (m : Int) σ G (fun v2 G2 => [v, v2].length ≤ sizeLine ∧ ∀ p, G2 p = none → Q (.ref p) (upd G2 p (.lst [v, v2]))))
  refine lit_pr K fun v G s pv => lit_pr K fun v2 G2 s2 pv2 => ⟨(by show 2 ≤ sizeLine; decide), fun p np => h p _ (same_new (show Same H G2 from fun b o e => s2 b o (s b o e)) np _) ?_ ⟨_, upd_same, ⟨_, _, rfl, PrV.mono ((TK.same s2).trans (TK.new np _)) _ _ pv, F2.one (PrV.mono (TK.new np _) _ _ pv2)⟩⟩⟩
  cases z : H p with
  | none => rfl
  | some o =>
    rw [s2 _ _ (s _ _ z)] at np
    cases np
theorem lit_ls0 (K : PySem.W.Frag) (h : ∀ a G, Same H G → H a = none → LsP K G [] a → Q (.ref a) G) : tLst tNil σ H Q :=
  ⟨Nat.zero_le _, fun p np => h p _ (same_new (fun b o e => e) np _) np ⟨_, upd_same, rfl⟩⟩
theorem cat_prs {R S : List Pr} {a b : Addr} (ha : LsP K H R a) (hb : LsP K H S b) (few : R.length + S.length ≤ 1000) (h : ∀ c G, Same H G → H c = none → LsP K G (R ++ S) c → Q (.ref c) G) : rCat (.ref a) (.ref b) H Q := by
  obtain ⟨xs, e1, f1⟩ := ha
  obtain ⟨ys, e2, f2⟩ := hb
  have l1 := f1.len
  have l2 := f2.len
  refine ⟨a, b, xs, ys, rfl, rfl, e1, e2, by rw [sizeLine_eq]; omega, fun p np => h p _ (same_new (fun b o e => e) np _) np ⟨_, upd_same, ?_⟩⟩
  exact (f1.app f2).mono (PrV.mono (TK.new np _))
end
section
variable {K : PySem.W.Frag} {σ : L2.St} {H : Hp}
theorem lit_truths (K : PySem.W.Frag) {Q : List V → Hp → Prop} (h : ∀ a G xs, Same H G → H a = none → G a = some (.lst xs) → xs.length = 3 → (∀ v ∈ xs, ∃ b S, v = .ref b ∧ H b = none ∧ LsP K G S b ∧ S ∈ [[(("q" : Str), 0)], [("r", 2)], [("q", 0), ("r", 2)]]) → Q [.ref a] G) :
    tCons (tLst (tCons (tLst (tCons (tPr "q" 0) tNil)) (tCons (tLst (tCons (tPr "r" 2) tNil)) (tCons (tLst (tCons (tPr "q" 0) (tCons (tPr "r" 2) tNil))) tNil)))) tNil σ H Q := by
  dsimp only [tCons]
  show tLst (tCons (tPr "q" ((0 : Nat) : Int)) tNil) σ H (fun v1 G1 => tLst (tCons (tPr "r" ((2 : Nat) : Int)) tNil) σ G1 (fun v2 G2 => tLst (tCons (tPr "q" ((0 : Nat) : Int)) (tCons (tPr "r" ((2 : Nat) : Int)) tNil)) σ G2 (fun v3 G3 => [v1, v2, v3].length ≤ sizeLine ∧ ∀ p, G3 p = none → Q [.ref p] (upd G3 p (.lst [v1, v2, v3])))))
  refine lit_ls1 K fun a1 G1 s1 n1 L1 => lit_ls1 K fun a2 G2 s2 n2 L2 => lit_ls2 K fun a3 G3 s3 n3 L3 => ⟨(by show 3 ≤ sizeLine; decide), fun p np => ?_⟩
  have sm : Same H G3 := fun b o e => s3 b o (s2 b o (s1 b o e))
  have back : ∀ {q : Addr} {G : Hp}, Same H G → G q = none → H q = none := fun {q G} s n => by
    cases z : H q with
    | none => rfl
    | some o =>
      rw [s _ _ z] at n
      cases n
  have s4 : Same G3 (upd G3 p (.lst [.ref a1, .ref a2, .ref a3])) := same_new (fun b o e => e) np _
  refine h p _ _ (fun b o e => s4 b o (sm b o e)) (back sm np) upd_same rfl ?_
  intro v hv
  rcases List.mem_cons.mp hv with e | hv
  · exact ⟨a1, _, e, n1, ((L1.same s2).same s3).same s4, by simp⟩
  · rcases List.mem_cons.mp hv with e | hv
    · exact ⟨a2, _, e, back s1 n2, (L2.same s3).same s4, by simp⟩
    · exact ⟨a3, _, List.mem_singleton.mp hv, back (show Same H G2 from fun b o e => s2 b o (s1 b o e)) n3, L3.same s4, by simp⟩
end
/-! ### frames of a pen -/
theorem but_on {p d : Addr} {H G : Hp} (b : Pn.But p H G) (n : H d = none) (o : HO) : Pn.But p H (upd G d o) := fun q u nq e => by
  rw [upd_ne (fun z => by rw [z, n] at e; cases e)]
  exact b _ _ nq e
theorem pen_on {H G : Hp} {p l d : Addr} {ns : List Int} {c0 c : Nat} (P0 : Pn.Pen H p l ns c0) (n : H d = none) (P : Pn.Pen G p l ns c) (o : HO) : Pn.Pen (upd G d o) p l ns c := by
  obtain ⟨⟨a0, d0, f0, e0, _⟩, h0⟩ := P0
  obtain ⟨⟨a, d1, f, e, r⟩, h⟩ := P
  have n1 : p ≠ d := fun z => by rw [z, n] at e0; cases e0
  have n2 : l ≠ d := fun z => by rw [z, n] at h0; cases h0
  exact ⟨⟨a, d1, f, by rw [upd_ne n1]; exact e, r⟩, by rw [upd_ne n2]; exact h⟩
theorem fresh_back {H G : Hp} {p l q : Addr} {ns : List Int} {c : Nat} (b : Pn.But p H G) (P : Pn.Pen G p l ns c) (n : G q = none) : H q = none := by
  cases z : H q with
  | none => rfl
  | some o =>
    by_cases e : q = p
    · obtain ⟨⟨_, _, _, e0, _⟩, _⟩ := P
      rw [e, e0] at n
      cases n
    · rw [b _ _ e z] at n
      cases n
theorem pen_kept {H : Hp} {p l d : Addr} {ns : List Int} {c : Nat} (P : Pn.Pen H p l ns c) (n : H d = none) : d ≠ p := fun z => by
  obtain ⟨⟨_, _, _, e0, _⟩, _⟩ := P
  rw [z, e0] at n
  cases n
theorem LsP.but {K : PySem.W.Frag} {H H' : Hp} {p l : Addr} {ns : List Int} {c : Nat} (P : Pn.Pen H p l ns c) (b : Pn.But p H H') {R : List Pr} {a : Addr} (na : a ≠ p) (h : LsP K H R a) : LsP K H' R a := by
  obtain ⟨vs, e, f⟩ := h
  exact ⟨vs, b _ _ na e, f.mono (PrV.mono (pen_tk P b))⟩
/-! ### the order -/
def thingsB : List (List Pr) := [[("a", 0), ("b", 0), ("c", 0), ("f", 1), ("g", 2)], [("a", 0), ("b", 0), ("f", 1), ("g", 2)], [("a", 0), ("b", 0), ("c", 0), ("f", 1)], [("a", 0), ("b", 0), ("f", 1)]]
def truthsB : List (List Pr) := [[("p", 1), ("q", 0)], [("p", 1), ("r", 2)], [("p", 1), ("q", 0), ("r", 2)]]
/-- the same names in some order, with weights of one and two -/
structure Mixed (B : List Pr) (R : List Row) : Prop where
  perm : (R.map fun r => (r.1, r.2.1)).Perm B
  weights : ∀ r ∈ R, r.2.2 = 1 ∨ r.2.2 = 2
def KdV (K : PySem.W.Frag) (H : Hp) (B : List Pr) (v : V) : Prop := ∃ b R vs, v = .ref b ∧ Mixed B R ∧ SqT K H b vs ∧ F2 (RowV K H) R vs
theorem KdV.mono {K : PySem.W.Frag} {H H' : Hp} (k : TK H H') (B : List Pr) (v : V) (h : KdV K H B v) : KdV K H' B v := by
  obtain ⟨b, R, vs, e, m, s, f⟩ := h
  exact ⟨b, R, vs, e, m, k.sq s, f.mono (RowV.mono k)⟩
def OrdAt (K : PySem.W.Frag) (H : Hp) (a : Addr) (R S : List Row) : Prop := ∃ b1 b2 vs1 vs2, SqT K H a [.ref b1, .ref b2] ∧ SqT K H b1 vs1 ∧ SqT K H b2 vs2 ∧ F2 (RowV K H) R vs1 ∧ F2 (RowV K H) S vs2
theorem OrdAt.rows {K : PySem.W.Frag} {H : Hp} {a : Addr} {R S : List Row} (h : OrdAt K H a R S) : RowsAt K H a R := by
  obtain ⟨b1, b2, vs1, vs2, h0, h1, h2, f1, f2⟩ := h
  exact ⟨b1, _, vs1, h0, h1, f1⟩
theorem OrdAt.mono {K : PySem.W.Frag} {H H' : Hp} (k : TK H H') {a : Addr} {R S : List Row} (h : OrdAt K H a R S) : OrdAt K H' a R S := by
  obtain ⟨b1, b2, vs1, vs2, h0, h1, h2, f1, f2⟩ := h
  exact ⟨b1, b2, vs1, vs2, k.sq h0, k.sq h1, k.sq h2, f1.mono (RowV.mono k), f2.mono (RowV.mono k)⟩
theorem mixed_ok {B : List Pr} {R : List Row} (hB : B ∈ thingsB) (m : Mixed B R) : ROk R := by
  have h : (thingsB.all fun B => B.all (fun r => nameOk r.1 && decide (r.2 ≤ 3)) && B.contains ("a", 0) && decide (B.length ≤ 5)) = true := by decide +kernel
  have h1 := List.all_eq_true.mp h B hB
  rw [Bool.and_eq_true, Bool.and_eq_true] at h1
  obtain ⟨⟨h2, h3⟩, h4⟩ := h1
  refine ⟨fun r hr => ?_, ?_, ?_⟩
  · have z : (r.1, r.2.1) ∈ B := m.perm.mem_iff.mp (List.mem_map.mpr ⟨r, hr, rfl⟩)
    have z2 := List.all_eq_true.mp h2 _ z
    rw [Bool.and_eq_true] at z2
    exact ⟨z2.1, of_decide_eq_true z2.2⟩
  · have z : (("a", 0) : Pr) ∈ B := List.contains_iff_mem.mp h3
    obtain ⟨r, hr, e⟩ := List.mem_map.mp (m.perm.mem_iff.mpr z)
    obtain ⟨j, hj⟩ := List.mem_iff_getElem?.mp hr
    exact ⟨j, r, hj, (Prod.mk.inj e).2⟩
  · have e := m.perm.length_eq
    rw [List.length_map] at e
    have := of_decide_eq_true h4
    omega
theorem F2.erase {α β : Type} {R : α → β → Prop} : ∀ {xs : List α} {ys : List β} (k : Nat), F2 R xs ys → F2 R (xs.eraseIdx k) (ys.eraseIdx k)
  | [], ys, k, h => by
    cases (show ys = [] from h)
    exact rfl
  | x :: xs, ys, 0, h => by
    obtain ⟨y, zs, rfl, h1, h2⟩ := h
    exact h2
  | x :: xs, ys, k + 1, h => by
    obtain ⟨y, zs, rfl, h1, h2⟩ := h
    exact ⟨y, _, rfl, h1, F2.erase k h2⟩
theorem erase_perm {α : Type} : ∀ {xs : List α} {k : Nat} {x : α}, xs[k]? = some x → xs.Perm (x :: xs.eraseIdx k)
  | [], k, x, h => by cases h
  | y :: ys, 0, x, h => by
    cases h
    exact List.Perm.refl _
  | y :: ys, k + 1, x, h => ((erase_perm (xs := ys) (k := k) h).cons y).trans (List.Perm.swap x y _)
theorem sx_nat {j n : Nat} (h : j < n) : seqIndex? (j : Int) n = some j := by
  unfold seqIndex?
  have h1 : ¬ ((j : Int) < 0) := by omega
  have h2 : (decide (0 ≤ (j : Int)) && decide ((j : Int) < (n : Int))) = true := by
    rw [decide_eq_true (by omega), decide_eq_true (by omega)]
    rfl
  simp only [if_neg h1, h2, if_true, Int.toNat_natCast]
/-- what stays but for a pen and two lists -/
def Bt (p u v : Addr) (G G' : Hp) : Prop := ∀ b o, b ≠ p → b ≠ u → b ≠ v → G b = some o → G' b = some o
theorem Bt.refl {p u v : Addr} (G : Hp) : Bt p u v G G := fun _ _ _ _ _ e => e
theorem Bt.but {p u v : Addr} {G G1 G2 : Hp} (a : Bt p u v G G1) (b : Pn.But p G1 G2) : Bt p u v G G2 := fun c o n1 n2 n3 e => b _ _ n1 (a _ _ n1 n2 n3 e)
theorem Bt.u {p u v : Addr} {G G1 : Hp} (a : Bt p u v G G1) (o : HO) : Bt p u v G (upd G1 u o) := fun c o n1 n2 n3 e => by
  rw [upd_ne n2]
  exact a _ _ n1 n2 n3 e
theorem Bt.v {p u v : Addr} {G G1 : Hp} (a : Bt p u v G G1) (o : HO) : Bt p u v G (upd G1 v o) := fun c o n1 n2 n3 e => by
  rw [upd_ne n3]
  exact a _ _ n1 n2 n3 e
theorem Bt.tk {p u v l : Addr} {ns : List Int} {c : Nat} {G G1 : Hp} {us vs : List V} (a : Bt p u v G G1) (P : Pn.Pen G p l ns c) (hu : G u = some (.lst us)) (hv : G v = some (.lst vs)) : TK G G1 := by
  obtain ⟨⟨_, _, _, e0, _⟩, _⟩ := P
  have n : ∀ b o, (∀ kvs, o ≠ HO.dK kvs) → (∀ xs, o ≠ HO.lst xs) → G b = some o → b ≠ p ∧ b ≠ u ∧ b ≠ v := fun b o h1 h2 e => by
    refine ⟨fun z => ?_, fun z => ?_, fun z => ?_⟩
    · rw [z, e0] at e
      cases e
      exact h1 _ rfl
    · rw [z, hu] at e
      cases e
      exact h2 _ rfl
    · rw [z, hv] at e
      cases e
      exact h2 _ rfl
  intro b xs
  refine ⟨fun e => ?_, fun o e => ?_⟩
  · obtain ⟨n1, n2, n3⟩ := n b _ (by intro _ z; cases z) (by intro _ z; cases z) e
    exact a _ _ n1 n2 n3 e
  · obtain ⟨n1, n2, n3⟩ := n b _ (by intro _ z; cases z) (by intro _ z; cases z) e
    exact a _ _ n1 n2 n3 e
def spOrder (K : PySem.W.Frag) : Sp := fun vs H Q _ => ∃ (p l : Addr) (ns : List Int) (c : Nat), vs = [.ref p] ∧ Pn.Pen H p l ns c ∧ ns.length ≤ 1000 ∧ c ≤ 900000000 ∧
  ∀ a R S B C H' c', OrdAt K H' a R S → B ∈ thingsB → C ∈ truthsB → Mixed B R → Mixed C S → c' ≤ c + 40 → Pn.Pen H' p l ns c' → Pn.But p H H' → Q (.ref a) H'
end Ad

/-! enumerate(t) of a tuple; walks over a list or a tuple. -/
namespace Et
open PySem PySem.Spec PySem.Calls PyProof.Rows L2 RZ
theorem draws {prog : Program} {w : World} {A : Around} (hh : A.handled = none) (it l : Addr) (hl : l ≠ it) (items : Array Value) :
    Draws prog w A it [it, l] items.size (fun i v => items[i]? = some v) (fun i h => h.IsTupleIter it l i ∧ h.IsTuple l items) where
  live := fun _ _ ⟨⟨o, ho, _⟩, _⟩ => ⟨o, ho⟩
  frame := fun _ _ _ ⟨st, tp⟩ hk => ⟨st.at fun o e => hk it (by simp) o e, by
    obtain ⟨o, e, r⟩ := tp
    exact ⟨o, hk l (by simp) o e, r⟩⟩
  item := fun i s Q E hi ⟨st, tp⟩ hQ => by
    refine nextOf_tuple_item st tp (x := items[i]) (by simp [hi]) fun h' hit' hs' => ?_
    refine hQ _ h' s.toks (by simp [hi]) ⟨hit', ?_⟩ hs'
    obtain ⟨o, e, r⟩ := tp
    exact ⟨o, hs'.extBut _ _ hl e, r⟩
  done := fun s Q E ⟨st, tp⟩ hE => nextOf_tuple_end hh st tp (by simp) hE
theorem meets_newT (l : Addr) (items : Array Value) :
    Meets (Builtin.«enumerate.__new__» ⟨[.type "enumerate", .ref l], []⟩) (fun _ R s => s.heap.IsTuple l items ∧
      R (.ok (.ret (.ref (s.heap.push { cls := .type "tuple_iterator", data := .fields #[.ref l, .int 0 0] }).objs.size)))
        { s with heap := (s.heap.push { cls := .type "tuple_iterator", data := .fields #[.ref l, .int 0 0] }).push { cls := .type "enumerate", data := .fields #[.none, .bool false, .ref s.heap.objs.size, rawInt 0, .none, .none] } }) :=
  .of_wp fun prog w A R s h => by
    obtain ⟨hp, g, d, tk, os⟩ := s; obtain ⟨hL, h⟩ := h
    have hsub := sub_enumerate
    have hL : Heap.IsTuple (Shared.heap ⟨hp, g, d, tk, os⟩) l items := hL
    wp_walk
    refine wpAny_stack_any fun st => wpAny_pure ?_
    split
    · rename_i c _ _ _ _ _
      cases (c == Value.type "enumerate")
      · wp_walk using wpAny_pyIter_tuple hL
        exact ⟨_, rfl, h⟩
      · wp_walk using wpAny_pyIter_tuple hL
        exact ⟨_, rfl, h⟩
    · wp_walk using wpAny_pyIter_tuple hL
      exact ⟨_, rfl, h⟩
section
variable {prog : Program} {w : World} {A : Around} {E : Value → Shared → Prop} {s : Shared}
theorem call_enumT {l : Addr} {items : Array Value} {Q : Value → Shared → Prop} (hL : s.heap.IsTuple l items)
    (h : ∀ h', IsEnum h' (s.heap.objs.size + 1) s.heap.objs.size 0 .none → h'.IsTupleIter s.heap.objs.size l 0 → h'.objs.size = s.heap.objs.size + 2 →
      (∀ b o, s.heap.get? b = some o → h'.get? b = some o) → Q (.ref (s.heap.objs.size + 1)) { s with heap := h' }) :
    wpAny (model prog w) A (call (.type "enumerate") [.ref l]) Q E s := by
  refine callType_new F.called_enumerate (by decide) (F.typeCall_enumerate_1 _) (F.newCall_enumerate_1 _) (fun obj => F.args_object_init_2 obj _) F.entry_enumerate_new
    (meets_newT l items) ⟨hL, ?_⟩
  have hz : (s.heap.push { cls := .type "tuple_iterator", data := .fields #[.ref l, .int 0 0] }).objs.size = s.heap.objs.size + 1 := Heap.size_push ..
  show _ ∧ _
  rw [hz]
  have he : IsEnum ((s.heap.push { cls := .type "tuple_iterator", data := .fields #[.ref l, .int 0 0] }).push
      { cls := .type "enumerate", data := .fields #[.none, .bool false, .ref s.heap.objs.size, rawInt 0, .none, .none] }) (s.heap.objs.size + 1) s.heap.objs.size 0 .none := by
    have := Heap.get?_push_size (s.heap.push { cls := .type "tuple_iterator", data := .fields #[.ref l, .int 0 0] })
      (o := { cls := .type "enumerate", data := .fields #[.none, .bool false, .ref s.heap.objs.size, rawInt 0, .none, .none] }) rfl
    rw [hz] at this; exact this
  refine ⟨⟨_, he, rfl⟩, h _ he ⟨_, Heap.get?_push_of_some _ (Heap.get?_push_size _ rfl), rfl, rfl⟩ (by rw [Heap.size_push, hz]) fun b o x => Heap.get?_push_of_some _ (Heap.get?_push_of_some _ x)⟩
end
/-- the tuple at a, each item in a new pair -/
def IteT (K : PySem.W.Frag) (a : Addr) : It :=
  ⟨fun i H => ∃ (xs : List V) (x : V), SqT K H a xs ∧ xs[i]? = some x, fun i H v H' => ∃ T x, v = .ref T ∧ H T = none ∧ H' = upd H T (.tup [.int (i : Nat), x]) ∧ ∀ xs, SqT K H a xs → xs[i]? = some x, fun i H => ∃ xs : List V, SqT K H a xs ∧ xs.length ≤ i⟩
theorem turn_enumT {P : Program} {w : World} {K : PySem.W.Frag} {elts : List Expr} {kk : Nat} {tpos : Pos} (a e it : Addr) :
    Turn P w K (.Tuple elts kk tpos) (IteT K a) [e, it] e (fun i h => (∃ old, IsEnum h e it ((i : Nat) : Int) old) ∧ h.IsTupleIter it a i ∧ e ≠ it ∧ a ≠ e ∧ a ≠ it) where
  mem := by simp
  obj := fun i h st b hb => by
    obtain ⟨⟨old, he⟩, ⟨o, ho, hc, hd⟩, _⟩ := st
    have e' : b = e ∨ b = it := by simpa using hb
    rcases e' with z | z
    · rw [z]; exact ⟨_, he, fun v q => nomatch q⟩
    · rw [z]; exact ⟨o, ho, fun v q => by rw [hd] at q; cases q⟩
  keep := fun i h h' st k => let ⟨⟨old, he⟩, hi, hne, r⟩ := st; ⟨⟨old, k e (by simp) _ he⟩, hi.at fun o q => k it (by simp) o q, hne, r⟩
  item := by
    intro X hP hw hK hc i pins s σ H E I hf st hg
    subst hP hw hK
    obtain ⟨⟨old, he⟩, hit, hne, ae, ai⟩ := st
    obtain ⟨xs, x, hq, hx⟩ := hg
    obtain ⟨its, rv, p, hz⟩ := I.tuple hq
    obtain ⟨u, hu, ru⟩ := rv.get hx
    have hel : e < s.heap.objs.size := Heap.lt_size he
    have hil : it < s.heap.objs.size := by obtain ⟨_, q, _⟩ := hit; exact Heap.lt_size q
    have lt : i < its.toArray.size := by
      have := (List.getElem?_eq_some_iff.mp hu).1
      simpa using this
    refine wpAny_pyNext_enum_itemD (draws (A := X.A.in1) (show X.A.in1.handled = none from I.ok.hd hc) it a ai its.toArray) he ⟨hit, p⟩ lt hne (by simp [hne, Ne.symm ae]) fun u' h' tk hu' ho hst' hT hsz hk => ?_
    have eu : u' = u := by
      have z : its[i]? = some u' := by simpa using hu'
      rw [hu] at z
      exact (Option.some.inj z).symm
    subst eu
    refine ⟨_, rfl, wpAny_letOwnedTupleGo_enum (s := { s with heap := h', toks := tk + 1 }) ho fun h'' he' sb => ?_⟩
    have hT2 : h''.get? s.heap.objs.size = some { cls := .type "tuple", data := .seq #[.int i tk, u'] } := (sb.2 _ (Nat.ne_of_gt hel)).trans hT
    have new : ObjOk X.prog X.w (upd H s.heap.objs.size (.tup [.int (i : Nat), x])) h'' s.heap.objs.size (.tup [.int (i : Nat), x]) :=
      ⟨by show 2 ≤ sizeLine; decide, [.int i tk, u'], .cons ⟨_, rfl⟩ (.cons ru .nil), ⟨_, hT2, rfl, _, rfl⟩⟩
    have I1 : Inv X pins σ (upd H s.heap.objs.size (.tup [.int (i : Nat), x])) { s with heap := h'', toks := tk + 1 } :=
      I.turnedNew (ch := [e, it]) (fun b ob hb q => (sb.2 b (fun z => hb (by simp [z]))).trans (hk b ob (fun z => hb (by simp [z])) (fun z => hb (by simp [z])) q)) hf (Nat.le_refl _) new
    refine ⟨.ref s.heap.objs.size, _, I1, rfl, ⟨_, x, rfl, I.hok.fresh (Nat.le_refl _), rfl, fun ys hy => by rw [I.tuple_inj hy hq]; exact hx⟩, ⟨⟨u', ?_⟩, hst'.1.at fun o q => (sb.2 it (Ne.symm hne)).trans q, hne, ae, ai⟩, fun b hb => ?_⟩
    · have e1 : ((i + 1 : Nat) : Int) = (i : Int) + 1 := by omega
      rw [e1]; exact he'
    · have hb' : b < s.heap.objs.size := by
        have e' : b = e ∨ b = it := by simpa using hb
        rcases e' with z | z
        · rw [z]; exact hel
        · rw [z]; exact hil
      rw [upd_ne (Nat.ne_of_lt hb')]
      exact (hf b hb).1
  done := by
    intro X hP hw hK hc i pins s σ H E I hf st hg
    subst hP hw hK
    obtain ⟨⟨old, he⟩, hit, hne, ae, ai⟩ := st
    obtain ⟨xs, hq, hx⟩ := hg
    obtain ⟨its, rv, p, hz⟩ := I.tuple hq
    obtain ⟨f0, f1, f2, f3, f4, f5⟩ := hf it (by simp)
    have hl := rv.length
    have key : ∀ (Q : Option Value → Shared → Prop), (∀ h', Heap.ExtBut it s.heap h' → Q none { s with heap := h' }) → wpAny (model X.prog X.w) X.A (pyNext (.ref e)) Q E s := by
      intro Q hQ
      have hT : s.TypeIs (.ref e) "enumerate" := ⟨_, he, rfl⟩
      unfold pyNext
      refine wpAny_bind (wpAny_attempt (wpAny_callSpecial?_slot (name := Str.ofString "__next__") hT F.slot_enumerate_next
        (wpAny_call_entry F.slot_enumerate_next hT F.entry_enumerate_next ?_ (F.args_enumerate_next_1 _))))
      show wpAny _ _ (field (.ref e) 2 >>= _) _ _ _
      refine wpAny_bind (wpAny_field he rfl (x := .ref it) rfl ?_)
      refine wpAny_bind (nextOf_tuple_end (show X.A.in1.handled = none from I.ok.hd hc) hit p (by simp; omega) fun h' x he' hx' => ?_)
      obtain ⟨o, ho, hcx⟩ := hx'
      refine wpAny_bind (wpAny_isInstance (T := "StopIteration") (b := true) ⟨o, ho, hcx⟩ isSubtype_stop ?_)
      exact wpAny_pure (hQ _ he')
    exact key _ fun h' eb => ⟨rfl, I.turned (t' := s.toks) (fun b o hb q => eb b o hb q) f0 f1 f3 f4 f5⟩
  self := fun A i s Q E st h => let ⟨⟨_, he⟩, _⟩ := st; wpAny_pyIter_enum he h
def iEnumT (K : PySem.W.Frag) (ta : TA) : TI := fun σ H R => ta σ H fun vs H1 => ∃ a xs, vs = [.ref a] ∧ SqT K H1 a xs ∧ R (IteT K a) H1
theorem pi_enumT {X : Cx} {e : Expr} {ta : TA} {p pos tpos : Pos} {elts : List Expr} {kk : Nat} (hg : Gl X "enumerate") (hm : X.mg "enumerate" = none) (ha : PA X [e] ta) (hs : starEach [e] X.env = [(false, eval e X.env)] := by rfl) :
    PI X (.Tuple elts kk tpos) (.Call (.Name "enumerate" p) [e] [] pos) (iEnumT X.K ta) := by
  refine ⟨fun pins s σ H R I h => ?_⟩
  refine Call_ (ld_blt I hg hm boot_enumerate (PyProof.Rows.callWith_type1 (thn (ha.run pos pins s σ H _ I h) fun us s1 ⟨vs, H1, I1, r1, q1⟩ => ?_) hs rfl))
  obtain ⟨a, xs, ex, hq, q⟩ := q1
  subst ex
  cases r1 with
  | cons r rr =>
    cases rr
    cases r
    obtain ⟨its, rv, p', hz⟩ := I1.tuple hq
    have la : a < s1.heap.objs.size := p'.lt
    refine call_enumT p' fun h' he hit hsz hk => wpAny_pyIter_enum he ?_
    have I2 : Inv X pins σ H1 { s1 with heap := h' } := I1.kept (t' := s1.toks) hk
    refine ⟨s1.heap.objs.size + 1, [s1.heap.objs.size + 1, s1.heap.objs.size], _, _, H1, rfl, I2, turn_enumT a (s1.heap.objs.size + 1) s1.heap.objs.size, ⟨⟨.none, he⟩, hit, Nat.succ_ne_self _, Nat.ne_of_lt (Nat.lt_succ_of_lt la), Nat.ne_of_lt la⟩, fun b hb => ?_, q⟩
    have e' : b = s1.heap.objs.size + 1 ∨ b = s1.heap.objs.size := by simpa using hb
    have hle : s1.heap.objs.size ≤ b := by
      rcases e' with z | z
      · rw [z]; exact Nat.le_add_right _ _
      · rw [z]; exact Nat.le_refl _
    exact I1.fpOk hle (I1.hok.fresh hle)
/-! ### a list or a tuple -/
def iAny (K : PySem.W.Frag) (tl : TE) : TI := fun σ H R => tl σ H fun x H1 => ∃ a, x = .ref a ∧ ((∃ xs, SqL K H1 a xs ∧ R (Itl K a) H1) ∨ ∃ xs, SqT K H1 a xs ∧ R (Itt K a) H1)
theorem pi_any {X : Cx} {tg l : Expr} {tl : TE} (hl : PE X l tl) : PI X tg l (iAny X.K tl) := by
  refine ⟨fun pins s σ H R I h => ?_⟩
  refine thn (hl.run pins s σ H _ I h) fun v s1 ⟨x, H1, I1, r1, q1⟩ => ?_
  obtain ⟨a, e, q1⟩ := q1
  subst e
  cases r1
  rcases q1 with ⟨xs, hq, q⟩ | ⟨xs, hq, q⟩
  · obtain ⟨its, rv, p, hz⟩ := I1.list hq
    refine wpAny_pyIter_list p.isList ?_
    refine ⟨s1.heap.objs.size, [s1.heap.objs.size], _, _, H1, rfl, I1.kept (t' := s1.toks) fun b o e => Heap.get?_push_of_some _ e, turn_list a _, ⟨_, Heap.get?_push_size _ rfl, rfl, rfl⟩, fun b hb => ?_, q⟩
    have e : b = s1.heap.objs.size := by simpa using hb
    subst e
    exact I1.fpOk (Nat.le_refl _) (I1.hok.fresh (Nat.le_refl _))
  · obtain ⟨its, rv, p, hz⟩ := I1.tuple hq
    refine wpAny_pyIter_tuple (show s1.heap.IsTuple a its.toArray from p) ?_
    refine ⟨s1.heap.objs.size, [s1.heap.objs.size], _, _, H1, rfl, I1.kept (t' := s1.toks) fun b o e => Heap.get?_push_of_some _ e, turn_tuple a _, ⟨_, Heap.get?_push_size _ rfl, rfl, rfl⟩, fun b hb => ?_, q⟩
    have e : b = s1.heap.objs.size := by simpa using hb
    subst e
    exact I1.fpOk (Nat.le_refl _) (I1.hok.fresh (Nat.le_refl _))
end Et

/-! Orders: rows handed in, the object, its dicts. -/
namespace Ad
open PySem PySem.Spec PySem.Calls PyProof.Rows L2
theorem lsq_ty {K : PySem.W.Frag} {H : Hp} {a : Addr} {xs : List V} (h : SqL K H a xs) : TyX K H (.ref a) (.type "list") := by
  rcases h with (h | ⟨o, h⟩) | h
  · exact .base (.lst h)
  · exact .base (.frz h)
  · obtain ⟨o, _, _, e, c, _⟩ := h
    exact .kList e c
theorem kitSS' {K : PySem.W.Frag} : PySem.W.kitOne K (.type "str") (.type "str") = some true := kit_ty (by decide +kernel)
theorem kitIB {K : PySem.W.Frag} : PySem.W.kitOne K (.type "int") (.type "bool") = some false := kit_ty (by decide +kernel)
theorem kitLL {K : PySem.W.Frag} : PySem.W.kitAny K (.type "list") [.type "list", .type "tuple"] = some true := kitAny_cons (b := true) (kit_ty (by decide +kernel)) (fun z => nomatch z) fun _ => rfl
theorem kitTL {K : PySem.W.Frag} : PySem.W.kitAny K (.type "tuple") [.type "list", .type "tuple"] = some true :=
  kitAny_cons (b := false) (kit_ty (by decide +kernel)) (fun _ => kitAny_cons (b := true) (kit_ty (by decide +kernel)) (fun z => nomatch z) fun _ => rfl) (fun z => nomatch z)
/-- a list or a tuple -/
def SqX (K : PySem.W.Frag) (H : Hp) (a : Addr) (xs : List V) : Prop := SqL K H a xs ∨ SqT K H a xs
theorem SqX.same {K : PySem.W.Frag} {H H' : Hp} (s : Same H H') {a : Addr} {xs : List V} (h : SqX K H a xs) : SqX K H' a xs := h.elim (fun q => .inl (s.seq q)) fun q => .inr ((TK.same s).sq q)
theorem sqx_ty {K : PySem.W.Frag} {H : Hp} {a : Addr} {xs : List V} (h : SqX K H a xs) : ∃ t, TyX K H (.ref a) t ∧ PySem.W.kitAny K t [.type "list", .type "tuple"] = some true := by
  rcases h with h | h
  · exact ⟨_, lsq_ty h, kitLL⟩
  · exact ⟨_, sq_ty h, kitTL⟩
/-- a triple, as a list or a tuple -/
def RowX (K : PySem.W.Frag) (H : Hp) (r : Row) (v : V) : Prop := ∃ b, v = .ref b ∧ SqX K H b [.str r.1, .int (r.2.1 : Int), .int r.2.2]
theorem RowX.same {K : PySem.W.Frag} {H H' : Hp} (s : Same H H') (r : Row) (v : V) (h : RowX K H r v) : RowX K H' r v := by
  obtain ⟨b, e, q⟩ := h
  exact ⟨b, e, q.same s⟩
theorem RowV.x {K : PySem.W.Frag} {H : Hp} (r : Row) (v : V) (h : RowV K H r v) : RowX K H r v := by
  obtain ⟨b, e, q⟩ := h
  exact ⟨b, e, .inr q⟩
/-- names in their places -/
def ranked (R S : List Row) : List Row := ("yes", 0, 1) :: (R ++ S)
def wK (rs : List Row) : List (L2.Key × V) := rs.map fun r => (.inr r.1, .int r.2.2)
def pK : Nat → List Row → List (L2.Key × V)
  | _, [] => []
  | n, r :: rs => (.inr r.1, .int (n : Int)) :: pK (n + 1) rs
theorem valV_wK {rs : List Row} (nd : (rs.map (·.1)).Nodup) {r : Row} (h : r ∈ rs) : valV (wK rs) (.inr r.1) = some (.int r.2.2) := by
  induction rs with
  | nil => cases h
  | cons q rs ih =>
    obtain ⟨n1, n2⟩ := List.nodup_cons.mp nd
    rcases List.mem_cons.mp h with e | e
    · rw [e]
      exact valV_pos rfl
    · have ne : ¬ ((.inr q.1 : L2.Key) = .inr r.1) := fun z => n1 (by show q.1 ∈ _; rw [Sum.inr.inj z]; exact List.mem_map.mpr ⟨r, e, rfl⟩)
      show valV ((.inr q.1, .int q.2.2) :: wK rs) _ = _
      rw [valV_neg ne]
      exact ih n2 e
theorem valV_pK {rs : List Row} (nd : (rs.map (·.1)).Nodup) : ∀ (n i : Nat) (r : Row), rs[i]? = some r → valV (pK n rs) (.inr r.1) = some (.int ((n + i : Nat) : Int)) := by
  induction rs with
  | nil => intro n i r h; cases h
  | cons q rs ih =>
    intro n i r h
    obtain ⟨n1, n2⟩ := List.nodup_cons.mp nd
    cases i with
    | zero =>
      cases h
      exact valV_pos rfl
    | succ i =>
      have ne : ¬ ((.inr q.1 : L2.Key) = .inr r.1) := fun z => n1 (by show q.1 ∈ _; rw [Sum.inr.inj z]; exact List.mem_map.mpr ⟨r, List.mem_of_getElem? h, rfl⟩)
      show valV ((.inr q.1, .int (n : Int)) :: pK (n + 1) rs) _ = _
      rw [valV_neg ne, ih n2 (n + 1) i r h]
      have : n + 1 + i = n + (i + 1) := by omega
      rw [this]
theorem wK_app (a b : List Row) : wK (a ++ b) = wK a ++ wK b := List.map_append
theorem pK_app : ∀ (a b : List Row) (n : Nat), pK n (a ++ b) = pK n a ++ pK (n + a.length) b
  | [], b, n => rfl
  | r :: a, b, n => by
    show _ :: pK (n + 1) (a ++ b) = _ :: (pK (n + 1) a ++ pK (n + (a.length + 1)) b)
    rw [pK_app a b (n + 1)]
    have : n + 1 + a.length = n + (a.length + 1) := by omega
    rw [this]
theorem wK_len (rs : List Row) : (wK rs).length = rs.length := List.length_map ..
theorem pK_len : ∀ (rs : List Row) (n : Nat), (pK n rs).length = rs.length
  | [], _ => rfl
  | r :: rs, n => congrArg Nat.succ (pK_len rs (n + 1))
theorem pK_keys : ∀ (rs : List Row) (n : Nat), (pK n rs).map (·.1) = rs.map fun r => Sum.inr r.1
  | [], _ => rfl
  | r :: rs, n => congrArg (Sum.inr r.1 :: ·) (pK_keys rs (n + 1))
theorem wK_put {rs : List Row} {r : Row} (h : r.1 ∉ rs.map (·.1)) : putK (wK rs) (.inr r.1) (.int r.2.2) = wK (rs ++ [r]) := by
  rw [wK_app, putK_new _ (valV_out fun z => ?_)]
  · rfl
  · unfold wK at z
    rw [List.map_map] at z
    obtain ⟨q, hq, e⟩ := List.mem_map.mp z
    exact h (List.mem_map.mpr ⟨q, hq, Sum.inr.inj e⟩)
theorem pK_put {rs : List Row} {r : Row} (h : r.1 ∉ rs.map (·.1)) : putK (pK 0 rs) (.inr r.1) (.int (rs.length : Int)) = pK 0 (rs ++ [r]) := by
  rw [pK_app, putK_new _ (valV_out fun z => ?_), Nat.zero_add]
  · rfl
  · rw [pK_keys] at z
    obtain ⟨q, hq, e⟩ := List.mem_map.mp z
    exact h (List.mem_map.mpr ⟨q, hq, Sum.inr.inj e⟩)
/-- the object's fields -/
def ordF (bt br bw bp : Addr) : List (Str × V) := putF "_places" (.ref bp) (putF "_weights" (.ref bw) (putF "truths" (.ref br) (putF "things" (.ref bt) [])))
theorem nTT : ¬ (("things" : Str) = "truths") := by decide +kernel
theorem nTW : ¬ (("things" : Str) = "_weights") := by decide +kernel
theorem nTP : ¬ (("things" : Str) = "_places") := by decide +kernel
theorem nRW : ¬ (("truths" : Str) = "_weights") := by decide +kernel
theorem nRP : ¬ (("truths" : Str) = "_places") := by decide +kernel
theorem nWP : ¬ (("_weights" : Str) = "_places") := by decide +kernel
section
variable (bt br bw bp : Addr)
theorem ordF_things : (ordF bt br bw bp).lookup ("things" : Str) = some (.ref bt) := by
  unfold ordF
  rw [lookup_putF, if_neg nTP, lookup_putF, if_neg nTW, lookup_putF, if_neg nTT, lookup_putF, if_pos rfl]
theorem ordF_truths : (ordF bt br bw bp).lookup ("truths" : Str) = some (.ref br) := by
  unfold ordF
  rw [lookup_putF, if_neg nRP, lookup_putF, if_neg nRW, lookup_putF, if_pos rfl]
theorem ordF_weights : (ordF bt br bw bp).lookup ("_weights" : Str) = some (.ref bw) := by
  unfold ordF
  rw [lookup_putF, if_neg nWP, lookup_putF, if_pos rfl]
theorem ordF_places : (ordF bt br bw bp).lookup ("_places" : Str) = some (.ref bp) := by
  unfold ordF
  rw [lookup_putF, if_pos rfl]
end
/-- an Order of these rows stands at o -/
structure OrdI (K : PySem.W.Frag) (C : Addr) (H : Hp) (o : Addr) (R S : List Row) : Prop where
  ex : ∃ dx bt br bw bp vs1 vs2, H o = some (.ins C dx (ordF bt br bw bp)) ∧ SqT K H bt vs1 ∧ F2 (RowV K H) R vs1 ∧ SqT K H br vs2 ∧ F2 (RowV K H) S vs2 ∧ H bw = some (.dK (wK (ranked R S))) ∧ H bp = some (.dK (pK 0 (ranked R S)))
theorem OrdI.same {K : PySem.W.Frag} {C : Addr} {H H' : Hp} (s : Same H H') {o : Addr} {R S : List Row} (h : OrdI K C H o R S) : OrdI K C H' o R S := by
  obtain ⟨dx, bt, br, bw, bp, vs1, vs2, e1, e2, e3, e4, e5, e6, e7⟩ := h.ex
  have k := TK.same s
  exact ⟨dx, bt, br, bw, bp, vs1, vs2, s _ _ e1, k.sq e2, e3.mono (RowV.mono k), k.sq e4, e5.mono (RowV.mono k), s _ _ e6, s _ _ e7⟩
theorem OrdI.but {K : PySem.W.Frag} {C : Addr} {H H' : Hp} {p l : Addr} {ns : List Int} {c : Nat} (P : Pn.Pen H p l ns c) (b : Pn.But p H H') {o : Addr} {R S : List Row} (h : OrdI K C H o R S) : OrdI K C H' o R S := by
  obtain ⟨dx, bt, br, bw, bp, vs1, vs2, e1, e2, e3, e4, e5, e6, e7⟩ := h.ex
  have k := pen_tk P b
  obtain ⟨⟨a, d, f, ep, _⟩, _⟩ := P
  have n : ∀ {q : Addr} {ob : HO}, H q = some ob → (∀ f, ob ≠ .dK (Pn.penK l a d (c : Int) f)) → q ≠ p := fun {q ob} e hn z => by
    rw [z, ep] at e
    exact hn f (Option.some.inj e).symm
  have wn : ∀ (kvs : List (L2.Key × V)), (∃ v r, kvs = (.inr "yes", v) :: r) → ∀ f, HO.dK kvs ≠ .dK (Pn.penK l a d (c : Int) f) := by
    rintro kvs ⟨v, r, rfl⟩ f z
    have z' := HO.dK.inj z
    unfold Pn.penK at z'
    have z2 := congrArg (fun x : List (L2.Key × V) => x.head?.map (·.1)) z'
    have z3 : (some (.inr "yes") : Option L2.Key) = some (.inr "cells") := z2
    have z4 : ("yes" : Str) = "cells" := Sum.inr.inj (Option.some.inj z3)
    exact absurd z4 (by decide +kernel)
  exact ⟨dx, bt, br, bw, bp, vs1, vs2, b _ _ (n e1 (fun f z => nomatch z)) e1, k.sq e2, e3.mono (RowV.mono k), k.sq e4, e5.mono (RowV.mono k), b _ _ (n e6 (wn _ ⟨_, _, rfl⟩)) e6, b _ _ (n e7 (wn _ ⟨_, _, rfl⟩)) e7⟩
/-- rows that make an order -/
structure OOk (R S : List Row) : Prop where
  nd : ((ranked R S).map (·.1)).Nodup
  wt : ∀ r ∈ R ++ S, 1 ≤ r.2.2
  const : ∃ r ∈ R, r.2.1 = 0
  few : R.length + S.length ≤ 100
end Ad

namespace Ad
open PySem PySem.Spec PySem.Calls PyProof.Rows L2
namespace T
mutual
/-- the paths of a term, each ahead of those within -/
def paths : T → List (List Int)
  | .v _ => [[]]
  | .f _ ts => [] :: pathsL 0 ts
def pathsL (k : Nat) : List T → List (List Int)
  | [] => []
  | t :: ts => (paths t).map ((k : Int) :: ·) ++ pathsL (k + 1) ts
end
mutual
theorem paths_len : ∀ t : T, t.paths.length = t.size
  | .v _ => rfl
  | .f x ts => by
    show (pathsL 0 ts).length + 1 = 1 + sizeL ts
    rw [pathsL_len 0 ts]
    omega
theorem pathsL_len (k : Nat) : ∀ ts : List T, (pathsL k ts).length = sizeL ts
  | [] => rfl
  | t :: ts => by
    show ((paths t).map ((k : Int) :: ·) ++ pathsL (k + 1) ts).length = size t + sizeL ts
    rw [List.length_append, List.length_map, paths_len t, pathsL_len (k + 1) ts]
end
mutual
theorem paths_dep : ∀ (t : T) (p : List Int), p ∈ t.paths → p.length ≤ t.dep
  | .v _, p, h => by
    cases List.mem_singleton.mp h
    exact Nat.le_refl _
  | .f x ts, p, h => by
    show p.length ≤ 1 + depL ts
    rcases List.mem_cons.mp h with e | e
    · rw [e]
      exact Nat.zero_le _
    · exact pathsL_dep 0 ts p e
theorem pathsL_dep (k : Nat) : ∀ (ts : List T) (p : List Int), p ∈ pathsL k ts → p.length ≤ 1 + depL ts
  | [], p, h => by cases h
  | t :: ts, p, h => by
    show p.length ≤ 1 + max (dep t) (depL ts)
    rcases List.mem_append.mp h with e | e
    · obtain ⟨q, hq, rfl⟩ := List.mem_map.mp e
      have := paths_dep t q hq
      rw [List.length_cons]
      omega
    · have := pathsL_dep (k + 1) ts p e
      omega
end
/-- the part at a path -/
def sub : List Int → T → Option T
  | [], t => some t
  | _ :: _, .v _ => none
  | k :: p, .f _ ts => if 0 ≤ k then (match ts[k.toNat]? with
      | some u => sub p u
      | none => none) else none
/-- a term with another part at a path -/
def put (new : T) : List Int → T → Option T
  | [], _ => some new
  | _ :: _, .v _ => none
  | k :: p, .f x ts => if 0 ≤ k then (match ts[k.toNat]? with
      | some u => (match put new p u with
        | some r => some (.f x (ts.set k.toNat r))
        | none => none)
      | none => none) else none
theorem sub_cons {k : Int} {p : List Int} {t u : T} (h : sub (k :: p) t = some u) : ∃ (j : Nat) (x : Str) (ts : List T) (y : T), k = (j : Int) ∧ t = .f x ts ∧ ts[j]? = some y ∧ sub p y = some u := by
  cases t with
  | v i => cases h
  | f x ts =>
    have h' : (if 0 ≤ k then (match ts[k.toNat]? with | some u => sub p u | none => none) else none) = some u := h
    by_cases k0 : 0 ≤ k
    · rw [if_pos k0] at h'
      cases e : ts[k.toNat]? with
      | none =>
        rw [e] at h'
        cases h'
      | some y =>
        rw [e] at h'
        exact ⟨k.toNat, x, ts, y, by omega, rfl, e, h'⟩
    · rw [if_neg k0] at h'
      cases h'
theorem put_cons {new : T} {k : Int} {p : List Int} {t r : T} (h : put new (k :: p) t = some r) : ∃ (j : Nat) (x : Str) (ts : List T) (y z : T), k = (j : Int) ∧ t = .f x ts ∧ ts[j]? = some y ∧ put new p y = some z ∧ r = .f x (ts.set j z) := by
  cases t with
  | v i => cases h
  | f x ts =>
    have h' : (if 0 ≤ k then (match ts[k.toNat]? with | some u => (match put new p u with | some r => some (T.f x (ts.set k.toNat r)) | none => none) | none => none) else none) = some r := h
    by_cases k0 : 0 ≤ k
    · rw [if_pos k0] at h'
      cases e : ts[k.toNat]? with
      | none =>
        rw [e] at h'
        cases h'
      | some y =>
        rw [e] at h'
        dsimp only at h'
        cases e2 : put new p y with
        | none =>
          rw [e2] at h'
          cases h'
        | some z =>
          rw [e2] at h'
          cases h'
          exact ⟨k.toNat, x, ts, y, z, by omega, rfl, e, e2, rfl⟩
    · rw [if_neg k0] at h'
      cases h'
theorem pathsL_append : ∀ (k : Nat) (as bs : List T), pathsL k (as ++ bs) = pathsL k as ++ pathsL (k + as.length) bs
  | _, [], _ => rfl
  | k, t :: ts, bs => by
    show (paths t).map ((k : Int) :: ·) ++ pathsL (k + 1) (ts ++ bs) = (paths t).map ((k : Int) :: ·) ++ pathsL (k + 1) ts ++ pathsL (k + (ts.length + 1)) bs
    rw [pathsL_append (k + 1) ts bs, List.append_assoc]
    congr 3
    omega
theorem pathsL_next {ts : List T} {i : Nat} {u : T} (h : ts[i]? = some u) : pathsL 0 (ts.take (i + 1)) = pathsL 0 (ts.take i) ++ u.paths.map ((i : Int) :: ·) := by
  have hi := (List.getElem?_eq_some_iff.mp h).1
  rw [List.take_add_one, h, pathsL_append, List.length_take]
  show _ ++ ((paths u).map ((((0 + min i ts.length : Nat)) : Int) :: ·) ++ []) = _
  rw [List.append_nil]
  have e : 0 + min i ts.length = i := by omega
  rw [e]
theorem sizeL_take (ts : List T) (i : Nat) : sizeL (ts.take i) ≤ sizeL ts := by
  have h2 := sizeL_append (ts.take i) (ts.drop i)
  rw [List.take_append_drop] at h2
  omega
theorem sub_f {j : Nat} {p : List Int} {x : Str} {ts : List T} {y u : T} (h : ts[j]? = some y) (e : sub p y = some u) : sub ((j : Int) :: p) (.f x ts) = some u := by
  show (if 0 ≤ (j : Int) then (match ts[((j : Int)).toNat]? with | some u => sub p u | none => none) else none) = _
  rw [if_pos (by omega), Int.toNat_natCast, h]
  exact e
theorem put_f {new : T} {j : Nat} {p : List Int} {x : Str} {ts : List T} {y z : T} (h : ts[j]? = some y) (e : put new p y = some z) : put new ((j : Int) :: p) (.f x ts) = some (.f x (ts.set j z)) := by
  show (if 0 ≤ (j : Int) then (match ts[((j : Int)).toNat]? with | some u => (match put new p u with | some r => some (T.f x (ts.set ((j : Int)).toNat r)) | none => none) | none => none) else none) = _
  rw [if_pos (by omega), Int.toNat_natCast, h]
  show (match put new p y with | some r => some (T.f x (ts.set j r)) | none => none) = _
  rw [e]
mutual
/-- at each path something stands -/
theorem paths_sub : ∀ (t : T) (p : List Int), p ∈ t.paths → ∃ u, sub p t = some u
  | .v i, p, h => by
    cases List.mem_singleton.mp h
    exact ⟨_, rfl⟩
  | .f x ts, p, h => by
    rcases List.mem_cons.mp h with e | e
    · subst e
      exact ⟨_, rfl⟩
    · obtain ⟨j, p', y, u, e1, e2, e3⟩ := pathsL_sub 0 ts p e
      subst e1
      refine ⟨u, ?_⟩
      rw [Nat.zero_add]
      exact sub_f e2 e3
theorem pathsL_sub (k : Nat) : ∀ (ts : List T) (p : List Int), p ∈ pathsL k ts → ∃ (j : Nat) (p' : List Int) (y u : T), p = ((k + j : Nat) : Int) :: p' ∧ ts[j]? = some y ∧ sub p' y = some u
  | [], p, h => by cases h
  | t :: ts, p, h => by
    rcases List.mem_append.mp h with e | e
    · obtain ⟨q, hq, rfl⟩ := List.mem_map.mp e
      obtain ⟨u, hu⟩ := paths_sub t q hq
      exact ⟨0, q, t, u, rfl, rfl, hu⟩
    · obtain ⟨j, p', y, u, e1, e2, e3⟩ := pathsL_sub (k + 1) ts p e
      refine ⟨j + 1, p', y, u, ?_, e2, e3⟩
      rw [e1]
      congr 2
      omega
end
/-- what stands at a path is no larger -/
theorem sub_small : ∀ {p : List Int} {t u : T}, sub p t = some u → (t.named = true → u.named = true) ∧ u.dep ≤ t.dep ∧ u.size ≤ t.size
  | [], t, u, h => by
    cases (show some t = some u from h)
    exact ⟨id, Nat.le_refl _, Nat.le_refl _⟩
  | k :: p, t, u, h => by
    obtain ⟨j, x, ts, y, rfl, rfl, e1, e2⟩ := sub_cons h
    obtain ⟨h1, h2, h3⟩ := sub_small e2
    have m := List.mem_of_getElem? e1
    have d1 := dep_mem m
    have d2 := size_mem m
    refine ⟨fun n => h1 (named_mem m ?_), ?_, ?_⟩
    · have n' : (nameOk x && namedL ts) = true := n
      rw [Bool.and_eq_true] at n'
      exact n'.2
    · show u.dep ≤ 1 + depL ts
      omega
    · show u.size ≤ 1 + sizeL ts
      omega
theorem depL_set : ∀ {ts : List T} {j : Nat} {y z : T}, ts[j]? = some y → ∀ m, depL ts ≤ m → z.dep ≤ m → depL (ts.set j z) ≤ m
  | [], j, y, z, h, m, _, _ => by cases h
  | t :: ts, 0, y, z, h, m, h1, h2 => by
    show max (dep z) (depL ts) ≤ m
    have h1' : max (dep t) (depL ts) ≤ m := h1
    omega
  | t :: ts, j + 1, y, z, h, m, h1, h2 => by
    have h1' : max (dep t) (depL ts) ≤ m := h1
    have := depL_set (ts := ts) (j := j) (y := y) (z := z) h m (by omega) h2
    show max (dep t) (depL (ts.set j z)) ≤ m
    omega
theorem sizeL_set : ∀ {ts : List T} {j : Nat} {y z : T}, ts[j]? = some y → sizeL (ts.set j z) + y.size = sizeL ts + z.size
  | [], j, y, z, h => by cases h
  | t :: ts, 0, y, z, h => by
    cases h
    show size z + sizeL ts + size t = size t + sizeL ts + size z
    omega
  | t :: ts, j + 1, y, z, h => by
    have := sizeL_set (ts := ts) (j := j) (y := y) (z := z) h
    show size t + sizeL (ts.set j z) + y.size = size t + sizeL ts + z.size
    omega
theorem namedL_set : ∀ {ts : List T} {j : Nat} {z : T}, namedL ts = true → z.named = true → namedL (ts.set j z) = true
  | [], j, z, _, _ => rfl
  | t :: ts, 0, z, h, hz => by
    have h' : (named t && namedL ts) = true := h
    rw [Bool.and_eq_true] at h'
    show (named z && namedL ts) = true
    rw [hz, h'.2]
    rfl
  | t :: ts, j + 1, z, h, hz => by
    have h' : (named t && namedL ts) = true := h
    rw [Bool.and_eq_true] at h'
    show (named t && namedL (ts.set j z)) = true
    rw [h'.1, namedL_set h'.2 hz]
    rfl
/-- what is put at a path stands there, and what stood there can be put back -/
theorem put_sub (new : T) : ∀ {p : List Int} {t u : T}, sub p t = some u → ∃ r, put new p t = some r ∧ sub p r = some new ∧ put u p r = some t ∧ r.size ≤ t.size + new.size ∧ r.dep ≤ t.dep + new.dep ∧ (t.named = true → new.named = true → r.named = true)
  | [], t, u, h => by
    cases (show some t = some u from h)
    exact ⟨new, rfl, rfl, rfl, Nat.le_add_left _ _, Nat.le_add_left _ _, fun _ n => n⟩
  | k :: p, t, u, h => by
    obtain ⟨j, x, ts, y, rfl, rfl, e1, e2⟩ := sub_cons h
    obtain ⟨r, h1, h2, h3, h4, h5, h6⟩ := put_sub new e2
    have hj := (List.getElem?_eq_some_iff.mp e1).1
    have at' : (ts.set j r)[j]? = some r := by
      rw [List.getElem?_set_self hj]
    have m := List.mem_of_getElem? e1
    have d1 := dep_mem m
    have d2 := size_mem m
    refine ⟨.f x (ts.set j r), put_f e1 h1, sub_f at' h2, ?_, ?_, ?_, ?_⟩
    · rw [put_f at' h3, List.set_set]
      congr 2
      refine List.ext_getElem? fun i => ?_
      by_cases e : j = i
      · subst e
        rw [List.getElem?_set_self hj, e1]
      · rw [List.getElem?_set_ne e]
    · have := sizeL_set (z := r) e1
      show 1 + sizeL (ts.set j r) ≤ 1 + sizeL ts + new.size
      omega
    · have := depL_set (z := r) e1 (depL ts + new.dep) (by omega) (by omega)
      show 1 + depL (ts.set j r) ≤ 1 + depL ts + new.dep
      omega
    · intro n nn
      have n' : (nameOk x && namedL ts) = true := n
      rw [Bool.and_eq_true] at n'
      show (nameOk x && namedL (ts.set j r)) = true
      rw [n'.1, namedL_set n'.2 (h6 (named_mem m n'.2) nn)]
      rfl
mutual
/-- the steps of a path are small -/
theorem paths_small : ∀ (t : T) (p : List Int), p ∈ t.paths → ∀ k ∈ p, 0 ≤ k ∧ k < t.size
  | .v i, p, h, k, hk => by
    cases List.mem_singleton.mp h
    cases hk
  | .f x ts, p, h, k, hk => by
    have e0 : size (.f x ts) = 1 + sizeL ts := rfl
    rcases List.mem_cons.mp h with e | e
    · rw [e] at hk
      cases hk
    · have := pathsL_small 0 ts p e k hk
      have l := len_sizeL ts
      omega
theorem pathsL_small (n : Nat) : ∀ (ts : List T) (p : List Int), p ∈ pathsL n ts → ∀ k ∈ p, 0 ≤ k ∧ k < n + sizeL ts
  | [], p, h, k, hk => by cases h
  | t :: ts, p, h, k, hk => by
    have s1 := size_pos t
    have e0 : sizeL (t :: ts) = size t + sizeL ts := rfl
    rcases List.mem_append.mp h with e | e
    · obtain ⟨q, hq, rfl⟩ := List.mem_map.mp e
      rcases List.mem_cons.mp hk with z | z
      · omega
      · have := paths_small t q hq k z
        omega
    · have := pathsL_small (n + 1) ts p e k hk
      omega
end
end T
/-- a path's value -/
def PV (K : PySem.W.Frag) (H : Hp) (p : List Int) (v : V) : Prop := ∃ a, v = .ref a ∧ SqT K H a (p.map V.int)
theorem PV.mono {K : PySem.W.Frag} {H H' : Hp} (k : TK H H') (p : List Int) (v : V) (h : PV K H p v) : PV K H' p v := by
  obtain ⟨a, e, s⟩ := h
  exact ⟨a, e, k.sq s⟩
def spLPaths (K : PySem.W.Frag) (n : Nat) : Sp := fun vs H Q _ => ∃ (t : T) (x : V), vs = [x] ∧ Tm K H t x ∧ t.dep < n ∧ t.size ≤ 10000 ∧
  ∀ H' p us, Same H H' → H p = none → H' p = some (.lst us) → F2 (PV K H') t.paths us → Q (.ref p) H'
def spAt (K : PySem.W.Frag) : Sp := fun vs H Q _ => ∃ (t u : T) (x : V) (a : Addr) (p : List Int), vs = [x, .ref a] ∧ Tm K H t x ∧ SqT K H a (p.map V.int) ∧ T.sub p t = some u ∧ ∀ v, Tm K H u v → Q v H
/-- put at a path of fewer than n steps -/
def spPut (K : PySem.W.Frag) (n : Nat) : Sp := fun vs H Q _ => ∃ (t new r : T) (x y : V) (a : Addr) (p : List Int), vs = [x, .ref a, y] ∧ Tm K H t x ∧ Tm K H new y ∧ SqT K H a (p.map V.int) ∧ p.length < n ∧ t.size ≤ 10000 ∧ T.put new p t = some r ∧ ∀ v H', Same H H' → Tm K H' r v → Q v H'
section
variable {K : PySem.W.Frag}
theorem Tms.set {H : Hp} {x : V} {t : T} : ∀ {ts : List T} {xs : List V} (j : Nat), Tms K H ts xs → Tm K H t x → Tms K H (ts.set j t) (xs.take j ++ x :: xs.drop (j + 1)) ∨ ts.length ≤ j
  | [], _, j, _, _ => .inr (Nat.zero_le _)
  | u :: us, xs, j, h, hx => by
    obtain ⟨y, ys, rfl, one, all⟩ := h
    cases j with
    | zero => exact .inl ⟨x, ys, rfl, hx, all⟩
    | succ j =>
      rcases Tms.set (ts := us) (xs := ys) j all hx with z | z
      · exact .inl ⟨y, _, rfl, one, z⟩
      · exact .inr (Nat.succ_le_succ z)
end
theorem cut_low {x : V} {xs : List V} {j : Nat} (h : j < xs.length) : ¬ (HT.sIx (x :: xs).length 0 none = 0 ∧ HT.sIx (x :: xs).length (x :: xs).length (some ((j : Int) + 1)) = (x :: xs).length) ∧ cutV (x :: xs) none (some ((j : Int) + 1)) = x :: xs.take j := by
  have e : ((j : Int) + 1) = ((j + 1 : Nat) : Int) := by omega
  rw [e]
  have e2 : HT.sIx (x :: xs).length (x :: xs).length (some ((j + 1 : Nat) : Int)) = j + 1 := by
    rw [HT.sIx_nat, List.length_cons]
    omega
  constructor
  · rw [e2, List.length_cons]
    omega
  · unfold cutV
    rw [e2, HT.sIx_none, List.drop_zero, Nat.sub_zero, List.take_succ_cons]
theorem cut_high {x : V} {xs : List V} {j : Nat} (h : j < xs.length) : ¬ (HT.sIx (x :: xs).length 0 (some ((j : Int) + 1 + 1)) = 0 ∧ HT.sIx (x :: xs).length (x :: xs).length none = (x :: xs).length) ∧ cutV (x :: xs) (some ((j : Int) + 1 + 1)) none = xs.drop (j + 1) := by
  have e : ((j : Int) + 1 + 1) = ((j + 2 : Nat) : Int) := by omega
  rw [e]
  have e2 : HT.sIx (x :: xs).length 0 (some ((j + 2 : Nat) : Int)) = j + 2 := by
    rw [HT.sIx_nat, List.length_cons]
    omega
  constructor
  · rw [e2]
    omega
  · unfold cutV
    rw [e2, HT.sIx_none]
    show ((xs.drop (j + 1))).take _ = _
    rw [List.take_of_length_le]
    rw [List.length_drop, List.length_cons]
    omega
theorem cut_tail {k : Int} {p : List Int} : ¬ (HT.sIx ((k :: p).map V.int).length 0 (some 1) = 0 ∧ HT.sIx ((k :: p).map V.int).length ((k :: p).map V.int).length none = ((k :: p).map V.int).length) ∧ cutV ((k :: p).map V.int) (some 1) none = p.map V.int := by
  have e2 : HT.sIx ((k :: p).map V.int).length 0 (some ((1 : Nat) : Int)) = 1 := by
    rw [HT.sIx_nat, List.length_map, List.length_cons]
    omega
  have e3 : HT.sIx ((k :: p).map V.int).length 0 (some 1) = 1 := e2
  constructor
  · rw [e3]
    omega
  · unfold cutV
    rw [e3, HT.sIx_none]
    show (p.map V.int).take _ = _
    rw [List.take_of_length_le]
    rw [List.length_map, List.length_map, List.length_cons]
    omega
theorem cut_low' {x : V} {xs : List V} {j : Nat} (h : j < xs.length) : ¬ (HT.sIx (x :: xs).length 0 none = 0 ∧ HT.sIx (x :: xs).length (x :: xs).length (some (1 + (j : Int))) = (x :: xs).length) ∧ cutV (x :: xs) none (some (1 + (j : Int))) = x :: xs.take j := by
  rw [Int.add_comm]
  exact cut_low h
theorem cut_high' {x : V} {xs : List V} {j : Nat} (h : j < xs.length) : ¬ (HT.sIx (x :: xs).length 0 (some (1 + (j : Int) + 1)) = 0 ∧ HT.sIx (x :: xs).length (x :: xs).length none = (x :: xs).length) ∧ cutV (x :: xs) (some (1 + (j : Int) + 1)) none = xs.drop (j + 1) := by
  rw [Int.add_comm 1]
  exact cut_high h
end Ad

/-! Drawn substitutions. -/
namespace Ad
open PySem PySem.Spec PySem.Calls PyProof.Rows L2
theorem sz_mono {a b : Nat} (h : a ≤ b) : sz a ≤ sz b := by
  induction h with
  | refl => exact Nat.le_refl _
  | step h ih =>
    refine Nat.le_trans ih ?_
    show sz _ ≤ 1 + 3 * sz _
    omega
theorem dn_mono {a b : Nat} (h : a ≤ b) : dn a ≤ dn b := by
  induction h with
  | refl => exact Nat.le_refl _
  | step h ih =>
    refine Nat.le_trans ih ?_
    show dn _ ≤ 2 + 3 * dn _
    omega
theorem DT.mono {R : List Row} {d e : Nat} {nv : Int} {t : T} (h : d ≤ e) (x : DT R d nv t) : DT R e nv t := ⟨x.named, Nat.le_trans x.dep (by omega), Nat.le_trans x.size (sz_mono h), x.vars, x.wf⟩
theorem rising_len : ∀ {l : List Int} {lo hi : Int}, l.Pairwise (· < ·) → (∀ i ∈ l, lo ≤ i ∧ i < hi) → lo ≤ hi → (l.length : Int) ≤ hi - lo
  | [], lo, hi, _, _, h => by
    show ((0 : Nat) : Int) ≤ hi - lo
    omega
  | a :: l, lo, hi, h1, h2, h => by
    obtain ⟨p1, p2⟩ := List.pairwise_cons.mp h1
    obtain ⟨q1, q2⟩ := h2 a List.mem_cons_self
    have := rising_len (lo := a + 1) (hi := hi) p2 (fun i hi' => ⟨by have := p1 i hi'; omega, (h2 i (List.mem_cons_of_mem _ hi')).2⟩) (by omega)
    rw [List.length_cons]
    omega
theorem Sb.mem_put {tb : Sb} {i : Int} {t : T} {e : Int × T} (h : e ∈ tb.put i t) : e = (i, t) ∨ e ∈ tb := by
  unfold Sb.put at h
  split at h
  · obtain ⟨e', he, h'⟩ := List.mem_map.mp h
    split at h'
    · rename_i z
      left
      rw [← h', z]
    · right
      rw [← h']
      exact he
  · rcases List.mem_append.mp h with z | z
    · exact .inr z
    · exact .inl (List.mem_singleton.mp z)
/-- a substitution in its one form, drawn -/
structure DSu (R : List Row) (deep : Nat) (nv : Int) (su : Sb) : Prop where
  rising : (su.map (·.1)).Pairwise (· < ·)
  each : ∀ e ∈ su, 0 ≤ e.1 ∧ e.1 < nv ∧ DT R deep nv e.2
theorem DSu.few {R : List Row} {deep : Nat} {nv : Int} {su : Sb} (h : DSu R deep nv su) (n : 0 ≤ nv) : (su.length : Int) ≤ nv := by
  have := rising_len (lo := 0) (hi := nv) h.rising (fun i hi => by
    obtain ⟨e, he, rfl⟩ := List.mem_map.mp hi
    exact ⟨(h.each e he).1, (h.each e he).2.1⟩) n
  rw [List.length_map] at this
  omega
section
variable {P : Program} {w : World} {K : PySem.W.Frag} {mg : Str → Option Value} {base : Heap}
def spDPairs (K : PySem.W.Frag) (n : Nat) : Sp := fun vs H Q _ => ∃ (p l ra : Addr) (ns : List Int) (c deep nv : Nat) (R : List Row), vs = [.ref p, .ref ra, .int (nv : Int), .int (deep : Int)] ∧ Pn.Pen H p l ns c ∧ ns.length ≤ 1000 ∧ c + nv * (2 + dn deep) ≤ 1000000000 ∧ RowsAt K H ra R ∧ ROk R ∧
  deep < n ∧ deep ≤ 50 ∧ nv ≤ 60 ∧ ∀ su x H' c', DSu R deep nv su → Su K H' su x → c' ≤ c + nv * (2 + dn deep) → Pn.Pen H' p l ns c' → Pn.But p H H' → Q x H'
end
end Ad

/-! Texts of terms and substitutions. -/
namespace Ad
open PySem PySem.Spec PySem.Calls PyProof.Rows L2
theorem tuple_piled (ts : List Str) : (tupleText ts).length ≤ 3 + piled ts := by
  unfold tupleText
  rw [strLen_append, strLen_append]
  have e1 : ((("(" : String) : Str)).length = 1 := rfl
  have e3 : (((if ts.length == 1 then ",)" else ")" : String) : Str)).length ≤ 2 := by split <;> decide
  rw [e1]
  by_cases z : ts = []
  · subst z
    have e4 : (Str.join ", " ([] : List Str)).length = 0 := rfl
    rw [e4]
    omega
  · have h2 := join_length_add ts z
    omega
theorem small_text (i : Int) (h0 : 0 ≤ i) (h : i < 64) : (toString i : Str).length ≤ 2 ∧ i.natAbs.log2 < 1920 := by
  have all : ∀ j : Fin 64, (toString ((j.val : Nat) : Int) : Str).length ≤ 2 ∧ (((j.val : Nat) : Int)).natAbs.log2 < 1920 := by decide +kernel
  have := all ⟨i.toNat, by omega⟩
  have e : ((i.toNat : Nat) : Int) = i := Int.toNat_of_nonneg h0
  rw [show (((⟨i.toNat, by omega⟩ : Fin 64).val : Nat) : Int) = i from e] at this
  exact this
namespace T
mutual
theorem text : ∀ t : T, t.named = true → (∀ j ∈ t.vars, 0 ≤ j ∧ j < 64) → t.d.showable = true ∧ t.d.shown.length + 2 ≤ 17 * t.size
  | .v i, _, h => by
    obtain ⟨a, b⟩ := h i List.mem_cons_self
    obtain ⟨s1, s2⟩ := small_text i a b
    refine ⟨decide_eq_true s2, ?_⟩
    show (toString i : Str).length + 2 ≤ 17 * 1
    omega
  | .f x ts, n, h => by
    have n' : (nameOk x && namedL ts) = true := n
    rw [Bool.and_eq_true] at n'
    obtain ⟨a, b⟩ := texts ts n'.2 h
    refine ⟨?_, ?_⟩
    · show (true && PyData.showableAll (ds ts)) = true
      rw [a]
      rfl
    · have l := tuple_piled (PyData.shownAll (.str x :: ds ts))
      have e : piled (PyData.shownAll (.str x :: ds ts)) = ((PyData.shown (.str x)).length + 2) + piled (PyData.shownAll (ds ts)) := piled_cons _ _
      have s := nameOk_short n'.1
      show (tupleText (PyData.shownAll (.str x :: ds ts))).length + 2 ≤ 17 * (1 + sizeL ts)
      omega
theorem texts : ∀ ts : List T, namedL ts = true → (∀ j ∈ varsL ts, 0 ≤ j ∧ j < 64) → PyData.showableAll (ds ts) = true ∧ piled (PyData.shownAll (ds ts)) ≤ 17 * sizeL ts
  | [], _, _ => ⟨rfl, Nat.zero_le _⟩
  | t :: ts, n, h => by
    have n' : (named t && namedL ts) = true := n
    rw [Bool.and_eq_true] at n'
    obtain ⟨a1, a2⟩ := text t n'.1 fun j hj => h j (List.mem_append_left _ hj)
    obtain ⟨b1, b2⟩ := texts ts n'.2 fun j hj => h j (List.mem_append_right _ hj)
    refine ⟨?_, ?_⟩
    · show (PyData.showable (d t) && PyData.showableAll (ds ts)) = true
      rw [a1, b1]
      rfl
    · have e : piled (PyData.shownAll (d t :: ds ts)) = ((PyData.shown (d t)).length + 2) + piled (PyData.shownAll (ds ts)) := piled_cons _ _
      show piled (PyData.shownAll (d t :: ds ts)) ≤ 17 * (size t + sizeL ts)
      rw [e]
      omega
end
mutual
theorem fill_vars {s : Int → T} {j : Int} : ∀ t : T, j ∈ (fill s t).vars → ∃ i ∈ t.vars, j ∈ (s i).vars
  | .v i, h => ⟨i, List.mem_cons_self, h⟩
  | .f x ts, h => fillL_vars ts h
theorem fillL_vars {s : Int → T} {j : Int} : ∀ ts : List T, j ∈ varsL (fillL s ts) → ∃ i ∈ varsL ts, j ∈ (s i).vars
  | [], h => by cases h
  | t :: ts, h => by
    rcases List.mem_append.mp h with z | z
    · obtain ⟨i, a, b⟩ := fill_vars t z
      exact ⟨i, List.mem_append_left _ a, b⟩
    · obtain ⟨i, a, b⟩ := fillL_vars ts z
      exact ⟨i, List.mem_append_right _ a, b⟩
end
end T
/-- a substitution's data -/
def suD (su : Sb) : PyData := .tuple (su.map fun e => .tuple [.int e.1, e.2.d])
theorem sps_dp {K : PySem.W.Frag} {H : Hp} : ∀ {su : Sb} {bs : List Addr}, F2 (SP K H) su bs → DpAll K H (bs.map V.ref) (su.map fun e => PyData.tuple [.int e.1, e.2.d])
  | [], bs, h => by
    cases (show bs = [] from h)
    exact .nil
  | e :: su, bs, h => by
    obtain ⟨b, r, rfl, ⟨v, s, t⟩, rest⟩ := h
    exact .cons (.tup s (.cons (.int _) (.cons (Tm.dp _ _ t) .nil))) (sps_dp rest)
theorem su_dp {K : PySem.W.Frag} {H : Hp} {su : Sb} {x : V} (h : Su K H su x) : Dp K H x (suD su) := by
  obtain ⟨a, bs, rfl, t, f⟩ := h
  exact .tup t.sq (sps_dp f)
/-- terms that can be shown, with few parts -/
structure Sm (m : Nat) (t : T) : Prop where
  named : t.named = true
  dep : t.dep ≤ 40
  size : t.size ≤ m
  vars : ∀ j ∈ t.vars, 0 ≤ j ∧ j < 64
theorem su_lay : ∀ {su : Sb}, (∀ e ∈ su, e.2.named = true) → PyData.canLayAll0 (su.map fun e => PyData.tuple [.int e.1, e.2.d]) = true
  | [], _ => rfl
  | e :: su, h => by
    show (PyData.canLay0 (.tuple [.int e.1, e.2.d]) && PyData.canLayAll0 (su.map _)) = true
    rw [su_lay fun e he => h e (List.mem_cons_of_mem _ he)]
    show (((PyData.canLay0 (.int e.1) && (PyData.canLay0 e.2.d && true))) && true) = true
    rw [T.d_lay _ (h e List.mem_cons_self)]
    rfl
theorem su_depth : ∀ {su : Sb}, (∀ e ∈ su, e.2.dep ≤ 40) → PyData.depthAll (su.map fun e => PyData.tuple [.int e.1, e.2.d]) ≤ 41
  | [], _ => Nat.zero_le _
  | e :: su, h => by
    show max (PyData.depth (.tuple [.int e.1, e.2.d])) (PyData.depthAll (su.map _)) ≤ 41
    have h1 := su_depth (su := su) fun e he => h e (List.mem_cons_of_mem _ he)
    have h2 : PyData.depth (.tuple [.int e.1, e.2.d]) = max 0 (max e.2.d.depth 0) + 1 := rfl
    have h3 := h e List.mem_cons_self
    rw [T.d_depth] at h2
    omega
theorem su_show {m : Nat} : ∀ {su : Sb}, (∀ e ∈ su, 0 ≤ e.1 ∧ e.1 < 64 ∧ Sm m e.2) → PyData.showableAll (su.map fun e => PyData.tuple [.int e.1, e.2.d]) = true ∧ piled (PyData.shownAll (su.map fun e => PyData.tuple [.int e.1, e.2.d])) ≤ su.length * (17 * m + 9)
  | [], _ => ⟨rfl, Nat.zero_le _⟩
  | e :: su, h => by
    obtain ⟨a, b⟩ := su_show (m := m) (su := su) fun e he => h e (List.mem_cons_of_mem _ he)
    obtain ⟨i0, i1, sm⟩ := h e List.mem_cons_self
    obtain ⟨s1, s2⟩ := T.text e.2 sm.named sm.vars
    obtain ⟨t1, t2⟩ := small_text e.1 i0 i1
    have z := sm.size
    refine ⟨?_, ?_⟩
    · show ((decide (e.1.natAbs.log2 < 1920) && (PyData.showable e.2.d && true)) && PyData.showableAll (su.map _)) = true
      rw [a, s1, decide_eq_true t2]
      rfl
    · have l := tuple_piled [PyData.shown (.int e.1), PyData.shown e.2.d]
      have p : piled [PyData.shown (.int e.1), PyData.shown e.2.d] = ((PyData.shown (.int e.1)).length + 2) + ((PyData.shown e.2.d).length + 2) := by
        rw [piled_cons, piled_cons, piled_nil]
      have t1' : (PyData.shown (.int e.1)).length ≤ 2 := t1
      have q : piled (PyData.shownAll ((e :: su).map fun e => PyData.tuple [.int e.1, e.2.d])) = ((tupleText [PyData.shown (.int e.1), PyData.shown e.2.d]).length + 2) + piled (PyData.shownAll (su.map fun e => PyData.tuple [.int e.1, e.2.d])) := piled_cons _ _
      rw [q, List.length_cons, Nat.succ_mul]
      omega
/-- a small substitution can be shown -/
theorem su_text {m : Nat} {su : Sb} (hm : m ≤ 10000) (few : su.length ≤ 64) (h : ∀ e ∈ su, 0 ≤ e.1 ∧ e.1 < 64 ∧ Sm m e.2) : (suD su).showable = true ∧ (suD su).hasDict = false ∧ (suD su).depth ≤ 60 ∧ (suD su).shown.length ≤ sizeLine := by
  obtain ⟨a, b⟩ := su_show h
  refine ⟨a, PyData.hasDict_of_canLay _ ?_, ?_, ?_⟩
  · exact su_lay fun e he => (h e he).2.2.named
  · have := su_depth (su := su) fun e he => (h e he).2.2.dep
    show PyData.depthAll (su.map _) + 1 ≤ 60
    omega
  · have l := tuple_piled (PyData.shownAll (su.map fun e => PyData.tuple [.int e.1, e.2.d]))
    have mm : su.length * (17 * m + 9) ≤ 64 * (17 * 10000 + 9) := Nat.mul_le_mul few (by omega)
    show (tupleText (PyData.shownAll (su.map fun e => PyData.tuple [.int e.1, e.2.d]))).length ≤ sizeLine
    rw [sizeLine_eq]
    omega
theorem su_shaped {su : Sb} (h : ∀ e ∈ su, e.2.named = true ∧ e.2.dep ≤ 40) : SeqAt.shaped (suD su) = true := by
  have d := su_depth (su := su) fun e he => (h e he).2
  have l := su_lay (su := su) fun e he => (h e he).1
  unfold SeqAt.shaped
  rw [Bool.and_eq_true]
  refine ⟨l, decide_eq_true ?_⟩
  show PyData.depthAll (su.map _) + 1 ≤ _
  omega
theorem eqv_one {d : PyData} (h : SeqAt.shaped d = true) : PyData.eqv d d = true := SeqAt.eqv_refl d (SeqAt.canLay_of_shaped h)
end Ad

/-! zip's next, once a pair of its own still stands. -/
namespace Zl
open PySem RZ
abbrev IsZ (h : Heap) (z TI TO : Addr) (f0 : Value) (b : Bool) : Prop :=
  h.get? z = some { cls := .type "zip", dict := none, data := .fields #[f0, .bool b, .bool false, .ref TI, .ref TO], slots := #[] }
section
variable {prog : Program} {w : World} {A : Around} {E : Value → Shared → Prop} {s : Shared}
theorem wpAny_alive {M : Model} {a : Addr} {Q : Option Obj → Shared → Prop} (h : Q (s.heap.get? a) s) : wpAny M A (loadIfAlive a) Q E s := fun _ _ _ => h
theorem not_free {z TI TO a : Addr} {b : Bool} {oa : Obj} {Q : Bool → Shared → Prop} (hz : IsZ s.heap z TI TO (rawInt a) b) (ha : s.heap.get? a = some oa)
    (h : ∀ h', IsZ h' z TI TO (rawInt a) true → Heap.SameBut z s.heap h' → Q false { s with heap := h' }) : wpAny (model prog w) A (Builtin.SmallTypes.ownedTupleIsFree (.ref z)) Q E s := by
  unfold Builtin.SmallTypes.ownedTupleIsFree
  refine wpAny_bind (wpAny_field hz rfl (x := rawInt a) rfl ?_)
  show wpAny _ _ (loadIfAlive ((a : Int)).toNat >>= _) _ _ _
  rw [Int.toNat_natCast]
  refine wpAny_bind (wpAny_alive ?_)
  rw [ha]
  show wpAny _ _ (field (.ref z) 1 >>= _) _ _ _
  refine wpAny_bind (wpAny_field hz rfl (x := .bool b) rfl ?_)
  cases b with
  | true =>
    first
      | exact wpAny_pure (h s.heap hz (Heap.SameBut.refl ..))
      | exact wpAny_bind (wpAny_pure (wpAny_pure (h s.heap hz ⟨rfl, fun _ _ _ e => e⟩)))
  | false =>
    refine wpAny_bind (wpAny_setField_rec hz (by simp) fun h₁ hz₁ hs₁ => wpAny_pure ?_)
    exact h h₁ hz₁ hs₁
theorem next2_item {z TI TO i1 i2 l1 l2 c : Addr} {k1 k2 : Nat} {xs ys : Array Value} {x y : Value} {b : Bool} {oa : Obj} {Q : Value → Shared → Prop} (D : ZipApart z TI TO i1 i2 l1 l2)
    (hz : IsZ s.heap z TI TO (rawInt c) b) (ha : s.heap.get? c = some oa) (hTI : IsPair s.heap TI (.ref i1) (.ref i2))
    (h1 : s.heap.IsTupleIter i1 l1 k1) (h2 : s.heap.IsTupleIter i2 l2 k2) (hl1 : s.heap.IsTuple l1 xs) (hl2 : s.heap.IsTuple l2 ys) (hx : xs[k1]? = some x) (hy : ys[k2]? = some y)
    (hQ : ∀ h', IsZ h' z TI TO (rawInt c) true → h'.IsTupleIter i1 l1 (k1 + 1) → h'.IsTupleIter i2 l2 (k2 + 1) → IsPair h' s.heap.objs.size x y → h'.objs.size = s.heap.objs.size + 1 →
      (∀ c o, c ≠ z → c ≠ i1 → c ≠ i2 → s.heap.get? c = some o → h'.get? c = some o) → Q (.ref s.heap.objs.size) { s with heap := h' }) :
    wpAny (model prog w) A (Builtin.«zip.__next__» ⟨[.ref z], []⟩) (fun fin s' => ∃ v, fin = .done (.ret v) ∧ Q v s') E s := by
  show wpAny _ _ (field (.ref z) 2 >>= _) _ _ _
  refine wpAny_bind (wpAny_field hz rfl (x := .bool false) rfl ?_)
  show wpAny _ _ (field (.ref z) 3 >>= _) _ _ _
  refine wpAny_bind (wpAny_field hz rfl (x := .ref TI) rfl ?_)
  refine wpAny_bind (wpAny_seqItems hTI rfl ?_)
  show wpAny _ _ (Builtin.SmallTypes.ownedTupleIsFree (.ref z) >>= _) _ _ _
  refine wpAny_bind (not_free hz ha fun h₁ hz₁ hs₁ => ?_)
  simp only [Bool.false_eq_true, if_false]
  refine wpAny_bind ?_
  simp only [List.forIn_toArray, List.forIn_cons, List.forIn_nil]
  refine wpAny_bind (wpAny_bind (wpAny_holding ?_))
  show wpAny _ _ (Builtin.SmallTypes.nextOf (.ref i1) >>= _) _ _ _
  refine wpAny_bind (nextOf_tuple_item (h1.extBut hs₁.extBut D.i1z) (hl1.extBut hs₁.extBut D.l1z) hx fun h₂ h1₂ hs₂ => wpAny_pure ?_)
  refine wpAny_pure ?_
  refine wpAny_bind (wpAny_bind (wpAny_holding ?_))
  show wpAny _ _ (Builtin.SmallTypes.nextOf (.ref i2) >>= _) _ _ _
  refine wpAny_bind (nextOf_tuple_item ((h2.extBut hs₁.extBut D.i2z).extBut hs₂.extBut D.i12.symm) ((hl2.extBut hs₁.extBut D.l2z).extBut hs₂.extBut D.l2i1) hy fun h₃ h2₃ hs₃ => wpAny_pure ?_)
  refine wpAny_pure (wpAny_pure ?_)
  refine wpAny_bind (wpAny_newTuple (hsz := by show 2 ≤ sizeLine; decide) ?_)
  have hsz : h₃.objs.size = s.heap.objs.size := by rw [hs₃.1, hs₂.1, hs₁.1]
  refine wpAny_pure ⟨_, rfl, ?_⟩
  show Q (.ref h₃.objs.size) _
  have up : ∀ c o, c ≠ z → c ≠ i1 → c ≠ i2 → s.heap.get? c = some o → h₃.get? c = some o := fun c o c1 c2 c3 e => hs₃.extBut _ _ c3 (hs₂.extBut _ _ c2 (hs₁.extBut _ _ c1 e))
  have hp : IsPair (h₃.push { cls := .type "tuple", data := .seq #[x, y] }) h₃.objs.size x y := Heap.get?_push_size _ rfl
  rw [hsz] at hp ⊢
  refine hQ _ (Heap.get?_push_of_some _ (hs₃.extBut _ _ D.i2z.symm (hs₂.extBut _ _ D.i1z.symm hz₁))) ((h1₂.extBut hs₃.extBut D.i12).at fun o e => Heap.get?_push_of_some _ e) (h2₃.at fun o e => Heap.get?_push_of_some _ e) hp (by rw [Heap.size_push, hsz]) fun c o c1 c2 c3 e => Heap.get?_push_of_some _ (up c o c1 c2 c3 e)
theorem next2_end {z TI TO i1 i2 l1 l2 c : Addr} {k1 : Nat} {xs : Array Value} {b : Bool} {oa : Obj} {Q : Fin → Shared → Prop} (hh : A.handled = none) (D : ZipApart z TI TO i1 i2 l1 l2)
    (hz : IsZ s.heap z TI TO (rawInt c) b) (ha : s.heap.get? c = some oa) (hTI : IsPair s.heap TI (.ref i1) (.ref i2))
    (h1 : s.heap.IsTupleIter i1 l1 k1) (hl1 : s.heap.IsTuple l1 xs) (hx : xs[k1]? = none)
    (hE : ∀ h' e, (∀ c o, c ≠ z → c ≠ i1 → s.heap.get? c = some o → h'.get? c = some o) → (∃ o, h'.get? e = some o ∧ o.cls = .type "StopIteration") → E (.ref e) { s with heap := h' }) :
    wpAny (model prog w) A (Builtin.«zip.__next__» ⟨[.ref z], []⟩) Q E s := by
  show wpAny _ _ (field (.ref z) 2 >>= _) _ _ _
  refine wpAny_bind (wpAny_field hz rfl (x := .bool false) rfl ?_)
  show wpAny _ _ (field (.ref z) 3 >>= _) _ _ _
  refine wpAny_bind (wpAny_field hz rfl (x := .ref TI) rfl ?_)
  refine wpAny_bind (wpAny_seqItems hTI rfl ?_)
  show wpAny _ _ (Builtin.SmallTypes.ownedTupleIsFree (.ref z) >>= _) _ _ _
  refine wpAny_bind (not_free hz ha fun h₁ hz₁ hs₁ => ?_)
  simp only [Bool.false_eq_true, if_false]
  refine wpAny_bind ?_
  simp only [List.forIn_toArray, List.forIn_cons, List.forIn_nil]
  refine wpAny_bind (wpAny_bind (wpAny_holding ?_))
  show wpAny _ _ (Builtin.SmallTypes.nextOf (.ref i1) >>= _) _ _ _
  refine wpAny_bind (nextOf_tuple_end hh (h1.extBut hs₁.extBut D.i1z) (hl1.extBut hs₁.extBut D.l1z) hx fun h₂ e hs₂ he => ?_)
  exact hE h₂ e (fun c o c1 c2 x => hs₂ _ _ c2 (hs₁.extBut _ _ c1 x)) he
theorem pyNext2_item {z TI TO i1 i2 l1 l2 c : Addr} {k1 k2 : Nat} {xs ys : Array Value} {x y : Value} {b : Bool} {oa : Obj} {Q : Option Value → Shared → Prop} (D : ZipApart z TI TO i1 i2 l1 l2)
    (hz : IsZ s.heap z TI TO (rawInt c) b) (ha : s.heap.get? c = some oa) (hTI : IsPair s.heap TI (.ref i1) (.ref i2))
    (h1 : s.heap.IsTupleIter i1 l1 k1) (h2 : s.heap.IsTupleIter i2 l2 k2) (hl1 : s.heap.IsTuple l1 xs) (hl2 : s.heap.IsTuple l2 ys) (hx : xs[k1]? = some x) (hy : ys[k2]? = some y)
    (hQ : ∀ h', IsZ h' z TI TO (rawInt c) true → h'.IsTupleIter i1 l1 (k1 + 1) → h'.IsTupleIter i2 l2 (k2 + 1) → IsPair h' s.heap.objs.size x y → h'.objs.size = s.heap.objs.size + 1 →
      (∀ c o, c ≠ z → c ≠ i1 → c ≠ i2 → s.heap.get? c = some o → h'.get? c = some o) → Q (some (.ref s.heap.objs.size)) { s with heap := h' }) :
    wpAny (model prog w) A (pyNext (.ref z)) Q E s := by
  have hT : s.TypeIs (.ref z) "zip" := ⟨_, hz, rfl⟩
  unfold pyNext
  exact wpAny_bind (wpAny_attempt (wpAny_callSpecial?_slot (name := Str.ofString "__next__") hT F.slot_zip_next
    (wpAny_call_entry F.slot_zip_next hT F.entry_zip_next
      (next2_item D hz ha hTI h1 h2 hl1 hl2 hx hy fun h' a1 a2 a3 a4 a5 a6 => wpAny_pure (hQ h' a1 a2 a3 a4 a5 a6)) (F.args_zip_next_1 _))))
theorem pyNext2_end {z TI TO i1 i2 l1 l2 c : Addr} {k1 : Nat} {xs : Array Value} {b : Bool} {oa : Obj} {Q : Option Value → Shared → Prop} (hh : A.handled = none) (D : ZipApart z TI TO i1 i2 l1 l2)
    (hz : IsZ s.heap z TI TO (rawInt c) b) (ha : s.heap.get? c = some oa) (hTI : IsPair s.heap TI (.ref i1) (.ref i2))
    (h1 : s.heap.IsTupleIter i1 l1 k1) (hl1 : s.heap.IsTuple l1 xs) (hx : xs[k1]? = none)
    (hQ : ∀ h', (∀ c o, c ≠ z → c ≠ i1 → s.heap.get? c = some o → h'.get? c = some o) → Q none { s with heap := h' }) : wpAny (model prog w) A (pyNext (.ref z)) Q E s := by
  have hT : s.TypeIs (.ref z) "zip" := ⟨_, hz, rfl⟩
  unfold pyNext
  refine wpAny_bind (wpAny_attempt (wpAny_callSpecial?_slot (name := Str.ofString "__next__") hT F.slot_zip_next
    (wpAny_call_entry F.slot_zip_next hT F.entry_zip_next (next2_end hh D hz ha hTI h1 hl1 hx fun h' e hk he => ?_) (F.args_zip_next_1 _))))
  obtain ⟨o, ho, hc⟩ := he
  refine wpAny_bind (wpAny_isInstance (T := "StopIteration") (b := true) ⟨o, ho, hc⟩ isSubtype_stop ?_)
  exact wpAny_pure (hQ _ hk)
end
end Zl

/-! list(zip(t, u)) of two tuples of one length. -/
namespace Zl
open PySem PySem.Spec PySem.Calls PyProof.Rows L2 RZ
/-- where the walk stands -/
structure ZSt (h : Heap) (z TI TO i1 i2 a b : Addr) (k : Nat) : Prop where
  zip : (IsZip h z TI TO .none) ∨ ∃ c bb oa, IsZ h z TI TO (rawInt (c : Nat)) bb ∧ h.get? c = some oa ∧ c ≠ z ∧ c ≠ TI ∧ c ≠ TO ∧ c ≠ i1 ∧ c ≠ i2
  ti : IsPair h TI (.ref i1) (.ref i2)
  to : ∃ x y, IsPair h TO x y
  it1 : h.IsTupleIter i1 a k
  it2 : h.IsTupleIter i2 b k
/-- pairs stand at cs -/
def Prs (G : Hp) (xs ys : List V) (cs : List Addr) : Prop := ∀ (i : Nat) (c : Addr), cs[i]? = some c → ∃ x y, xs[i]? = some x ∧ ys[i]? = some y ∧ G c = some (.tup [x, y])
section
variable {X : Cx} {pins : List (Addr × Obj)} {σ : L2.St} {H : Hp}
theorem loop {A : Around} {R : Result → Shared → Prop} {S z TI TO i1 i2 a b : Addr} {xs ys : List V} {res : Value} (hh : A.handled = none) (D : ZipApart z TI TO i1 i2 a b) (len : xs.length = ys.length) (few : xs.length ≤ sizeLine) (nS : H S = none)
    (hR : ∀ s' G' cs, Inv X pins σ G' s' → Same H G' → G' S = some (.lst (cs.map V.ref)) → cs.length = xs.length → Prs G' xs ys cs → R (.ok (.ret res)) s') :
    ∀ (m k : Nat) (s : Shared) (G : Hp) (cs : List Addr), xs.length = k + m → Inv X pins σ G s → Same H G → G S = some (.lst (cs.map V.ref)) → cs.length = k → Prs G xs ys cs → SqT X.K G a xs → SqT X.K G b ys → (∀ c ∈ [z, TI, TO, i1, i2], FpOk X pins G c) → ZSt s.heap z TI TO i1 i2 a b k →
      codeAny (model X.prog X.w) A (.builtin "list.extend.loop" ⟨[.ref S, .ref z, res], []⟩) R s := by
  intro m
  induction m with
  | zero =>
    intro k s G cs hk I sm gS lcs prs sa sb fp st
    obtain ⟨its, rv, p, _⟩ := I.tuple sa
    obtain ⟨its2, rv2, p2, _⟩ := I.tuple sb
    have l1 := rv.length
    have e1 : its.toArray[k]? = none := by simp; omega
    refine codeAny_builtin F.entry_extend_loop ?_
    rw [Around.under_plainId F.plain_extend_loop _]
    show wpAny _ A.in1 (pyNext (.ref z) >>= _) _ _ s
    obtain ⟨zip, ti, ⟨x0, y0, to⟩, it1, it2⟩ := st
    have fin : ∀ h' : Heap, (∀ c o, c ∉ [z, TI, TO, i1, i2] → s.heap.get? c = some o → h'.get? c = some o) → R (.ok (.ret res)) { s with heap := h' } := fun h' hk' =>
      hR _ G cs (I.turnedL (t' := s.toks) (ch := [z, TI, TO, i1, i2]) hk' fp) sm gS (by omega) prs
    rcases zip with zip | ⟨c, bb, oa, zip, alive, _⟩
    · refine wpAny_bind (pyNext_zipT_end (A := A.in1) hh D zip ti to it1 it2 p p2 (.inl e1) fun h' hk' => wpAny_pure (fin h' fun c o hc e => ?_))
      exact hk' c o (fun q => hc (by simp [q])) (fun q => hc (by simp [q])) (fun q => hc (by simp [q])) (fun q => hc (by simp [q])) e
    · refine wpAny_bind (pyNext2_end (A := A.in1) hh D zip alive ti it1 p e1 fun h' hk' => wpAny_pure (fin h' fun c o hc e => ?_))
      exact hk' c o (fun q => hc (by simp [q])) (fun q => hc (by simp [q])) e
  | succ m ih =>
    intro k s G cs hk I sm gS lcs prs sa sb fp st
    obtain ⟨its, rv, p, _⟩ := I.tuple sa
    obtain ⟨its2, rv2, p2, _⟩ := I.tuple sb
    have hx : xs[k]? = some xs[k] := List.getElem?_eq_getElem (by omega)
    have hy : ys[k]? = some ys[k] := List.getElem?_eq_getElem (by omega)
    generalize xs[k] = x at hx
    generalize ys[k] = y at hy
    obtain ⟨u, hu, ru⟩ := rv.get hx
    obtain ⟨u2, hu2, ru2⟩ := rv2.get hy
    refine codeAny_builtin F.entry_extend_loop ?_
    rw [Around.under_plainId F.plain_extend_loop _]
    show wpAny _ A.in1 (pyNext (.ref z) >>= _) _ _ s
    obtain ⟨zip, ti, ⟨x0, y0, to⟩, it1, it2⟩ := st
    have lt : ∀ {c o}, s.heap.get? c = some o → s.heap.objs.size ≠ c := fun e => Nat.ne_of_gt (Heap.lt_size e)
    have nz : s.heap.objs.size ≠ z := by
      rcases zip with q | ⟨_, _, _, q, _⟩
      · exact lt q
      · exact lt q
    have nTI := lt ti
    have nTO := lt to
    have n1 : s.heap.objs.size ≠ i1 := by obtain ⟨_, e, _⟩ := it1; exact lt e
    have n2 : s.heap.objs.size ≠ i2 := by obtain ⟨_, e, _⟩ := it2; exact lt e
    have on : ∀ h' : Heap, (∀ c o, c ∉ [z, TI, TO, i1, i2] → s.heap.get? c = some o → h'.get? c = some o) → IsPair h' s.heap.objs.size u u2 → ZSt h' z TI TO i1 i2 a b (k + 1) →
        wpAny (model X.prog X.w) A.in1 (updateSeq S (·.push (.ref s.heap.objs.size)) >>= fun _ => again (.builtin "list.extend.loop" ⟨[.ref S, .ref z, res], []⟩))
          (fun fin s' => match fin with | .done f => R (.ok f) s' | .again c' => c'.quiet = true ∧ codeAny (model X.prog X.w) A c' R s') (fun e s' => R (.error e) s') { s with heap := h' } := by
      intro h' hk' hp st'
      have new : ObjOk X.prog X.w (upd G s.heap.objs.size (.tup [x, y])) h' s.heap.objs.size (.tup [x, y]) := ⟨by show 2 ≤ sizeLine; decide, [u, u2], .cons ru (.cons ru2 .nil), ⟨_, hp, rfl, _, rfl⟩⟩
      have fr := I.hok.fresh (Nat.le_refl s.heap.objs.size)
      have I1 : Inv X pins σ (upd G s.heap.objs.size (.tup [x, y])) { s with heap := h' } := I.turnedNew (t' := s.toks) (ch := [z, TI, TO, i1, i2]) hk' fp (Nat.le_refl _) new
      have k1 : Same G (upd G s.heap.objs.size (.tup [x, y])) := fun c o e => by
        rw [upd_ne (ne_of_none e fr)]
        exact e
      have gS1 := k1 _ _ gS
      have m1 : (upd G s.heap.objs.size (.tup [x, y])) s.heap.objs.size = some (.tup [x, y]) := upd_same
      have fp1 : ∀ c ∈ [z, TI, TO, i1, i2], FpOk X pins (upd G s.heap.objs.size (.tup [x, y])) c := by
        intro c hc
        obtain ⟨q1, q2⟩ := fp c hc
        refine ⟨?_, q2⟩
        rw [upd_ne (fun q => ?_)]
        · exact q1
        · simp only [List.mem_cons, List.mem_nil_iff, or_false] at hc
          rcases hc with e | e | e | e | e <;> rw [e] at q <;> first | exact nz q.symm | exact nTI q.symm | exact nTO q.symm | exact n1 q.symm | exact n2 q.symm
      have sa1 : SqT X.K (upd G s.heap.objs.size (.tup [x, y])) a xs := by
        rcases sa with (q | ⟨o, q⟩) | q
        · exact .inl (.inl (k1 _ _ q))
        · exact .inl (.inr ⟨o, k1 _ _ q⟩)
        · exact .inr q
      have sb1 : SqT X.K (upd G s.heap.objs.size (.tup [x, y])) b ys := by
        rcases sb with (q | ⟨o, q⟩) | q
        · exact .inl (.inl (k1 _ _ q))
        · exact .inl (.inr ⟨o, k1 _ _ q⟩)
        · exact .inr q
      have prs1 : Prs (upd G s.heap.objs.size (.tup [x, y])) xs ys cs := fun i c e => by
        obtain ⟨x', y', q1, q2, q3⟩ := prs i c e
        exact ⟨x', y', q1, q2, k1 _ _ q3⟩
      have sm1 : Same H (upd G s.heap.objs.size (.tup [x, y])) := fun c o e => k1 _ _ (sm _ _ e)
      generalize upd G s.heap.objs.size (.tup [x, y]) = G1 at I1 gS1 m1 fp1 sa1 sb1 prs1 sm1
      clear new fr k1
      obtain ⟨_, itsS, nn, rS, hlS, eS⟩ := I1.lstM gS1
      have lS := rS.length
      rw [List.length_map] at lS
      have I2 : Inv X pins σ (upd G1 S (.lst (cs.map V.ref ++ [.ref s.heap.objs.size]))) { ({ s with heap := h' } : Shared) with heap := h'.update S (Obj.mapSeq (·.push (.ref s.heap.objs.size))), toks := s.toks } :=
        I1.lset (its' := itsS ++ [Value.ref s.heap.objs.size]) gS1 eS (by simp) (rS.append (.cons (show L2.RelV (V.ref s.heap.objs.size) (Value.ref s.heap.objs.size) from rfl) .nil)) (by rw [List.length_append, List.length_map, List.length_singleton]; omega)
      have offS : ∀ c ∈ [z, TI, TO, i1, i2], c ≠ S := fun c hc q => by
        have := (fp1 c hc).1
        rw [q, gS1] at this
        cases this
      refine wpAny_bind (wpAny_updateSeq eS rfl (wpAny_pure ⟨plainId_quiet F.plain_extend_loop _, ?_⟩) (by rw [List.size_toArray]; omega) (by show (itsS.toArray.push _).size ≤ sizeLine + 1; rw [Array.size_push, List.size_toArray]; omega))
      have other : ∀ {c o}, c ≠ S → h'.get? c = some o → (h'.update S (Obj.mapSeq (·.push (.ref s.heap.objs.size)))).get? c = some o := fun n e => (Heap.get?_update_other _ _ (Ne.symm n)).trans e
      have bS : ∀ {c o}, G1 c = some o → (∀ l, o ≠ .lst l) → c ≠ S := fun e n q => by
        rw [q, gS1] at e
        exact n _ (Option.some.inj e).symm
      have k2 : ∀ {c o}, G1 c = some o → (∀ l, o ≠ .lst l) → (upd G1 S (.lst (cs.map V.ref ++ [.ref s.heap.objs.size]))) c = some o := fun e n => by
        rw [upd_ne (bS e n)]
        exact e
      refine ih (k + 1) _ (upd G1 S (.lst (cs.map V.ref ++ [.ref s.heap.objs.size]))) (cs ++ [s.heap.objs.size]) (by omega) I2 (fun c o e => ?_) (by rw [List.map_append]; exact upd_same) (by rw [List.length_append, List.length_singleton, lcs]) ?_ ?_ ?_ ?_ ?_
      · rw [upd_ne (ne_of_none e nS)]
        exact sm1 _ _ e
      · intro i c e
        rw [List.getElem?_append] at e
        split at e
        · obtain ⟨x', y', q1, q2, q3⟩ := prs1 i c e
          exact ⟨x', y', q1, q2, k2 q3 (by intro l q; cases q)⟩
        · rename_i hlt
          have i0 : i = k := by
            cases hi : i - cs.length with
            | zero => omega
            | succ j =>
              rw [hi] at e
              cases e
          subst i0
          rw [lcs, Nat.sub_self] at e
          cases e
          exact ⟨x, y, hx, hy, k2 m1 (by intro l q; cases q)⟩
      · rcases sa1 with (q | ⟨o, q⟩) | q
        · exact .inl (.inl (k2 q (by intro l q; cases q)))
        · exact .inl (.inr ⟨o, k2 q (by intro l q; cases q)⟩)
        · exact .inr q
      · rcases sb1 with (q | ⟨o, q⟩) | q
        · exact .inl (.inl (k2 q (by intro l q; cases q)))
        · exact .inl (.inr ⟨o, k2 q (by intro l q; cases q)⟩)
        · exact .inr q
      · intro c hc
        obtain ⟨q1, q2⟩ := fp1 c hc
        exact ⟨by rw [upd_ne (offS c hc)]; exact q1, q2⟩
      · obtain ⟨zip', ti', ⟨x1, y1, to'⟩, it1', it2'⟩ := st'
        refine ⟨?_, other (offS TI (by simp)) ti', ⟨x1, y1, other (offS TO (by simp)) to'⟩, it1'.at fun o e => other (offS i1 (by simp)) e, it2'.at fun o e => other (offS i2 (by simp)) e⟩
        rcases zip' with q | ⟨c, bb, oa, q, al, r⟩
        · exact .inl (other (offS z (by simp)) q)
        · by_cases hc : c = S
          · have al' := al
            rw [hc, eS] at al'
            cases al'
            have e5 := Heap.get?_update_self (Obj.mapSeq (·.push (.ref s.heap.objs.size))) eS rfl
            exact .inr ⟨c, bb, _, other (offS z (by simp)) q, by rw [hc]; exact e5, r⟩
          · exact .inr ⟨c, bb, oa, other (offS z (by simp)) q, other hc al, r⟩
    rcases zip with zip | ⟨c, bb, oa, zip, alive, c1, c2, c3, c4, c5⟩
    · refine wpAny_bind (pyNext_zipT_item (A := A.in1) D zip ti to it1 it2 p p2 (x := u) (y := u2) (by simpa using hu) (by simpa using hu2) fun h' z' TO' h1' h2' hT hsz hk' => ?_)
      refine on h' (fun c o hc e => hk' c o (fun q => hc (by simp [q])) (fun q => hc (by simp [q])) (fun q => hc (by simp [q])) (fun q => hc (by simp [q])) e) hT ?_
      exact ⟨.inr ⟨_, false, _, z', hT, nz, nTI, nTO, n1, n2⟩, hk' _ _ D.TIz D.TITO D.TIi1 D.TIi2 ti, ⟨_, _, TO'⟩, h1', h2'⟩
    · refine wpAny_bind (pyNext2_item (A := A.in1) D zip alive ti it1 it2 p p2 (x := u) (y := u2) (by simpa using hu) (by simpa using hu2) fun h' z' h1' h2' hT hsz hk' => ?_)
      refine on h' (fun c o hc e => hk' c o (fun q => hc (by simp [q])) (fun q => hc (by simp [q])) (fun q => hc (by simp [q])) e) hT ?_
      exact ⟨.inr ⟨c, true, oa, z', hk' _ _ c1 c4 c5 alive, c1, c2, c3, c4, c5⟩, hk' _ _ D.TIz D.TIi1 D.TIi2 ti, ⟨_, _, hk' _ _ D.TOz D.TOi1 D.TOi2 to⟩, h1', h2'⟩
end
end Zl

/-! list(zip(t, u)) as an expression. -/
namespace Zl
open PySem PySem.Spec PySem.Calls PyProof.Rows L2 RZ
theorem zip_no_len : typeLookup (.type "zip") "__len__" = pure none := by rw [typeLookup_type, builtinLookup_eq_fast]; kernel_rfl
theorem zip_no_hint : typeLookup (.type "zip") "__length_hint__" = pure none := by rw [typeLookup_type, builtinLookup_eq_fast]; kernel_rfl
section
variable {X : Cx} {pins : List (Addr × Obj)} {σ : L2.St}
theorem extend {A : Around} {R : Result → Shared → Prop} {S z TI TO i1 i2 a b : Addr} {xs ys : List V} {res : Value} {H G : Hp} {s : Shared} (hh : A.handled = none) (D : ZipApart z TI TO i1 i2 a b) (len : xs.length = ys.length) (few : xs.length ≤ sizeLine) (nS : H S = none)
    (I : Inv X pins σ G s) (sm : Same H G) (gS : G S = some (.lst [])) (sa : SqT X.K G a xs) (sb : SqT X.K G b ys) (fp : ∀ c ∈ [z, TI, TO, i1, i2], FpOk X pins G c) (zip : IsZip s.heap z TI TO .none) (ti : IsPair s.heap TI (.ref i1) (.ref i2)) (to : IsPair s.heap TO .none .none) (it1 : s.heap.IsTupleIter i1 a 0) (it2 : s.heap.IsTupleIter i2 b 0)
    (hR : ∀ s' G' cs, Inv X pins σ G' s' → Same H G' → G' S = some (.lst (cs.map V.ref)) → cs.length = xs.length → Prs G' xs ys cs → R (.ok (.ret res)) s') :
    wpAny (model X.prog X.w) A.in1 (Builtin.List.listExtendWith (.ref S) (.ref z) res)
      (fun fin s' => match fin with | .done f => R (.ok f) s' | .again c' => c'.quiet = true ∧ codeAny (model X.prog X.w) A c' R s') (fun e s' => R (.error e) s') s := by
  have offS : ∀ c ∈ [z, TI, TO, i1, i2], c ≠ S := fun c hc q => by
    have := (fp c hc).1
    rw [q, gS] at this
    cases this
  have hT : s.TypeIs (.ref z) "zip" := ⟨_, zip, rfl⟩
  unfold Builtin.List.listExtendWith
  refine wpAny_bind (wpAny_typeOf hT ?_)
  have h1 : Builtin.List.listSameRef (.ref S) (.ref z) = false := by simp [Builtin.List.listSameRef, Ne.symm (offS z (by simp))]
  have h2 : (Value.type "zip" == Value.type "list") = false := by decide
  have h3 : (Value.type "zip" == Value.type "tuple") = false := by decide
  simp only [h1, h2, h3, Bool.or_false, Bool.false_eq_true, if_false]
  refine wpAny_bind (wpAny_pyIter_zip zip ?_)
  refine wpAny_bind (wpAny_holding ?_)
  unfold Builtin.List.listLengthHint
  refine wpAny_bind (wpAny_specialOf hT zip_no_len ?_)
  show wpAny _ A.in1 (specialOf (Value.ref z) (Str.ofString "__length_hint__") >>= _) _ _ _
  refine wpAny_bind (wpAny_specialOf hT zip_no_hint ?_)
  refine wpAny_pure ?_
  show wpAny _ A.in1 (rule "list.extend.makes-room" >>= fun _ => Builtin.List.listTouch (.ref S) >>= fun _ =>
    again (.builtin "list.extend.loop" ⟨[.ref S, .ref z, res], []⟩)) _ _ _
  refine wpAny_bind (wpAny_rule ?_)
  refine wpAny_bind ?_
  show wpAny _ A.in1 (updateSeq S (·.push .none) >>= fun _ => updateSeq S (·.pop)) _ _ _
  obtain ⟨_, its, nn, r0, hl0, e0⟩ := I.lstM gS
  have i0 : its = [] := by cases r0; rfl
  subst i0
  refine wpAny_bind (wpAny_updateSeq e0 rfl ?_)
  have I1 : Inv X pins σ (upd G S (.lst [.non])) { s with heap := s.heap.update S (Obj.mapSeq (·.push .none)), toks := s.toks } := I.lset (its' := [Value.none]) gS e0 (by simp) (.cons (show L2.RelV V.non Value.none from rfl) .nil) (by show 1 ≤ sizeLine; decide)
  have g1 : (upd G S (.lst [.non])) S = some (.lst [.non]) := upd_same
  have e1 := Heap.get?_update_self (Obj.mapSeq (·.push Value.none)) e0 rfl
  refine wpAny_updateSeq (hz := by seq_fits) e1 rfl ?_
  have I2 : Inv X pins σ (upd (upd G S (.lst [.non])) S (.lst [])) { ({ s with heap := s.heap.update S (Obj.mapSeq (·.push .none)) } : Shared) with heap := (s.heap.update S (Obj.mapSeq (·.push .none))).update S (Obj.mapSeq (·.pop)), toks := s.toks } := by
    obtain ⟨_, its2, nn2, r2, hl2, e2⟩ := I1.lstM g1
    obtain ⟨u0, rfl, _⟩ := Vals.one r2
    exact I1.lset (its := [u0]) (its' := []) g1 e2 (by simp) .nil (Nat.zero_le _)
  have other : ∀ {c o}, c ≠ S → s.heap.get? c = some o → ((s.heap.update S (Obj.mapSeq (·.push .none))).update S (Obj.mapSeq (·.pop))).get? c = some o := fun n e => (Heap.get?_update_other _ _ (Ne.symm n)).trans ((Heap.get?_update_other _ _ (Ne.symm n)).trans e)
  have k2 : ∀ {c o}, G c = some o → (∀ l, o ≠ .lst l) → (upd (upd G S (.lst [.non])) S (.lst [])) c = some o := fun {c o} e n => by
    have q : c ≠ S := fun q => by
      rw [q, gS] at e
      exact n _ (Option.some.inj e).symm
    rw [upd_ne q, upd_ne q]
    exact e
  refine wpAny_pure ⟨plainId_quiet F.plain_extend_loop _, loop hh D len few nS hR xs.length 0 _ _ [] (by omega) I2 (fun c o e => ?_) upd_same rfl (fun i c e => nomatch e) ?_ ?_ (fun c hc => ?_) ⟨.inl (other (offS z (by simp)) zip), other (offS TI (by simp)) ti, ⟨_, _, other (offS TO (by simp)) to⟩, it1.at fun o e => other (offS i1 (by simp)) e, it2.at fun o e => other (offS i2 (by simp)) e⟩⟩
  · rw [upd_ne (ne_of_none e nS), upd_ne (ne_of_none e nS)]
    exact sm _ _ e
  · rcases sa with (q | ⟨o, q⟩) | q
    · exact .inl (.inl (k2 q (by intro l q; cases q)))
    · exact .inl (.inr ⟨o, k2 q (by intro l q; cases q)⟩)
    · exact .inr q
  · rcases sb with (q | ⟨o, q⟩) | q
    · exact .inl (.inl (k2 q (by intro l q; cases q)))
    · exact .inl (.inr ⟨o, k2 q (by intro l q; cases q)⟩)
    · exact .inr q
  · obtain ⟨q1, q2⟩ := fp c hc
    exact ⟨by rw [upd_ne (offS c hc), upd_ne (offS c hc)]; exact q1, q2⟩
def tListZip (K : PySem.W.Frag) (ta : TA) : TE := fun σ H Q => ta σ H fun vs H1 => ∃ a b xs ys, vs = [.ref a, .ref b] ∧ SqT K H1 a xs ∧ SqT K H1 b ys ∧ xs.length = ys.length ∧
  ∀ G p cs, Same H1 G → H1 p = none → G p = some (.lst (cs.map V.ref)) → cs.length = xs.length → Prs G xs ys cs → Q (.ref p) G
theorem pe_listZip {e1 e2 : Expr} {ta : TA} {p p2 pos pos2 : Pos} (ha : PA X [e1, e2] ta) (hgl : Gl X "list") (hml : X.mg "list" = none) (hgz : Gl X "zip") (hmz : X.mg "zip" = none) (calm : X.calm = true)
    (hs : starEach [e1, e2] X.env = (false, eval e1 X.env) :: starEach [e2] X.env := by rfl) (hpl : (backTo pos2 (starEach [e2] X.env)).any (·.1) = false := by rfl)
    (he : starEach [.Call (.Name "zip" p2) [e1, e2] [] pos2] X.env = (false, eval (.Call (.Name "zip" p2) [e1, e2] [] pos2) X.env) :: starEach [] X.env := by rfl) :
    PE X (.Call (.Name "list" p) [.Call (.Name "zip" p2) [e1, e2] [] pos2] [] pos) (tListZip X.K ta) := by
  refine ⟨fun pins s σ H Q I h => ?_⟩
  refine wpAny_Call_Name_kw (ld_blt I hgl hml boot_list ?_)
  refine PyProof.Rows.callWith_type1 ?_ he rfl
  rw [he]
  show wpAny _ _ (spliced ((false, eval _ X.env) :: backTo pos (starEach [] X.env))) _ _ s
  refine Calls.spliced_cons ?_
  refine wpAny_Call_Name_kw (ld_blt I hgz hmz PyProof.Rows.boot_zip (PyProof.Rows.callWith_type1 (thn (ha.run pos2 pins s σ H _ I h) fun us s1 ⟨vs, H1, I1, r1, q1⟩ => ?_) hs hpl))
  obtain ⟨a, b, xs, ys, ex, sa, sb, len, q⟩ := q1
  subst ex
  cases r1 with
  | cons r rr =>
    cases rr with
    | cons r' rr =>
      cases rr
      cases r
      cases r'
      obtain ⟨its, rv, p1, few⟩ := I1.tuple sa
      obtain ⟨its2, rv2, p2, _⟩ := I1.tuple sb
      have la : a < s1.heap.objs.size := p1.lt
      have lb : b < s1.heap.objs.size := p2.lt
      refine call_zipT p1 p2 fun h' hz hTI hTO h1 h2 hsz hk => ?_
      refine Calls.spliced_nil ?_
      have I2 : Inv X pins σ H1 { s1 with heap := h' } := I1.kept (t' := s1.toks) hk
      have fp2 : ∀ c ∈ [s1.heap.objs.size + 4, s1.heap.objs.size + 2, s1.heap.objs.size + 3, s1.heap.objs.size, s1.heap.objs.size + 1], FpOk X pins H1 c ∧ c < h'.objs.size := by
        intro c hcm
        have e' : c = s1.heap.objs.size + 4 ∨ c = s1.heap.objs.size + 2 ∨ c = s1.heap.objs.size + 3 ∨ c = s1.heap.objs.size ∨ c = s1.heap.objs.size + 1 := by simpa using hcm
        have hle : s1.heap.objs.size ≤ c := by
          rcases e' with z | z | z | z | z <;> rw [z] <;> omega
        refine ⟨I1.fpOk hle (I1.hok.fresh hle), ?_⟩
        rcases e' with z | z | z | z | z <;> rw [z, hsz] <;> omega
      have nS : H1 h'.objs.size = none := I2.hok.fresh (Nat.le_refl _)
      refine callType_codes (Q₁ := fun obj s₁ => obj = .ref h'.objs.size ∧ s₁ = { ({ s1 with heap := h' } : Shared) with heap := h'.push { cls := .type "list", data := .seq #[] } }) F.called_list (F.typeCall_list_1 _) F.entry_list_init
        (code_list_new _ ⟨rfl, rfl⟩) fun obj s₁ h₁ => ?_
      obtain ⟨rfl, rfl⟩ := h₁
      have hS : (h'.push { cls := .type "list", data := .seq #[] }).get? h'.objs.size = some { cls := .type "list", data := .seq #[] } := Heap.get?_push_size _ rfl
      have I3 : Inv X pins σ (upd H1 h'.objs.size (.lst [])) { ({ s1 with heap := h' } : Shared) with heap := h'.push { cls := .type "list", data := .seq #[] }, toks := s1.toks } := I2.lnew (its := []) .nil (Nat.zero_le _)
      have g3 : (upd H1 h'.objs.size (.lst [])) h'.objs.size = some (.lst []) := upd_same
      refine ⟨⟨_, hS, rfl⟩, F.args_list_init_2 _ _, ?_⟩
      show wpAny _ _ (do let old ← Builtin.List.listItems (.ref h'.objs.size); Builtin.List.listUpdate (.ref h'.objs.size) (fun _ => #[]); letGo old.toList.reverse; Builtin.List.listExtendWith (.ref h'.objs.size) (.ref (s1.heap.objs.size + 4)) .none) _ _ _
      refine wpAny_bind ?_
      unfold Builtin.List.listItems
      refine wpAny_bind (wpAny_seqItems hS rfl (wpAny_pure ?_))
      show wpAny _ _ (updateSeq h'.objs.size (fun _ => #[]) >>= fun _ => letGo (#[] : Array Value).toList.reverse >>= fun _ => Builtin.List.listExtendWith (.ref h'.objs.size) (.ref (s1.heap.objs.size + 4)) .none) _ _ _
      refine wpAny_bind (wpAny_updateSeq hS rfl ?_)
      have I4 : Inv X pins σ (upd (upd H1 h'.objs.size (.lst [])) h'.objs.size (.lst [])) { ({ s1 with heap := h' } : Shared) with heap := (h'.push { cls := .type "list", data := .seq #[] }).update h'.objs.size (Obj.mapSeq (fun _ => (#[] : Array Value))), toks := s1.toks } :=
        I3.lset (its := []) (its' := []) (n := 0) g3 hS rfl .nil (Nat.zero_le _)
      have other : ∀ {c o}, h'.get? c = some o → ((h'.push { cls := .type "list", data := .seq #[] }).update h'.objs.size (Obj.mapSeq (fun _ => (#[] : Array Value)))).get? c = some o := fun e =>
        (Heap.get?_update_other _ _ (Ne.symm (Nat.ne_of_lt (Heap.lt_size e)))).trans (Heap.get?_push_of_some _ e)
      refine wpAny_bind (wpAny_letGo ?_)
      have k4 : Same H1 (upd (upd H1 h'.objs.size (.lst [])) h'.objs.size (.lst [])) := fun c o e => by
        rw [upd_ne (ne_of_none e nS), upd_ne (ne_of_none e nS)]
        exact e
      have sq : ∀ {c : Addr} {zs : List V}, SqT X.K H1 c zs → SqT X.K (upd (upd H1 h'.objs.size (.lst [])) h'.objs.size (.lst [])) c zs := fun h => by
        rcases h with (q | ⟨o, q⟩) | q
        · exact .inl (.inl (k4 _ _ q))
        · exact .inl (.inr ⟨o, k4 _ _ q⟩)
        · exact .inr q
      refine extend (a := a) (b := b) (I.ok.hd calm) (PySem.W.ktu_apart s1.heap.objs.size a b la lb) len few nS I4 k4 upd_same (sq sa) (sq sb) (fun c hc => ?_) (other hz) (other hTI) (other hTO) (h1.at fun o e => other e) (h2.at fun o e => other e) fun s' G' cs J s4 gS lcs prs => ?_
      · obtain ⟨⟨q1, q2⟩, q3⟩ := fp2 c hc
        have n := Nat.ne_of_lt q3
        exact ⟨by rw [upd_ne n, upd_ne n]; exact q1, q2⟩
      · exact ⟨rfl, .ref h'.objs.size, G', J, rfl, q G' _ cs s4 nS gS lcs prs⟩
end
end Zl

/-! Matching, as a plain function. -/
namespace Ad
open PySem PySem.Spec PySem.Calls PyProof.Rows L2
theorem eqvAll_cons (a b : PyData) (as bs : List PyData) : PyData.eqvAll (a :: as) (b :: bs) = (PyData.eqv a b && PyData.eqvAll as bs) := by
  first
    | rfl
    | rw [PyData.eqvAll]
    | simp only [PyData.eqvAll]
namespace T
mutual
theorem eqv_eq : ∀ t u : T, PyData.eqv t.d u.d = true → t = u
  | .v i, .v j, h => by
    have e : PyData.eqv (.int i) (.int j) = (i == j) := by rw [PyData.eqv]
    have h' : (i == j) = true := by rw [← e]; exact h
    rw [eq_of_beq h']
  | .v i, .f x ts, h => by
    have e : PyData.eqv (.int i) (.tuple (.str x :: ds ts)) = false := by rw [PyData.eqv]
    have h' : PyData.eqv (.int i) (.tuple (.str x :: ds ts)) = true := h
    rw [e] at h'
    cases h'
  | .f x ts, .v i, h => by
    have e : PyData.eqv (.tuple (.str x :: ds ts)) (.int i) = false := by rw [PyData.eqv]
    have h' : PyData.eqv (.tuple (.str x :: ds ts)) (.int i) = true := h
    rw [e] at h'
    cases h'
  | .f x ts, .f y us, h => by
    have e : PyData.eqv (.tuple (.str x :: ds ts)) (.tuple (.str y :: ds us)) = (PyData.eqv (.str x) (.str y) && PyData.eqvAll (ds ts) (ds us)) := by
      rw [← eqvAll_cons]
      have e0 : ∀ as bs : List PyData, PyData.eqv (.tuple as) (.tuple bs) = PyData.eqvAll as bs := fun as bs => by rw [PyData.eqv]
      exact e0 _ _
    have h' : PyData.eqv (.tuple (.str x :: ds ts)) (.tuple (.str y :: ds us)) = true := h
    have es : PyData.eqv (.str x) (.str y) = (x == y) := by rw [PyData.eqv]
    rw [e, es, Bool.and_eq_true] at h'
    rw [eq_of_beq h'.1, eqvs_eq ts us h'.2]
theorem eqvs_eq : ∀ ts us : List T, PyData.eqvAll (ds ts) (ds us) = true → ts = us
  | [], [], _ => rfl
  | [], u :: us, h => by
    have e : PyData.eqvAll [] (d u :: ds us) = false := by rw [PyData.eqvAll]
    have h' : PyData.eqvAll [] (d u :: ds us) = true := h
    rw [e] at h'
    cases h'
  | t :: ts, [], h => by
    have e : PyData.eqvAll (d t :: ds ts) [] = false := by rw [PyData.eqvAll]
    have h' : PyData.eqvAll (d t :: ds ts) [] = true := h
    rw [e] at h'
    cases h'
  | t :: ts, u :: us, h => by
    have e : PyData.eqvAll (d t :: ds ts) (d u :: ds us) = (PyData.eqv (d t) (d u) && PyData.eqvAll (ds ts) (ds us)) := eqvAll_cons _ _ _ _
    have h' : PyData.eqvAll (d t :: ds ts) (d u :: ds us) = true := h
    rw [e, Bool.and_eq_true] at h'
    rw [eqv_eq t u h'.1, eqvs_eq ts us h'.2]
end
theorem mem_varsL {p : T} {j : Int} : ∀ {ps : List T}, p ∈ ps → j ∈ p.vars → j ∈ varsL ps
  | q :: ps, h, hj => by
    rcases List.mem_cons.mp h with w | w
    · exact List.mem_append_left _ (by rw [← w]; exact hj)
    · exact List.mem_append_right _ (mem_varsL w hj)
/-- a name and arguments like those of another term -/
def alike (x : Str) (ps : List T) : T → Bool
  | .v _ => false
  | .f y ts => decide (ps.length = ts.length) && decide (x = y)
end T
/-- a row of pairs, how large its first sides are -/
def psz : List (T × T) → Nat
  | [] => 0
  | e :: r => e.1.size + psz r
theorem psz_app : ∀ a b : List (T × T), psz (a ++ b) = psz a + psz b
  | [], b => (Nat.zero_add _).symm
  | e :: a, b => by
    show e.1.size + psz (a ++ b) = e.1.size + psz a + psz b
    rw [psz_app a b, Nat.add_assoc]
theorem psz_rev (a : List (T × T)) : psz a.reverse = psz a := by
  induction a with
  | nil => rfl
  | cons e a ih =>
    rw [List.reverse_cons, psz_app, ih]
    show psz a + (e.1.size + 0) = e.1.size + psz a
    omega
theorem psz_zip : ∀ ps ts : List T, psz (ps.zip ts) ≤ T.sizeL ps
  | [], _ => Nat.zero_le _
  | p :: ps, [] => Nat.zero_le _
  | p :: ps, t :: ts => by
    have := psz_zip ps ts
    show p.size + psz (ps.zip ts) ≤ T.size p + T.sizeL ps
    omega
theorem psz_len : ∀ a : List (T × T), a.length ≤ psz a
  | [] => Nat.le_refl _
  | e :: a => by
    have h1 := psz_len a
    have h2 := e.1.size_pos
    show a.length + 1 ≤ e.1.size + psz a
    omega
/-- matching; the last pair of the row is the first here -/
def mt : Nat → Sb → List (T × T) → Option Sb
  | 0, _, _ => none
  | _ + 1, tb, [] => some tb
  | n + 1, tb, (.v i, t) :: r => match tb.look i with
    | some u => if PyData.eqv u.d t.d = true then mt n tb r else none
    | none => mt n (tb.put i t) r
  | n + 1, tb, (.f x ps, .f y ts) :: r => if T.alike x ps (.f y ts) = true then mt n tb ((ps.zip ts).reverse ++ r) else none
  | _ + 1, _, (.f _ _, .v _) :: _ => none
theorem Sb.put_same {tb : Sb} {i : Int} {t : T} (nd : (tb.map (·.1)).Nodup) (h : tb.look i = some t) : tb.put i t = tb := by
  unfold Sb.put
  rw [h, if_pos (show (some t).isSome = true from rfl)]
  have key : ∀ e ∈ tb, (if e.1 = i then (e.1, t) else e) = e := by
    intro e he
    split
    · rename_i z
      have := (Sb.mem_look nd (i := e.1) (t := e.2)).1 he
      rw [z, h] at this
      rw [Option.some.inj this]
    · rfl
  have := List.map_congr_left key
  rw [this]
  exact List.map_id' _
/-- what holds of all that stands in the result -/
theorem mt_all {P : T → Prop} {Kp : Int → Prop} (hP : ∀ x ts, P (.f x ts) → ∀ u ∈ ts, P u) : ∀ (n : Nat) (tb : Sb) (es : List (T × T)) (tb' : Sb), mt n tb es = some tb' → (∀ e ∈ tb, Kp e.1 ∧ P e.2) → (∀ e ∈ es, (∀ j ∈ e.1.vars, Kp j) ∧ P e.2) → ∀ e ∈ tb', Kp e.1 ∧ P e.2
  | 0, _, _, _, h, _, _ => nomatch h
  | n + 1, tb, [], tb', h, h1, _ => by
    cases (show some tb = some tb' from h)
    exact h1
  | n + 1, tb, (.v i, t) :: r, tb', h, h1, h2 => by
    have h' : (match tb.look i with | some u => if PyData.eqv u.d t.d = true then mt n tb r else none | none => mt n (tb.put i t) r) = some tb' := h
    obtain ⟨k0, p0⟩ := h2 _ List.mem_cons_self
    have hr : ∀ e ∈ r, (∀ j ∈ e.1.vars, Kp j) ∧ P e.2 := fun e he => h2 e (List.mem_cons_of_mem _ he)
    cases lk : tb.look i with
    | some u =>
      rw [lk] at h'
      by_cases z : PyData.eqv u.d t.d = true
      · have h'' : mt n tb r = some tb' := by
          have e := h'
          simp only [z, if_true] at e
          exact e
        exact mt_all hP n tb r tb' h'' h1 hr
      · have e := h'
        simp only [z, if_false] at e
        cases e
    | none =>
      rw [lk] at h'
      refine mt_all hP n _ r tb' h' (fun e he => ?_) hr
      rcases Sb.mem_put he with z | z
      · rw [z]
        exact ⟨k0 i List.mem_cons_self, p0⟩
      · exact h1 e z
  | n + 1, tb, (.f x ps, .f y ts) :: r, tb', h, h1, h2 => by
    have h' : (if T.alike x ps (.f y ts) = true then mt n tb ((ps.zip ts).reverse ++ r) else none) = some tb' := h
    by_cases z : T.alike x ps (.f y ts) = true
    · rw [if_pos z] at h'
      obtain ⟨k0, p0⟩ := h2 _ List.mem_cons_self
      refine mt_all hP n tb _ tb' h' h1 fun e he => ?_
      rcases List.mem_append.mp he with q | q
      · have q' := List.mem_reverse.mp q
        obtain ⟨q1, q2⟩ : e.1 ∈ ps ∧ e.2 ∈ ts := List.of_mem_zip q'
        refine ⟨fun j hj => k0 j ?_, hP y ts p0 _ q2⟩
        exact T.mem_varsL q1 hj
      · exact h2 e (List.mem_cons_of_mem _ q)
    · rw [if_neg z] at h'
      cases h'
  | n + 1, tb, (.f x ps, .v i) :: r, tb', h, _, _ => nomatch (show none = some tb' from h)
end Ad

/-! Chains as data of any kind: what they lead to. -/
namespace Ad
open PySem PySem.Spec PySem.Calls PyProof.Rows L2
def tyD : PyData → Value
  | .none => .type "NoneType"
  | .bool _ => .type "bool"
  | .int _ => .type "int"
  | .str _ => .type "str"
  | .list _ => .type "list"
  | .tuple _ => .type "tuple"
  | .dict _ => .type "dict"
theorem dp_ty {K : PySem.W.Frag} {H : Hp} {v : V} {d : PyData} (h : Dp K H v d) : TyX K H v (tyD d) := by
  cases h with
  | non => exact .base .non
  | bl b => exact .base (.bl b)
  | int i => exact .base (.int i)
  | str x => exact .base (.str x)
  | lst h _ => exact lsq_ty h
  | tup h _ => exact sq_ty h
def isTu : PyData → Bool
  | .tuple _ => true
  | _ => false
def isIn : PyData → Bool
  | .int _ => true
  | .bool _ => true
  | _ => false
def isBo : PyData → Bool
  | .bool _ => true
  | _ => false
theorem kit_tu {K : PySem.W.Frag} : ∀ d : PyData, PySem.W.kitOne K (tyD d) (.type "tuple") = some (isTu d)
  | .none => kit_ty (a := "NoneType") (b := "tuple") (r := false) (by decide +kernel)
  | .bool _ => kit_ty (a := "bool") (b := "tuple") (r := false) (by decide +kernel)
  | .int _ => kit_ty (a := "int") (b := "tuple") (r := false) (by decide +kernel)
  | .str _ => kit_ty (a := "str") (b := "tuple") (r := false) (by decide +kernel)
  | .list _ => kit_ty (a := "list") (b := "tuple") (r := false) (by decide +kernel)
  | .tuple _ => kit_ty (a := "tuple") (b := "tuple") (r := true) (by decide +kernel)
  | .dict _ => kit_ty (a := "dict") (b := "tuple") (r := false) (by decide +kernel)
theorem kit_in {K : PySem.W.Frag} : ∀ d : PyData, PySem.W.kitOne K (tyD d) (.type "int") = some (isIn d)
  | .none => kit_ty (a := "NoneType") (b := "int") (r := false) (by decide +kernel)
  | .bool _ => kit_ty (a := "bool") (b := "int") (r := true) (by decide +kernel)
  | .int _ => kit_ty (a := "int") (b := "int") (r := true) (by decide +kernel)
  | .str _ => kit_ty (a := "str") (b := "int") (r := false) (by decide +kernel)
  | .list _ => kit_ty (a := "list") (b := "int") (r := false) (by decide +kernel)
  | .tuple _ => kit_ty (a := "tuple") (b := "int") (r := false) (by decide +kernel)
  | .dict _ => kit_ty (a := "dict") (b := "int") (r := false) (by decide +kernel)
theorem kit_bo {K : PySem.W.Frag} : ∀ d : PyData, PySem.W.kitOne K (tyD d) (.type "bool") = some (isBo d)
  | .none => kit_ty (a := "NoneType") (b := "bool") (r := false) (by decide +kernel)
  | .bool _ => kit_ty (a := "bool") (b := "bool") (r := true) (by decide +kernel)
  | .int _ => kit_ty (a := "int") (b := "bool") (r := false) (by decide +kernel)
  | .str _ => kit_ty (a := "str") (b := "bool") (r := false) (by decide +kernel)
  | .list _ => kit_ty (a := "list") (b := "bool") (r := false) (by decide +kernel)
  | .tuple _ => kit_ty (a := "tuple") (b := "bool") (r := false) (by decide +kernel)
  | .dict _ => kit_ty (a := "dict") (b := "bool") (r := false) (by decide +kernel)
mutual
theorem dp_mono {K : PySem.W.Frag} {H H' : Hp} (k : ∀ {a : Addr} {xs : List V}, (SqL K H a xs → SqL K H' a xs) ∧ (SqT K H a xs → SqT K H' a xs)) : ∀ {d : PyData} {v : V}, Dp K H v d → Dp K H' v d
  | _, _, .non => .non
  | _, _, .bl b => .bl b
  | _, _, .int i => .int i
  | _, _, .str x => .str x
  | _, _, .lst h a => .lst (k.1 h) (dpAll_mono k a)
  | _, _, .tup h a => .tup (k.2 h) (dpAll_mono k a)
theorem dpAll_mono {K : PySem.W.Frag} {H H' : Hp} (k : ∀ {a : Addr} {xs : List V}, (SqL K H a xs → SqL K H' a xs) ∧ (SqT K H a xs → SqT K H' a xs)) : ∀ {ds : List PyData} {vs : List V}, DpAll K H vs ds → DpAll K H' vs ds
  | _, _, .nil => .nil
  | _, _, .cons h t => .cons (dp_mono k h) (dpAll_mono k t)
end
theorem dp_same {K : PySem.W.Frag} {H H' : Hp} (s : Same H H') {d : PyData} {v : V} (h : Dp K H v d) : Dp K H' v d := dp_mono (fun {_ _} => ⟨fun q => s.seq q, fun q => (TK.same s).sq q⟩) h
theorem dpAll_same {K : PySem.W.Frag} {H H' : Hp} (s : Same H H') {ds : List PyData} {vs : List V} (h : DpAll K H vs ds) : DpAll K H' vs ds := dpAll_mono (fun {_ _} => ⟨fun q => s.seq q, fun q => (TK.same s).sq q⟩) h
theorem dpAll_len {K : PySem.W.Frag} {H : Hp} : ∀ {ds : List PyData} {vs : List V}, DpAll K H vs ds → vs.length = ds.length
  | _, _, .nil => rfl
  | _, _, .cons _ t => by rw [List.length_cons, List.length_cons, dpAll_len t]
theorem dpAll_get {K : PySem.W.Frag} {H : Hp} : ∀ {ds : List PyData} {vs : List V} {i : Nat} {v : V}, DpAll K H vs ds → vs[i]? = some v → ∃ d, ds[i]? = some d ∧ Dp K H v d
  | _, _, _, _, .nil, e => by cases e
  | _, _, i, v, .cons (d := d) h t, e => by
    cases i with
    | zero =>
      cases e
      exact ⟨d, rfl, h⟩
    | succ i => exact dpAll_get (i := i) t e
theorem dpAll_get' {K : PySem.W.Frag} {H : Hp} : ∀ {ds : List PyData} {vs : List V} {i : Nat} {d : PyData}, DpAll K H vs ds → ds[i]? = some d → ∃ v, vs[i]? = some v ∧ Dp K H v d
  | _, _, _, _, .nil, e => by cases e
  | _, _, i, d, .cons (v := v) h t, e => by
    cases i with
    | zero =>
      cases e
      exact ⟨v, rfl, h⟩
    | succ i => exact dpAll_get' (i := i) t e
theorem dpAll_app {K : PySem.W.Frag} {H : Hp} : ∀ {ds es : List PyData} {vs us : List V}, DpAll K H vs ds → DpAll K H us es → DpAll K H (vs ++ us) (ds ++ es)
  | _, _, _, _, .nil, k => k
  | _, _, _, _, .cons h t, k => .cons h (dpAll_app t k)
theorem dpAll_take {K : PySem.W.Frag} {H : Hp} : ∀ {ds : List PyData} {vs : List V} (n : Nat), DpAll K H vs ds → DpAll K H (vs.take n) (ds.take n)
  | _, _, 0, _ => by rw [List.take_zero, List.take_zero]; exact .nil
  | _, _, n + 1, .nil => .nil
  | _, _, n + 1, .cons h t => .cons h (dpAll_take n t)
theorem dpAll_drop {K : PySem.W.Frag} {H : Hp} : ∀ {ds : List PyData} {vs : List V} (n : Nat), DpAll K H vs ds → DpAll K H (vs.drop n) (ds.drop n)
  | _, _, 0, h => h
  | _, _, n + 1, .nil => .nil
  | _, _, n + 1, .cons h t => dpAll_drop n t
/-- whole numbers alone -/
def wAll : List PyData → Option (List Int)
  | [] => some []
  | .int i :: r => (wAll r).map (i :: ·)
  | _ :: _ => none
theorem wAll_ints : ∀ {ds : List PyData} {p : List Int}, wAll ds = some p → ds = p.map .int
  | [], p, h => by cases h; rfl
  | .int i :: r, p, h => by
    have h' : (wAll r).map (i :: ·) = some p := h
    cases e : wAll r with
    | none => rw [e] at h'; cases h'
    | some q =>
      rw [e] at h'
      cases h'
      rw [wAll_ints e]
      rfl
  | .none :: _, _, h => by cases h
  | .bool _ :: _, _, h => by cases h
  | .str _ :: _, _, h => by cases h
  | .list _ :: _, _, h => by cases h
  | .tuple _ :: _, _, h => by cases h
  | .dict _ :: _, _, h => by cases h
theorem ints_wAll : ∀ p : List Int, wAll (p.map .int) = some p
  | [] => rfl
  | i :: p => by
    show (wAll (p.map .int)).map (i :: ·) = _
    rw [ints_wAll p]
    rfl
def subW (o : Option (List Int)) (t : T) : Option T :=
  match o with
  | some p => T.sub p t
  | none => none
/-- the part at any data -/
def partD (t : T) : PyData → Option T
  | .tuple ps => subW (wAll ps) t
  | _ => none
def pathD : PyData → List Int
  | .tuple ps => (wAll ps).getD []
  | _ => []
def stepG (l r t : T) (p : PyData) : Option T :=
  match partD t p with
  | some u => if PyData.eqv u.d l.d = true then T.put r (pathD p) t else none
  | none => none
def wayG (b : Bool) (l r : T) : T := if b = true then l else r
/-- one step of a chain -/
def stepD (eqs : List (T × T)) (t : T) : PyData → Option T
  | .tuple [p, .int n, .bool b] => if 0 ≤ n then (match eqs[n.toNat]? with
      | some e => stepG (wayG b e.1 e.2) (wayG b e.2 e.1) t p
      | none => none) else none
  | _ => none
def chainD (eqs : List (T × T)) : T → List PyData → Option T
  | t, [] => some t
  | t, d :: ds => match stepD eqs t d with
    | some t' => chainD eqs t' ds
    | none => none
def OptTm (K : PySem.W.Frag) (H : Hp) : Option T → V → Prop
  | none, v => v = .non
  | some t, v => Tm K H t v
/-- a ground term, small -/
structure Gt (m z : Nat) (t : T) : Prop where
  named : t.named = true
  vars : t.vars = []
  dep : t.dep ≤ m
  size : t.size ≤ z
theorem Gt.mono {m n y z : Nat} {t : T} (h : Gt m y t) (a : m ≤ n) (b : y ≤ z) : Gt n z t := ⟨h.named, h.vars, Nat.le_trans h.dep a, Nat.le_trans h.size b⟩
theorem Gt.shape {m z : Nat} {t : T} (h : Gt m z t) (hm : m ≤ 64) : SeqAt.shaped t.d = true := T.shaped h.named (Nat.le_trans h.dep hm)
theorem Gt.head {m z : Nat} {t : T} (h : Gt m z t) : ∃ x ts, t = .f x ts := by
  cases t with
  | v i => cases (show [i] = [] from h.vars)
  | f x ts => exact ⟨x, ts, rfl⟩
theorem varsL_mem : ∀ {ts : List T} {u : T}, T.varsL ts = [] → u ∈ ts → u.vars = []
  | t :: ts, u, h, m => by
    have h' : t.vars ++ T.varsL ts = [] := h
    obtain ⟨h1, h2⟩ := List.append_eq_nil_iff.mp h'
    rcases List.mem_cons.mp m with e | e
    · rw [e]; exact h1
    · exact varsL_mem h2 e
theorem varsL_of : ∀ {ts : List T}, (∀ u ∈ ts, u.vars = []) → T.varsL ts = []
  | [], _ => rfl
  | t :: ts, h => by
    show t.vars ++ T.varsL ts = []
    rw [h t List.mem_cons_self, varsL_of fun u m => h u (List.mem_cons_of_mem _ m)]
    rfl
theorem sub_vars : ∀ {p : List Int} {t u : T}, T.sub p t = some u → t.vars = [] → u.vars = []
  | [], t, u, h, g => by
    cases (show some t = some u from h)
    exact g
  | k :: p, t, u, h, g => by
    obtain ⟨j, x, ts, y, rfl, rfl, e1, e2⟩ := T.sub_cons h
    exact sub_vars e2 (varsL_mem (ts := ts) g (List.mem_of_getElem? e1))
theorem put_vars {new : T} (gn : new.vars = []) : ∀ {p : List Int} {t r : T}, T.put new p t = some r → t.vars = [] → r.vars = []
  | [], t, r, h, _ => by
    cases (show some new = some r from h)
    exact gn
  | k :: p, t, r, h, g => by
    obtain ⟨j, x, ts, y, z, rfl, rfl, e1, e2, rfl⟩ := T.put_cons h
    have gz := put_vars gn e2 (varsL_mem (ts := ts) g (List.mem_of_getElem? e1))
    refine varsL_of (ts := ts.set j z) fun u hu => ?_
    rcases List.mem_or_eq_of_mem_set hu with m | m
    · exact varsL_mem (ts := ts) g m
    · rw [m]; exact gz
/-- what stands at a path, what comes when something is put there -/
theorem Gt.sub {m z : Nat} {t u : T} {p : List Int} (h : Gt m z t) (e : T.sub p t = some u) : Gt m z u := by
  obtain ⟨a, b, c⟩ := T.sub_small e
  exact ⟨a h.named, sub_vars e h.vars, Nat.le_trans b h.dep, Nat.le_trans c h.size⟩
theorem Gt.put {m z n y : Nat} {t u new : T} {p : List Int} (h : Gt m z t) (e : T.sub p t = some u) (k : Gt n y new) : ∃ r, T.put new p t = some r ∧ Gt (m + n) (z + y) r := by
  obtain ⟨r, a, _, _, b, c, d⟩ := T.put_sub new e
  have h1 := h.dep
  have h2 := h.size
  have h3 := k.dep
  have h4 := k.size
  exact ⟨r, a, d h.named k.named, put_vars k.vars a h.vars, by omega, by omega⟩
/-- the sides of equations -/
def Egd (eqs : List (T × T)) : Prop := ∀ e ∈ eqs, Gt 4 40 e.1 ∧ Gt 4 40 e.2
theorem partD_some {t u : T} {d : PyData} (h : partD t d = some u) : ∃ p, d = .tuple (p.map .int) ∧ pathD d = p ∧ T.sub p t = some u := by
  cases d with
  | tuple ps =>
    have h' : subW (wAll ps) t = some u := h
    cases e : wAll ps with
    | none => rw [e] at h'; cases h'
    | some p =>
      rw [e] at h'
      refine ⟨p, by rw [wAll_ints e], ?_, h'⟩
      show (wAll ps).getD [] = p
      rw [e]
      rfl
  | _ => cases h
theorem stepG_gt {m z n y : Nat} {l r t t' : T} {p : PyData} (h : Gt m z t) (k : Gt n y r) (e : stepG l r t p = some t') : Gt (m + n) (z + y) t' := by
  unfold stepG at e
  cases q : partD t p with
  | none => rw [q] at e; cases e
  | some u =>
    rw [q] at e
    dsimp only at e
    obtain ⟨p', _, e2, e3⟩ := partD_some q
    obtain ⟨r', h1, h2⟩ := h.put e3 k
    by_cases c : PyData.eqv u.d l.d = true
    · rw [if_pos c, e2, h1] at e
      cases e
      exact h2
    · rw [if_neg c] at e
      cases e
theorem wayG_gt {m z : Nat} {b : Bool} {l r : T} (h : Gt m z l) (k : Gt m z r) : Gt m z (wayG b l r) := by
  unfold wayG
  cases b
  · exact k
  · exact h
/-- triples of a chain: what else can't be one -/
theorem stepD_other (eqs : List (T × T)) (t : T) {d : PyData} (h : ∀ p n b, d ≠ .tuple [p, .int n, .bool b]) : stepD eqs t d = none := by
  unfold stepD
  split
  · rename_i p n b
    exact absurd rfl (h p n b)
  · rfl
theorem stepD_tri (eqs : List (T × T)) (t : T) (p : PyData) {n : Int} {b : Bool} {e : T × T} (h0 : 0 ≤ n) (he : eqs[n.toNat]? = some e) : stepD eqs t (.tuple [p, .int n, .bool b]) = stepG (wayG b e.1 e.2) (wayG b e.2 e.1) t p := by
  show (if 0 ≤ n then (match eqs[n.toNat]? with | some e => stepG (wayG b e.1 e.2) (wayG b e.2 e.1) t p | none => none) else none) = _
  rw [if_pos h0, he]
theorem stepD_far (eqs : List (T × T)) (t : T) (p : PyData) {n : Int} {b : Bool} (h : ¬ (0 ≤ n ∧ n < eqs.length)) : stepD eqs t (.tuple [p, .int n, .bool b]) = none := by
  show (if 0 ≤ n then (match eqs[n.toNat]? with | some e => stepG (wayG b e.1 e.2) (wayG b e.2 e.1) t p | none => none) else none) = none
  by_cases h0 : 0 ≤ n
  · rw [if_pos h0, List.getElem?_eq_none (by omega)]
  · rw [if_neg h0]
theorem stepD_gt {m z : Nat} {eqs : List (T × T)} {t t' : T} {d : PyData} (hE : Egd eqs) (h : Gt m z t) (e : stepD eqs t d = some t') : Gt (m + 4) (z + 40) t' := by
  unfold stepD at e
  split at e
  · rename_i p n b
    by_cases h0 : 0 ≤ n
    · rw [if_pos h0] at e
      cases q : eqs[n.toNat]? with
      | none => rw [q] at e; cases e
      | some x =>
        rw [q] at e
        dsimp only at e
        obtain ⟨g1, g2⟩ := hE x (List.mem_of_getElem? q)
        exact stepG_gt h (wayG_gt g2 g1) e
    · rw [if_neg h0] at e
      cases e
  · cases e
end Ad

/-! What a reading evaluates to, as data, from any heap that keeps what was there. -/
namespace Ad
open PySem PySem.Spec PySem.Calls PyProof.Rows L2
theorem Same.refl (H : Hp) : Same H H := fun _ _ e => e
theorem Same.trans {H H1 H2 : Hp} (a : Same H H1) (b : Same H1 H2) : Same H H2 := fun q o e => b q o (a q o e)
/-- te gives the data d, and keeps what was there -/
def ED (K : PySem.W.Frag) (te : TE) (σ : L2.St) (H : Hp) (d : PyData) : Prop := ∀ H1, Same H H1 → ∀ Q : VK, (∀ v H2, Same H1 H2 → Dp K H2 v d → Q v H2) → te σ H1 Q
def EDs (K : PySem.W.Frag) (ta : TA) (σ : L2.St) (H : Hp) (ds : List PyData) : Prop := ∀ H1, Same H H1 → ∀ Q : List V → Hp → Prop, (∀ vs H2, Same H1 H2 → DpAll K H2 vs ds → Q vs H2) → ta σ H1 Q
/-- te gives a new list of the data ds -/
def EL (K : PySem.W.Frag) (te : TE) (σ : L2.St) (H : Hp) (ds : List PyData) : Prop := ∀ H1, Same H H1 → ∀ Q : VK, (∀ l xs H2, Same H1 H2 → H2 l = none → DpAll K H2 xs ds → Q (.ref l) (upd H2 l (.lst xs))) → te σ H1 Q
theorem none_before {H1 H2 : Hp} (s : Same H1 H2) {p : Addr} (n : H2 p = none) : H1 p = none := by
  cases z : H1 p with
  | none => rfl
  | some o =>
    rw [s _ _ z] at n
    cases n
theorem EL.run {K : PySem.W.Frag} {te : TE} {σ : L2.St} {H : Hp} {ds : List PyData} (h : EL K te σ H ds) (H1 : Hp) (s : Same H H1) (Q : VK) (q : ∀ l xs H2, Same H1 H2 → H1 l = none → H2 l = some (.lst xs) → DpAll K H2 xs ds → Q (.ref l) H2) : te σ H1 Q :=
  h H1 s Q fun l xs H2 s2 n hv => by
    have s3 : Same H2 (upd H2 l (.lst xs)) := same_new (fun b o e => e) n _
    exact q l xs _ (s2.trans s3) (none_before s2 n) upd_same (dpAll_same s3 hv)
section
variable {K : PySem.W.Frag} {σ : L2.St} {H : Hp}
theorem ED.later {te : TE} {d : PyData} {H' : Hp} (h : ED K te σ H d) (s : Same H H') : ED K te σ H' d := fun H1 s1 => h H1 (s.trans s1)
theorem EDs.later {ta : TA} {d : List PyData} {H' : Hp} (h : EDs K ta σ H d) (s : Same H H') : EDs K ta σ H' d := fun H1 s1 => h H1 (s.trans s1)
theorem EL.later {te : TE} {d : List PyData} {H' : Hp} (h : EL K te σ H d) (s : Same H H') : EL K te σ H' d := fun H1 s1 => h H1 (s.trans s1)
theorem ed_var {i : Nat} {v : V} {d : PyData} (e : σ[i]? = some (some v)) (h : Dp K H v d) : ED K (tVar i) σ H d := fun H1 s Q q => ⟨v, e, q v H1 (Same.refl _) (dp_same s h)⟩
theorem ed_int {i : Int} : ED K (tC (.int i)) σ H (.int i) := fun H1 s Q q => q _ H1 (Same.refl _) (.int i)
theorem ed_bl {b : Bool} : ED K (tC (.bl b)) σ H (.bool b) := fun H1 s Q q => q _ H1 (Same.refl _) (.bl b)
theorem ed_str {x : Str} : ED K (tC (.str x)) σ H (.str x) := fun H1 s Q q => q _ H1 (Same.refl _) (.str x)
theorem ed_non : ED K (tC .non) σ H .none := fun H1 s Q q => q _ H1 (Same.refl _) .non
theorem eds_nil : EDs K tNil σ H [] := fun H1 s Q q => q _ H1 (Same.refl _) .nil
theorem eds_cons {te : TE} {ta : TA} {d : PyData} {ds : List PyData} (h : ED K te σ H d) (t : EDs K ta σ H ds) : EDs K (tCons te ta) σ H (d :: ds) := fun H1 s Q q =>
  h H1 s _ fun v H2 s2 hv => t H2 (s.trans s2) _ fun vs H3 s3 hvs => q _ H3 (s2.trans s3) (.cons (dp_same s3 hv) hvs)
theorem ed_tup {ta : TA} {ds : List PyData} (h : EDs K ta σ H ds) (few : ds.length ≤ 1000) : ED K (tTup ta) σ H (.tuple ds) := fun H1 s Q q =>
  h H1 s _ fun vs H2 s2 hv => ⟨by rw [dpAll_len hv, sizeLine_eq]; omega, fun p np => by
    have s3 : Same H2 (upd H2 p (.tup vs)) := same_new (fun b o e => e) np _
    exact q _ _ (s2.trans s3) (.tup (.inl (.inl upd_same)) (dpAll_same s3 hv))⟩
theorem el_lst {ta : TA} {ds : List PyData} (h : EDs K ta σ H ds) (few : ds.length ≤ 1000) : EL K (tLst ta) σ H ds := fun H1 s Q q =>
  h H1 s _ fun vs H2 s2 hv => ⟨by rw [dpAll_len hv, sizeLine_eq]; omega, fun p np => q p vs H2 s2 np hv⟩
theorem ed_lst {ta : TA} {ds : List PyData} (h : EDs K ta σ H ds) (few : ds.length ≤ 1000) : ED K (tLst ta) σ H (.list ds) := fun H1 s Q q =>
  (el_lst h few).run H1 s Q fun l xs H2 s2 _ e hv => q _ H2 s2 (.lst (.inl (.inl e)) hv)
theorem EL.ed {te : TE} {ds : List PyData} (h : EL K te σ H ds) : ED K te σ H (.list ds) := fun H1 s Q q => h.run H1 s Q fun l xs H2 s2 _ e hv => q _ H2 s2 (.lst (.inl (.inl e)) hv)
theorem el_cat {t1 t2 : TE} {d1 d2 : List PyData} (h1 : EL K t1 σ H d1) (h2 : EL K t2 σ H d2) (few : d1.length + d2.length ≤ 1000000) : EL K (tOp rCat t1 t2) σ H (d1 ++ d2) := fun H1 s Q q =>
  h1.run H1 s _ fun l xs H2 s2 nl e hv => h2.run H2 (s.trans s2) _ fun l' xs' H3 s3 nl' e' hv' =>
    ⟨l, l', xs, xs', rfl, rfl, s3 _ _ e, e', by rw [dpAll_len hv, dpAll_len hv', sizeLine_eq]; omega, fun p np => q p _ H3 (s2.trans s3) np (dpAll_app (dpAll_same s3 hv) hv')⟩
/-- a list that stands in a slot -/
theorem el_cat_var {i : Nat} {l : Addr} {xs : List V} {t2 : TE} {d1 d2 : List PyData} (e0 : σ[i]? = some (some (.ref l))) (e : H l = some (.lst xs)) (hv : DpAll K H xs d1) (h2 : EL K t2 σ H d2) (few : d1.length + d2.length ≤ 1000000) : EL K (tOp rCat (tVar i) t2) σ H (d1 ++ d2) := fun H1 s Q q =>
  ⟨.ref l, e0, h2.run H1 s _ fun l' xs' H3 s3 nl' e' hv' =>
    ⟨l, l', xs, xs', rfl, rfl, s3 _ _ (s _ _ e), e', by rw [dpAll_len hv, dpAll_len hv', sizeLine_eq]; omega, fun p np => q p _ H3 s3 np (dpAll_app (dpAll_same (s.trans s3) hv) hv')⟩⟩
theorem ed_neg {t1 : TE} {i : Int} (h1 : ED K t1 σ H (.int i)) : ED K (tUn (rU fun i => .int (-i)) t1) σ H (.int (-i)) := fun H1 s Q q =>
  h1 H1 s _ fun v H2 s2 hv => by
    cases hv
    exact ⟨i, rfl, q _ _ s2 (.int _)⟩
end
theorem pen_lists {K : PySem.W.Frag} {H H' : Hp} {p l : Addr} {ns : List Int} {c : Nat} (P : Pn.Pen H p l ns c) (b : Pn.But p H H') {a : Addr} {xs : List V} (h : SqL K H a xs) : SqL K H' a xs := by
  obtain ⟨⟨a1, d, f, e, _⟩, _⟩ := P
  rcases h with (h | ⟨o, h⟩) | h
  · exact .inl (.inl (b _ _ (fun z => by rw [z, e] at h; cases h) h))
  · exact .inl (.inr ⟨o, b _ _ (fun z => by rw [z, e] at h; cases h) h⟩)
  · exact .inr h
theorem pen_dp {K : PySem.W.Frag} {H H' : Hp} {p l : Addr} {ns : List Int} {c : Nat} (P : Pn.Pen H p l ns c) (b : Pn.But p H H') {d : PyData} {v : V} (h : Dp K H v d) : Dp K H' v d := dp_mono (fun {_ _} => ⟨pen_lists P b, (pen_tk P b).sq⟩) h
theorem pen_dpAll {K : PySem.W.Frag} {H H' : Hp} {p l : Addr} {ns : List Int} {c : Nat} (P : Pn.Pen H p l ns c) (b : Pn.But p H H') {d : List PyData} {v : List V} (h : DpAll K H v d) : DpAll K H' v d := dpAll_mono (fun {_ _} => ⟨pen_lists P b, (pen_tk P b).sq⟩) h
theorem to_set {te : TE} {g : TG} {u : TS} {D : Ends} {σ : L2.St} {H : Hp} (h : te σ H fun v H1 => g v σ H1 fun σ2 H2 => u D σ2 H2) : tSeq (tAsg te g) u D σ H := h
end Ad

/-! is_from, is_below of any data. -/
namespace Ad
open PySem PySem.Spec PySem.Calls PyProof.Rows L2
abbrev sFromD : Stmt := topS 5
theorem scFromD : FnScope ["value", "least"] ["value", "least"] (defScope sFromD) := ⟨rfl, rfl, rfl, by decide +kernel, rfl, by decide +kernel, by decide +kernel⟩
def fromD : PyData → Int → Bool
  | .int i, m => decide (m ≤ i)
  | _, _ => false
section
variable {P : Program} {w : World} {K : PySem.W.Frag} {mg : Str → Option Value} {base : Heap}
def spFromD (K : PySem.W.Frag) : Sp := fun vs H Q _ => ∃ (v : V) (m : Int) (d : PyData), vs = [v, .int m] ∧ Dp K H v d ∧ Q (.bl (fromD d m)) H
theorem ok_fromD {f : Addr} {fd : FuncData} {k : Nat} (F : Fun K "is_from" "is_from" sFromD f fd) (m_isinstance : mg "isinstance" = none) (m_int : mg "int" = none) (m_bool : mg "bool" = none) : FnOk P w K mg base CX0 (k + 1) f fd ["value", "least"] (spFromD K) := by
  refine F.ok scFromD (fun vs H Q E h => ?_) (fun cdv A outer s H vs Q E hr h => ?_)
  · obtain ⟨v, m, d, rfl, _⟩ := h
    rfl
  · obtain ⟨v, m, d, rfl, hd, q⟩ := h
    refine ⟨_, (pss_one (ps_ret (pe_and (pe_callB call_isi (by rfl) m_isinstance (by decide +kernel) (pa_cons (pv 0) (pa_cons (pe_bltn (v := .ty "int") (by rfl) m_int (by decide +kernel) rfl) pa_nil))) (pe_and (pe_not (pe_callB call_isi (by rfl) m_isinstance (by decide +kernel) (pa_cons (pv 0) (pa_cons (pe_bltn (v := .ty "bool") (by rfl) m_bool (by decide +kernel) rfl) pa_nil)))) (pe_one (pe_cmpR op_ge (pv 0) (pv 1) (nomark _))))))), ?_⟩
    refine ⟨v, rfl, v, .ty "int", tyD d, .type "int", isIn d, rfl, .ty "int", dp_ty hd, kit_in d, isIn d, rfl, ?_⟩
    have no : isIn d = false → fromD d m = false := fun e => by cases d <;> first | rfl | cases e
    have no2 : isBo d = true → fromD d m = false := fun e => by cases d <;> first | rfl | cases e
    refine ite2 (fun h1 => ?_) (fun h1 => ?_)
    · refine ⟨v, rfl, v, .ty "bool", tyD d, .type "bool", isBo d, rfl, .ty "bool", dp_ty hd, kit_bo d, isBo d, rfl, !isBo d, rfl, ?_⟩
      refine ite2 (fun h2 => ?_) (fun h2 => ?_)
      · cases hd with
        | int i => exact ⟨.int i, rfl, .int m, rfl, _, _, rfl, rfl, q⟩
        | bl b => cases h2
        | _ => cases h1
      · have e : isBo d = true := by
          cases z : isBo d with
          | true => rfl
          | false => exact absurd (by rw [z]; rfl) h2
        rw [no2 e] at q
        exact q
    · rw [no ((Bool.not_eq_true _).mp h1)] at q
      exact q
end
end Ad

/-! dict comprehensions over enumerate of a tuple; tuples set behind each other -/
namespace Ad
open PySem PySem.Spec PySem.Calls PyProof.Rows L2
theorem dc_enumT {K : PySem.W.Frag} {a : Addr} {xs : List V} {g : TG} {tt : TT} {tk tv : TE} {vs : List Nat} {σ : L2.St} {H1 : Hp} {D : Addr} {Qd : Hp → Prop} (Pv : Nat → Hp → Prop) (h0 : Pv 0 (upd H1 D (.dK []))) (hl : ∀ i H, i ≤ xs.length → Pv i H → SqT K H a xs)
    (hs : ∀ i x T H, xs[i]? = some x → Pv i H → H T = none → g (.ref T) (wipe σ vs) (upd H T (.tup [.int (i : Nat), x])) fun σ2 H2 => wipe σ2 vs = wipe σ vs ∧ tt σ2 H2 fun b H3 =>
      if b = true then tk σ2 H3 fun y H4 => tv σ2 H4 fun z H5 => ∃ kvs k, y = kV k ∧ H5 D = some (.dK kvs) ∧ kvs.length < sizeLine ∧ Pv (i + 1) (upd H5 D (.dK (putK kvs k z))) else Pv (i + 1) H3) (hd : ∀ H, Pv xs.length H → Qd H) :
    ∃ W : Nat → Nat → Hp → Prop, (∃ m, W 0 m (upd H1 D (.dK []))) ∧ ∀ i m H, W i m H →
      ((Et.IteT K a).stop i H ∧ Qd H) ∨ ((Et.IteT K a).go i H ∧ ∃ Nx : Hp → Prop, (∀ H', Nx H' → ∃ m', m' < m ∧ W (i + 1) m' H') ∧ ∀ x H', (Et.IteT K a).yld i H x H' → g x (wipe σ vs) H' fun σ2 H2 => wipe σ2 vs = wipe σ vs ∧ tt σ2 H2 fun b H3 =>
        if b = true then tk σ2 H3 fun y H4 => tv σ2 H4 fun z H5 => ∃ kvs k, y = kV k ∧ H5 D = some (.dK kvs) ∧ kvs.length < sizeLine ∧ Nx (upd H5 D (.dK (putK kvs k z))) else Nx H3) := by
  refine ⟨fun i m H => m = xs.length - i ∧ i ≤ xs.length ∧ Pv i H, ⟨xs.length, by simp, Nat.zero_le _, h0⟩, ?_⟩
  rintro i m H ⟨rfl, hi, p⟩
  have q := hl i H hi p
  by_cases hlt : i < xs.length
  · refine .inr ⟨⟨xs, xs[i], q, by simp [hlt]⟩, Pv (i + 1), fun H' p' => ⟨xs.length - (i + 1), by omega, rfl, hlt, p'⟩, fun x H' y => ?_⟩
    obtain ⟨T, x', ex, nT, eH, y⟩ := y
    subst ex
    subst eH
    exact hs i x' T H (y xs q) p nT
  · have e : i = xs.length := by omega
    subst e
    exact .inl ⟨⟨xs, q, Nat.le_refl _⟩, hd H p⟩
theorem catT {K : PySem.W.Frag} {H : Hp} {a b : Addr} {xs ys : List V} {Q : VK} (hx : SqT K H a xs) (hy : SqT K H b ys) (ne : xs ≠ []) (l : xs.length + ys.length ≤ sizeLine) (q : ∀ c G, Same H G → SqT K G c (xs ++ ys) → Q (.ref c) G) : rCatT K (.ref a) (.ref b) H Q :=
  ⟨a, b, xs, ys, rfl, rfl, hx, hy, ne, l, fun e => q a H (fun b o e => e) (by rw [e, List.append_nil]; exact hx), fun _ p np => q p _ (same_new (fun b o e => e) np _) (.inl (.inl upd_same))⟩
theorem inV_here {x : V} {xs : List V} (h : x ∈ xs) (e : eqV x x = true) : inV x xs = true := by
  unfold inV
  exact List.any_eq_true.mpr ⟨x, h, e⟩
theorem TK.ins {H : Hp} {p C dx : Addr} {fs : List (Str × V)} (h : H p = some (.ins C dx fs)) (o : HO) : TK H (upd H p o) := fun b xs => by
  have n : ∀ u, H b = some u → (∀ c d f, u ≠ .ins c d f) → b ≠ p := fun u e z w => by
    rw [w, h] at e
    exact z _ _ _ (Option.some.inj e).symm
  refine ⟨fun e => ?_, fun o e => ?_⟩
  · rw [upd_ne (n _ e (fun c d f z => nomatch z))]
    exact e
  · rw [upd_ne (n _ e (fun c d f z => nomatch z))]
    exact e
theorem take_fresh {rs : List Row} (nd : (rs.map (·.1)).Nodup) {i : Nat} {r : Row} (h : rs[i]? = some r) : r.1 ∉ (rs.take i).map (·.1) := by
  rw [← List.take_append_drop i rs, List.map_append, List.nodup_append] at nd
  refine fun z => nd.2.2 _ z r.1 ?_ rfl
  refine List.mem_map.mpr ⟨r, ?_, rfl⟩
  refine List.mem_of_getElem? (i := 0) ?_
  rw [List.getElem?_drop]
  exact h
theorem take_next {α : Type} {rs : List α} {i : Nat} {r : α} (h : rs[i]? = some r) : rs.take (i + 1) = rs.take i ++ [r] := by
  rw [List.take_add_one, h]
  rfl
end Ad

/-! The law: its parts. -/
namespace Ad
open PySem PySem.Spec PySem.Calls PyProof.Rows L2 GxR
/-- a def of the top, with its promise -/
structure Has (P : Program) (w : World) (K : PySem.W.Frag) (mg : Str → Option Value) (base : Heap) (k : Nat) (x : Str) (ps : List Str) (sp : Sp) (f : Addr) (fd : FuncData) : Prop where
  G : FnOk P w K mg base CX0 k f fd ps sp
  g : mg x = some (.ref f)
  kp : PySem.W.keepIn K (.ref f) = true
  b : Binds K fd ps []
structure HasG (P : Program) (w : World) (K : PySem.W.Frag) (mg : Str → Option Value) (base : Heap) (k : Nat) (x : Str) (ps : List Str) (sp : Sp) (f : Addr) (fd : FuncData) : Prop where
  G : FnG P w K mg base CX0 k f fd ps sp
  g : mg x = some (.ref f)
  kp : PySem.W.keepIn K (.ref f) = true
  b : Binds K fd ps []
theorem iteNE {b : Bool} {A B : Prop} (hb : b = true) (h : B) : if (!b) = true then A else B := by
  rw [hb]
  exact iteF h
theorem iteE {b : Bool} {A B : Prop} (hb : b = true) (h : A) : if b = true then A else B := by
  rw [hb]
  exact iteT h
/-! ### written substitutions -/
/-- a written pair -/
def PLit (K : PySem.W.Frag) (tp : TE) (e : Int × T) : Prop := ∀ (σ : L2.St) (H : Hp) (Q : VK), (∀ b G, Same H G → SP K G e b → Q (.ref b) G) → tp σ H Q
theorem plit_v (K : PySem.W.Frag) (i j : Int) : PLit K (tTup (tCons (tC (.int i)) (tCons (tC (.int j)) tNil))) (i, .v j) := fun σ H Q h =>
  ⟨(by show 2 ≤ sizeLine; decide), fun p np => h p _ (same_new (fun b o e => e) np _) ⟨.int j, .inl (.inl upd_same), rfl⟩⟩
theorem plit_f (K : PySem.W.Frag) (i j : Int) (x : Str) : PLit K (tTup (tCons (tC (.int i)) (tCons (tTup (tCons (tC (.str x)) (tCons (tC (.int j)) tNil))) tNil))) (i, .f x [.v j]) := fun σ H Q h =>
  ⟨(by show 2 ≤ sizeLine; decide), fun p1 n1 => ⟨(by show 2 ≤ sizeLine; decide), fun p np => h p _ (same_new (same_new (fun b o e => e) n1 _) np _)
    ⟨.ref p1, .inl (.inl upd_same), p1, [.int j], rfl, (TK.new np _).sq (.inl (.inl upd_same)), .int j, [], rfl, rfl, rfl⟩⟩⟩
theorem sulit0 (K : PySem.W.Frag) {σ : L2.St} {H : Hp} {Q : VK} (h : ∀ x G, Same H G → Su K G [] x → Q x G) : Dt.tTup0 tNil σ H Q :=
  ⟨Nat.zero_le _, fun p o np od => h (.ref p) _ (same_new (fun b o e => e) np _) ⟨p, [], rfl, ⟨o, upd_same, od⟩, rfl⟩⟩
theorem sulit1 {K : PySem.W.Frag} {σ : L2.St} {H : Hp} {Q : VK} {t1 : TE} {e1 : Int × T} (p1 : PLit K t1 e1) (h : ∀ x G, Same H G → Su K G [e1] x → Q x G) : Dt.tTup0 (tCons t1 tNil) σ H Q := by
  show t1 σ H (fun v G => [v].length ≤ sizeLine ∧ ∀ p o, G p = none → o.dict = none → Q (.ref p) (upd G p (.frz o (.tup [v]))))
  exact p1 σ H _ fun b G s sp => ⟨(by show 1 ≤ sizeLine; decide), fun p o np od => h (.ref p) _ (same_new s np _) ⟨p, [b], rfl, ⟨o, upd_same, od⟩, F2.one (SP.mono (TK.new np _) _ _ sp)⟩⟩
theorem sulit2 {K : PySem.W.Frag} {σ : L2.St} {H : Hp} {Q : VK} {t1 t2 : TE} {e1 e2 : Int × T} (p1 : PLit K t1 e1) (p2 : PLit K t2 e2) (h : ∀ x G, Same H G → Su K G [e1, e2] x → Q x G) : Dt.tTup0 (tCons t1 (tCons t2 tNil)) σ H Q := by
  show t1 σ H (fun v G => t2 σ G (fun v2 G2 => [v, v2].length ≤ sizeLine ∧ ∀ p o, G2 p = none → o.dict = none → Q (.ref p) (upd G2 p (.frz o (.tup [v, v2])))))
  exact p1 σ H _ fun b G s sp => p2 σ G _ fun b2 G2 s2 sp2 => ⟨(by show 2 ≤ sizeLine; decide), fun p o np od => h (.ref p) _ (same_new (show Same H G2 from fun b o e => s2 b o (s b o e)) np _)
    ⟨p, [b, b2], rfl, ⟨o, upd_same, od⟩, _, _, rfl, SP.mono ((TK.same s2).trans (TK.new np _)) _ _ sp, F2.one (SP.mono (TK.new np _) _ _ sp2)⟩⟩
/-! ### the law's substitutions -/
theorem dt_v {R : List Row} {j nv : Int} (h0 : 0 ≤ j) (h1 : j < nv) : DT R 2 nv (.v j) := ⟨rfl, Nat.zero_le _, one_sz _, fun i hi => by
  cases List.mem_singleton.mp hi
  exact ⟨h0, h1⟩, True.intro⟩
theorem dt_f {R : List Row} (hf : ∃ r ∈ R, r.1 = ("f" : Str) ∧ r.2.1 = 1) : DT R 2 4 (.f "f" [.v 0]) := ⟨by decide +kernel, (by show 1 + max 0 0 ≤ 3; decide), (by show 1 + (1 + 0) ≤ 13; decide), fun i hi => by
  cases List.mem_singleton.mp (show i ∈ [(0 : Int)] from hi)
  exact ⟨by decide, by decide⟩, ⟨hf, True.intro, True.intro⟩⟩
theorem dsu_a {R : List Row} : DSu R 2 4 [(0, .v 1), (1, .v 0)] := ⟨by simp, fun e he => by
  rcases List.mem_cons.mp he with z | z
  · rw [z]
    exact ⟨by decide, by decide, dt_v (by decide) (by decide)⟩
  · rw [List.mem_singleton.mp z]
    exact ⟨by decide, by decide, dt_v (by decide) (by decide)⟩⟩
theorem dsu_b {R : List Row} (hf : ∃ r ∈ R, r.1 = ("f" : Str) ∧ r.2.1 = 1) : DSu R 2 4 [(0, .v 1), (1, .f "f" [.v 0])] := ⟨by simp, fun e he => by
  rcases List.mem_cons.mp he with z | z
  · rw [z]
    exact ⟨by decide, by decide, dt_v (by decide) (by decide)⟩
  · rw [List.mem_singleton.mp z]
    exact ⟨by decide, by decide, dt_f hf⟩⟩
theorem dsu_c {R : List Row} : DSu R 2 4 [] := ⟨.nil, fun e he => nomatch he⟩
theorem dsu_one {R : List Row} {i : Int} {t : T} (h0 : 0 ≤ i) (h1 : i < 4) (h : DT R 2 4 t) : DSu R 2 4 [(i, t)] := ⟨List.pairwise_singleton _ _, fun e he => by
  rw [List.mem_singleton.mp he]
  exact ⟨h0, h1, h⟩⟩
theorem DSu.nd {R : List Row} {d : Nat} {nv : Int} {su : Sb} (h : DSu R d nv su) : (su.map (·.1)).Nodup := Sb.rising_nodup h.rising
theorem DSu.asg {R : List Row} {su : Sb} (h : DSu R 2 4 su) {j nv : Int} (h4 : 4 ≤ nv) (h0 : 0 ≤ j) (h1 : j < nv) : DT R 2 nv (su.asg j) := by
  show DT R 2 nv ((su.look j).getD (.v j))
  cases e : su.look j with
  | none => exact dt_v h0 h1
  | some t =>
    obtain ⟨_, _, d⟩ := h.each _ (Sb.look_mem e)
    exact ⟨d.named, d.dep, d.size, fun i hi => ⟨(d.vars i hi).1, by have := (d.vars i hi).2; omega⟩, d.wf⟩
theorem put_small {R : List Row} {su : Sb} (h : DSu R 2 4 su) {t : T} {nv : Int} (h4 : 4 ≤ nv) (n : t.named = true) (v : ∀ j ∈ t.vars, 0 ≤ j ∧ j < nv) :
    (T.fill su.asg t).named = true ∧ (T.fill su.asg t).dep ≤ t.dep + 3 ∧ (T.fill su.asg t).size ≤ t.size * 13 ∧ ∀ j ∈ (T.fill su.asg t).vars, 0 ≤ j ∧ j < nv := by
  have d : ∀ j ∈ t.vars, DT R 2 nv (su.asg j) := fun j hj => h.asg h4 (v j hj).1 (v j hj).2
  refine ⟨T.fill_named t n fun j hj => (d j hj).named, T.fill_dep t fun j hj => (d j hj).dep, T.fill_size (by decide) t fun j hj => (d j hj).size, fun j hj => ?_⟩
  obtain ⟨i, hi, hj'⟩ := T.fill_vars t hj
  exact (d i hi).vars j hj'
theorem beh_small {R : List Row} {one two : Sb} (d1 : DSu R 2 4 one) (d2 : DSu R 2 4 two) : ∀ e ∈ Sb.beh one two, 0 ≤ e.1 ∧ e.1 < 4 ∧ e.2.named = true ∧ e.2.dep ≤ 6 ∧ e.2.size ≤ 169 ∧ ∀ j ∈ e.2.vars, 0 ≤ j ∧ j < 4 := by
  intro e he
  have nd : ((Sb.beh one two).map (·.1)).Nodup := Sb.nodup_fold _ one two d2.nd
  have lk := (Sb.mem_look nd (i := e.1) (t := e.2)).1 he
  rw [Sb.beh_look d1.nd] at lk
  cases h : Sb.look one e.1 with
  | some t =>
    rw [h] at lk
    have e2 : T.fill two.asg t = e.2 := Option.some.inj lk
    obtain ⟨a, b, d⟩ := d1.each _ (Sb.look_mem h)
    have d' : DT R 2 4 t := d
    obtain ⟨p1, p2, p3, p4⟩ := put_small d2 (by decide) d'.named d'.vars
    have z1 := d'.dep
    have z2 : t.size ≤ 13 := d'.size
    rw [e2] at p1 p2 p3 p4
    exact ⟨a, b, p1, by omega, by omega, p4⟩
  | none =>
    rw [h] at lk
    obtain ⟨a, b, d⟩ := d2.each _ (Sb.look_mem lk)
    have z1 : e.2.dep ≤ 3 := d.dep
    have z2 : e.2.size ≤ 13 := d.size
    exact ⟨a, b, d.named, by omega, by omega, d.vars⟩
theorem beh_good {R : List Row} {one two : Sb} (d1 : DSu R 2 4 one) (d2 : DSu R 2 4 two) : Good (Sb.beh one two) := fun e he => by
  obtain ⟨_, _, h1, h2, _⟩ := beh_small d1 d2 e he
  exact ⟨h1, by omega⟩
theorem norm_text {R : List Row} {one two su : Sb} (d1 : DSu R 2 4 one) (d2 : DSu R 2 4 two) (n : (Sb.beh one two).Norm su) : (suD su).showable = true ∧ (suD su).hasDict = false ∧ (suD su).depth ≤ 60 ∧ (suD su).shown.length ≤ sizeLine := by
  have each : ∀ e ∈ su, 0 ≤ e.1 ∧ e.1 < 4 ∧ e.2.named = true ∧ e.2.dep ≤ 6 ∧ e.2.size ≤ 169 ∧ ∀ j ∈ e.2.vars, 0 ≤ j ∧ j < 4 := fun e he => beh_small d1 d2 e (Sb.look_mem ((n.has e.1 e.2).1 he).1)
  refine su_text (m := 169) (by decide) ?_ fun e he => ?_
  · have := rising_len (lo := 0) (hi := 4) n.rising (fun i hi => by
      obtain ⟨e, he, rfl⟩ := List.mem_map.mp hi
      exact ⟨(each e he).1, (each e he).2.1⟩) (by decide)
    rw [List.length_map] at this
    omega
  · obtain ⟨a, b, c, d, f, g⟩ := each e he
    exact ⟨a, by omega, c, by omega, f, fun j hj => ⟨(g j hj).1, by have := (g j hj).2; omega⟩⟩
namespace Sb
theorem ren_vars (first : Int) : ∀ (l : List Int) (tb : Sb), (∀ e ∈ tb, ∃ i, e.2 = T.v i) → ∀ e ∈ ren first tb l, ∃ i, e.2 = T.v i
  | [], tb, h => h
  | i :: l, tb, h => by
    show ∀ e ∈ ren first (if (look tb i).isSome = true then tb else put tb i (.v (first + (tb.length : Int)))) l, ∃ i, e.2 = T.v i
    refine ren_vars first l _ ?_
    split
    · exact h
    · intro e he
      rcases mem_put he with z | z
      · rw [z]
        exact ⟨_, rfl⟩
      · exact h e z
theorem ren_asg (first : Int) (l : List Int) (j : Int) : ∃ i, (ren first [] l).asg j = T.v i := by
  show ∃ i, ((ren first [] l).look j).getD (.v j) = T.v i
  cases e : (ren first [] l).look j with
  | none => exact ⟨j, rfl⟩
  | some t => exact ren_vars first l [] (fun e he => nomatch he) _ (look_mem e)
end Sb
theorem ren_shaped {t : T} (n : t.named = true) (d : t.dep ≤ 60) (first : Int) (l : List Int) : SeqAt.shaped (T.fill (Sb.ren first [] l).asg t).d = true := by
  refine T.shaped (T.fill_named t n fun j _ => ?_) ?_
  · obtain ⟨i, e⟩ := Sb.ren_asg first l j
    rw [e]
    rfl
  · have := T.fill_dep (s := (Sb.ren first [] l).asg) (D := 0) t fun j _ => by
      obtain ⟨i, e⟩ := Sb.ren_asg first l j
      rw [e]
      exact Nat.le_refl _
    omega
/-! ### what a lap knows -/
structure Wk (K : PySem.W.Frag) (Pt p l ra : Addr) (ns : List Int) (c : Nat) (R : List Row) (G : Hp) : Prop where
  pen : Pn.Pen G p l ns c
  rows : RowsAt K G ra R
  tab : TabG G Pt
section
variable {K : PySem.W.Frag} {Pt p l ra : Addr} {ns : List Int} {c c' : Nat} {R : List Row} {G G' : Hp}
theorem Wk.same (h : Wk K Pt p l ra ns c R G) (s : Same G G') : Wk K Pt p l ra ns c R G' := ⟨pen_same h.pen s, h.rows.mono (TK.same s), tab_same s h.tab⟩
theorem Wk.new (h : Wk K Pt p l ra ns c R G) {q : Addr} (n : G q = none) (o : HO) : Wk K Pt p l ra ns c R (upd G q o) := h.same (same_new (fun b o e => e) n _)
theorem tab_ne {l : Addr} {ns : List Int} {c : Nat} (P : Pn.Pen G p l ns c) (t : TabG G Pt) : Pt ≠ p ∧ Pt ≠ l := by
  obtain ⟨ps, e, _⟩ := t
  obtain ⟨⟨_, _, _, e0, _⟩, e1⟩ := P
  refine ⟨fun z => ?_, fun z => ?_⟩
  · rw [← z, e] at e0
    cases e0
  · rw [← z, e] at e1
    cases e1
theorem tab_pen {l : Addr} {ns : List Int} {c : Nat} (P : Pn.Pen G p l ns c) (t : TabG G Pt) (b : Pn.But p G G') : TabG G' Pt := by
  have n := (tab_ne P t).1
  obtain ⟨ps, e, ok⟩ := t
  exact ⟨ps, b _ _ n e, ok⟩
theorem Wk.step (h : Wk K Pt p l ra ns c R G) (P : Pn.Pen G' p l ns c') (b : Pn.But p G G') : Wk K Pt p l ra ns c' R G' := ⟨P, h.rows.mono (pen_tk h.pen b), tab_pen h.pen h.tab b⟩
theorem Wk.but (h : Wk K Pt p l ra ns c R G) (b : ∀ q o, q ≠ Pt → G q = some o → G' q = some o) (t : TabG G' Pt) : Wk K Pt p l ra ns c R G' := by
  refine ⟨?_, h.rows.mono (tab_tk h.tab b), t⟩
  obtain ⟨n1, n2⟩ := tab_ne h.pen h.tab
  obtain ⟨⟨a, d, f, e, r⟩, e1⟩ := h.pen
  exact ⟨⟨a, d, f, b _ _ n1.symm e, r⟩, b _ _ n2.symm e1⟩
end
end Ad

/-! Rows of an order as data of any kind. -/
namespace Ad
open PySem PySem.Spec PySem.Calls PyProof.Rows L2
def isTL : PyData → Bool
  | .list _ => true
  | .tuple _ => true
  | _ => false
def isSt : PyData → Bool
  | .str _ => true
  | _ => false
theorem kit_st {K : PySem.W.Frag} : ∀ d : PyData, PySem.W.kitOne K (tyD d) (.type "str") = some (isSt d)
  | .none => kit_ty (a := "NoneType") (b := "str") (r := false) (by decide +kernel)
  | .bool _ => kit_ty (a := "bool") (b := "str") (r := false) (by decide +kernel)
  | .int _ => kit_ty (a := "int") (b := "str") (r := false) (by decide +kernel)
  | .str _ => kit_ty (a := "str") (b := "str") (r := true) (by decide +kernel)
  | .list _ => kit_ty (a := "list") (b := "str") (r := false) (by decide +kernel)
  | .tuple _ => kit_ty (a := "tuple") (b := "str") (r := false) (by decide +kernel)
  | .dict _ => kit_ty (a := "dict") (b := "str") (r := false) (by decide +kernel)
theorem kit_no {K : PySem.W.Frag} (a : String) (h1 : kitB a "list" = some false) (h2 : kitB a "tuple" = some false) : PySem.W.kitAny K (.type a) [.type "list", .type "tuple"] = some false :=
  kitAny_cons (b := false) (kit_ty (a := a) (b := "list") (r := false) h1) (fun _ => kitAny_cons (b := false) (kit_ty (a := a) (b := "tuple") (r := false) h2) (fun _ => rfl) (fun z => nomatch z)) (fun z => nomatch z)
theorem kit_tl {K : PySem.W.Frag} : ∀ d : PyData, PySem.W.kitAny K (tyD d) [.type "list", .type "tuple"] = some (isTL d)
  | .none => kit_no "NoneType" (by decide +kernel) (by decide +kernel)
  | .bool _ => kit_no "bool" (by decide +kernel) (by decide +kernel)
  | .int _ => kit_no "int" (by decide +kernel) (by decide +kernel)
  | .str _ => kit_no "str" (by decide +kernel) (by decide +kernel)
  | .list _ => kitLL
  | .tuple _ => kitTL
  | .dict _ => kit_no "dict" (by decide +kernel) (by decide +kernel)
def itemsD : PyData → List PyData
  | .list ds => ds
  | .tuple ds => ds
  | _ => []
def tri3 : List PyData → Bool
  | [a, b, c] => isSt a && (fromD b 0 && fromD c 1)
  | _ => false
/-- whether it is a triple -/
def tripleB (d : PyData) : Bool := isTL d && tri3 (itemsD d)
def row3 : List PyData → Row
  | [.str x, .int m, .int w] => (x, m.toNat, w)
  | _ => ("", 0, 0)
def rowD (d : PyData) : Row := row3 (itemsD d)
/-- the triples of a row, names being taken -/
def triplesF : List Str → List PyData → Option (List Row)
  | _, [] => some []
  | T, d :: ds => if tripleB d = true ∧ (rowD d).1 ∉ T then (triplesF (T ++ [(rowD d).1]) ds).map (rowD d :: ·) else none
theorem dp_seq {K : PySem.W.Frag} {H : Hp} {v : V} {d : PyData} (h : Dp K H v d) (t : isTL d = true) : ∃ a xs, v = .ref a ∧ SqX K H a xs ∧ DpAll K H xs (itemsD d) := by
  cases h with
  | lst h a => exact ⟨_, _, rfl, .inl h, a⟩
  | tup h a => exact ⟨_, _, rfl, .inr h, a⟩
  | _ => cases t
theorem tri3_row {ds : List PyData} (h : tri3 ds = true) : ∃ (x : Str) (m : Nat) (w : Int), ds = [.str x, .int (m : Int), .int w] ∧ 1 ≤ w ∧ row3 ds = (x, m, w) := by
  match ds, h with
  | [a, b, c], h =>
    have h' : (isSt a && (fromD b 0 && fromD c 1)) = true := h
    rw [Bool.and_eq_true, Bool.and_eq_true] at h'
    obtain ⟨h1, h2, h3⟩ := h'
    cases a with
    | str x =>
      cases b with
      | int i =>
        cases c with
        | int w =>
          have i0 : 0 ≤ i := of_decide_eq_true h2
          have w1 : 1 ≤ w := of_decide_eq_true h3
          refine ⟨x, i.toNat, w, ?_, w1, rfl⟩
          have e : ((i.toNat : Nat) : Int) = i := by omega
          rw [e]
        | _ => cases h3
      | _ => cases h2
    | _ => cases h1
end Ad

/-! Own errors with one field: their class's facts, their making. -/
namespace Ad
open PySem PySem.Spec PySem.Calls PyProof.Rows L2
/-- the class object of an own error with a dict, in one look -/
def oexO (K : PySem.W.Frag) (C : Addr) : Bool := match K.lookup C with
  | some ⟨.type "type", _, .cls cd, sl⟩ => (match cd.mro, sl.toList with
    | .ref D :: bm, [_, _, _, _, some (.builtin n), _] => D == C && (n == "ValueError.__new__" && (!cd.hasDel && (cd.hasDict && PySem.HandSPX.refsVE bm)))
    | _, _ => false)
  | _ => false
theorem oexO_ok {K : PySem.W.Frag} {C : Addr} (q : oexO K C = true) : ∃ nm qn N bs bm sn sub ab col dd k0 k1 k2 k3 k5, K.lookup C = some (excClassObj nm qn C N bs bm true sn sub ab col dd k0 k1 k2 k3 k5 "ValueError.__new__") ∧ PySem.HandSPX.refsVE bm = true := by
  unfold oexO at q
  split at q
  · rename_i dd cd sl look
    split at q
    · rename_i D bm k0 k1 k2 k3 n k5 em es
      rw [Bool.and_eq_true, Bool.and_eq_true, Bool.and_eq_true, Bool.and_eq_true] at q
      obtain ⟨q1, q2, q3, q4, q5⟩ := q
      have eD : D = C := beq_iff_eq.mp q1
      have en : n = "ValueError.__new__" := beq_iff_eq.mp q2
      subst eD en
      obtain ⟨nm, bs, mro, ns, qn, hd, sn, sub, ab, col, del⟩ := cd
      have em' : mro = .ref D :: bm := em
      have e3 : del = false := by
        have z : (!del) = true := q3
        cases del
        · rfl
        · cases z
      have e4 : hd = true := q4
      subst em' e3 e4
      have esl : sl = #[k0, k1, k2, k3, some (.builtin "ValueError.__new__"), k5] := by
        obtain ⟨l⟩ := sl
        have es' : l = _ := es
        rw [es']
      subst esl
      exact ⟨nm, qn, ns, bs, bm, sn, sub, ab, col, dd, k0, k1, k2, k3, k5, look, q5⟩
    · cases q
  · cases q
/-- what is asked of an own error's class -/
structure Er (K : PySem.W.Frag) (C f : Addr) (x : Str) : Prop where
  ox : OexC K C
  xf : XfC K C
  ini : PySem.W.findIn K (.ref C) "__init__" = some (some (.ref f))
  tI : PySem.W.typeIn K (.ref f) = some (.type "function")
  no : PySem.W.findIn K (.ref C) x = some none
def erB (K : PySem.W.Frag) (C f : Addr) (x : Str) : Bool :=
  oexO K C && (decide (PySem.W.findIn K (.ref C) "__setattr__" = some (some (.builtin "object.__setattr__"))) && (decide (PySem.W.subIn K (.ref C) (.type "BaseException") = some true) && (decide (PySem.W.typeIn K (.ref C) = some (.type "type")) && (PySem.W.keepIn K (.ref C) &&
  (xfB K C && (decide (PySem.W.findIn K (.ref C) "__init__" = some (some (.ref f))) && (decide (PySem.W.typeIn K (.ref f) = some (.type "function")) && decide (PySem.W.findIn K (.ref C) x = some none))))))))
theorem erB_ok {K : PySem.W.Frag} {C f : Addr} {x : Str} (h : erB K C f x = true) : Er K C f x := by
  unfold erB at h
  simp only [Bool.and_eq_true, decide_eq_true_eq] at h
  obtain ⟨h1, h2, h3, h4, h5, h6, h7, h8, h9⟩ := h
  exact ⟨⟨oexO_ok h1, h2, h3, h4, h5⟩, xfB_ok h6, h7, h8, h9⟩
/-- __init__(self, v): the field's dict stands, all else as it was -/
def spEr (C : Addr) (x : Str) : Sp := fun vs H Q _ => ∃ (a : Addr) (v : V), vs = [.ref a, v] ∧ H a = some (exo a C none) ∧
  ∀ (d : Addr) (H' : Hp), H d = none → d ≠ a → (∀ b, b ≠ d → b ≠ a → H' b = H b) → H' a = some (exo a C (some d)) → H' d = some (exd d [(x, v)]) → Q .non H'
/-- raise C(v): what is told of the heap -/
theorem mk_row {C : Addr} {x : Str} {H : Hp} {σ : L2.St} {ta : TA} {Q : XK} {v : V} (h : ta σ H fun vs H1 => vs = [v] ∧ H1 = H) (q : ∀ d H', Same H H' → H d = none → H' d = some (.xd [(x, v)]) → Q (.ref C) (some d) H') (mono : ∀ {Q1 Q2 : List V → Hp → Prop}, (∀ vs H1, Q1 vs H1 → Q2 vs H1) → ta σ H Q1 → ta σ H Q2) :
    tMkO C (spEr C x) [] ta σ H Q := by
  refine mono (fun vs H1 e => ?_) h
  obtain ⟨rfl, rfl⟩ := e
  refine ⟨by show 1 ≤ 1000; decide, fun a na => ⟨a, v, rfl, upd_same, fun d H' nd da kp ea ed => ⟨rfl, d, [(x, v)], ea, ed, ?_, ?_⟩⟩⟩
  · rw [upd_ne da] at nd
    exact nd
  · rw [upd_ne da] at nd
    refine q d _ (fun b o e => ?_) nd upd_same
    have h1 : b ≠ a := ne_of_none e na
    have h2 : b ≠ d := ne_of_none e nd
    rw [upd_ne h2, del_ne h1, kp b h2 h1, upd_ne h1]
    exact e
end Ad

namespace Ad
open PySem PySem.Spec PySem.Calls PyProof.Rows L2
abbrev sErRow : Stmt := inClass (topS 3) 0
theorem scErRow : FnScope ["self", "row"] ["self", "row"] (defScope sErRow) := ⟨rfl, rfl, rfl, by decide +kernel, rfl, by decide +kernel, by decide +kernel⟩
section
variable {P : Program} {w : World} {K : PySem.W.Frag} {mg : Str → Option Value} {base : Heap}
theorem ok_errow {f C : Addr} {fd : FuncData} (F : Fun K "__init__" "BadRow.__init__" sErRow f fd) (T : Er K C f "row") : FnOk P w K mg base CX0 1 f fd ["self", "row"] (spEr C "row") := by
  refine F.ok scErRow (fun vs H Q E h => ?_) (fun cdv A outer s H vs Q E hr h => ?_)
  · obtain ⟨a, v, rfl, _⟩ := h
    rfl
  · obtain ⟨a, v, rfl, ea, q⟩ := h
    refine ⟨_, pss_one (ps_ost (pv 0) (pv 1)), ?_⟩
    refine ⟨v, rfl, .ref a, rfl, a, C, rfl, T.ox, T.no, .inl ⟨ea, fun d nd ne => ?_⟩⟩
    exact q d _ nd ne (fun b h1 h2 => by rw [upd_ne h2, upd_ne h1]) upd_same (by rw [upd_ne ne, upd_same])
end
end Ad

namespace Ad
open PySem PySem.Spec PySem.Calls PyProof.Rows L2
abbrev sTripleD : Stmt := topS 9
theorem scTripleD : FnScope ["item"] ["item"] (defScope sTripleD) := ⟨rfl, rfl, rfl, by decide +kernel, rfl, by decide +kernel, by decide +kernel⟩
theorem ixA {K : PySem.W.Frag} {H : Hp} {b : Addr} {xs : List V} {i : Nat} {v : V} {Q : VK} (h : SqX K H b xs) (e : xs[i]? = some v) (q : Q v H) : rIx K (.ref b) (.int (i : Int)) H Q := by
  rcases h with h | h
  · exact .inl ⟨b, xs, (i : Int), v, rfl, rfl, h, atI_nat e, q⟩
  · exact .inr (.inl ⟨b, xs, (i : Int), v, rfl, rfl, h, atI_nat e, q⟩)
section
variable {P : Program} {w : World} {K : PySem.W.Frag} {mg : Str → Option Value} {base : Heap}
def spTripleD (K : PySem.W.Frag) : Sp := fun vs H Q _ => ∃ (v : V) (d : PyData), vs = [v] ∧ Dp K H v d ∧ ∀ H', Same H H' → Q (.bl (tripleB d)) H'
theorem ok_tripleD {f fF : Addr} {fd fdF : FuncData} {k : Nat} (F : Fun K "_is_triple" "_is_triple" sTripleD f fd) (hF : Has P w K mg base k "is_from" ["value", "least"] (spFromD K) fF fdF)
    (m_isinstance : mg "isinstance" = none) (m_list : mg "list" = none) (m_tuple : mg "tuple" = none) (m_len : mg "len" = none) (m_str : mg "str" = none) : FnOk P w K mg base CX0 (k + 1) f fd ["item"] (spTripleD K) := by
  refine F.ok scTripleD (fun vs H Q E h => ?_) (fun cdv A outer s H vs Q E hr h => ?_)
  · obtain ⟨v, d, rfl, _⟩ := h
    rfl
  · obtain ⟨v, d, rfl, hd, q⟩ := h
    refine ⟨_, (pss_cons (ps_if (PW.pt (pw_or (pt_not (pt_val (pe_callB call_isiT (by rfl) m_isinstance (by decide +kernel) (pa_cons (pv 0) (pa_cons (pe_tup (pa_cons (pe_bltn (v := .ty "list") (by rfl) m_list (by decide +kernel) rfl) (pa_cons (pe_bltn (v := .ty "tuple") (by rfl) m_tuple (by decide +kernel) rfl) pa_nil))) pa_nil))))) (pw_or1 (pt_cmpR op_ne (pe_callB call_len_seq (by rfl) m_len PySem.boot_len (pa_cons (pv 0) pa_nil)) pe_int (nomark _)))))
      (pss_one (ps_ret pe_bl)) pss_nil)
    (pss_one (ps_ret (pe_and (pe_callB call_isi (by rfl) m_isinstance (by decide +kernel) (pa_cons (pe_ix ix_seq (pv 0) pe_int (fun _ _ => rfl)) (pa_cons (pe_bltn (v := .ty "str") (by rfl) m_str (by decide +kernel) rfl) pa_nil))) (pe_and (pe_call hF.G hr (by rfl) hF.g hF.kp hF.b .nil pass0 (pa_cons (pe_ix ix_seq (pv 0) pe_int (fun _ _ => rfl)) (pa_cons pe_int pa_nil))) (pe_one (pe_call hF.G hr (by rfl) hF.g hF.kp hF.b .nil pass0 (pa_cons (pe_ix ix_seq (pv 0) pe_int (fun _ _ => rfl)) (pa_cons pe_int pa_nil))))))))), ?_⟩
    refine ⟨v, rfl, (by show 2 ≤ sizeLine; decide), fun tp np => ?_⟩
    have s1 : Same H (upd H tp (.tup [.ty "list", .ty "tuple"])) := same_new (fun b o e => e) np _
    have m1 : (upd H tp (.tup [.ty "list", .ty "tuple"])) tp = some (.tup [.ty "list", .ty "tuple"]) := upd_same
    replace hd := dp_same s1 hd
    generalize upd H tp (.tup [.ty "list", .ty "tuple"]) = H1 at s1 m1 hd
    have no : tripleB d = false → Q (.bl false) H1 := fun e => by
      have z := q H1 s1
      rw [e] at z
      exact z
    refine ⟨v, tp, _, tyD d, [.type "list", .type "tuple"], isTL d, rfl, m1, .cons (.ty "list") (.cons (.ty "tuple") .nil), dp_ty hd, kit_tl d, isTL d, rfl, ?_⟩
    cases ht : isTL d with
    | false => exact iteT (iteT (no (by unfold tripleB; rw [ht]; rfl)))
    | true =>
    refine iteF ?_
    obtain ⟨a, xs, rfl, hx, ha⟩ := dp_seq hd ht
    have lx := dpAll_len ha
    refine ⟨.ref a, rfl, a, _, rfl, hx, rfl, _, rfl, ?_⟩
    by_cases l3 : (itemsD d).length = 3
    · match e3 : itemsD d, l3 with
      | [d1, d2, d3], _ =>
      have tb : tripleB d = (isSt d1 && (fromD d2 0 && fromD d3 1)) := by
        unfold tripleB
        rw [ht, e3]
        rfl
      rw [e3] at ha
      cases ha with
      | @cons w1 _ _ _ hw1 ha =>
      cases ha with
      | @cons w2 _ _ _ hw2 ha =>
      cases ha with
      | @cons w3 _ _ _ hw3 ha =>
      cases ha
      refine iteF ?_
      refine ⟨.ref a, rfl, ixA (i := 0) hx rfl ?_⟩
      refine ⟨w1, .ty "str", tyD d1, .type "str", isSt d1, rfl, .ty "str", dp_ty hw1, kit_st d1, isSt d1, rfl, ?_⟩
      refine ite2 (fun h1 => ?_) (fun h1 => no (by rw [tb, (Bool.not_eq_true _).mp h1]; rfl))
      refine ⟨.ref a, rfl, ixA (i := 1) hx rfl ?_⟩
      refine ⟨w2, 0, d2, rfl, hw2, fromD d2 0, rfl, ?_⟩
      refine ite2 (fun h2 => ?_) (fun h2 => no (by rw [tb, (Bool.not_eq_true _).mp h2, Bool.false_and, Bool.and_false]))
      refine ⟨.ref a, rfl, ixA (i := 2) hx rfl ?_⟩
      refine ⟨w3, 1, d3, rfl, hw3, ?_⟩
      have e : fromD d3 1 = tripleB d := by rw [tb, h1, h2]; rfl
      rw [e]
      exact q H1 s1
    · have tb : tripleB d = false := by
        unfold tripleB
        have z : tri3 (itemsD d) = false := by
          cases h : tri3 (itemsD d) with
          | false => rfl
          | true =>
            obtain ⟨x, m, w, e, _⟩ := tri3_row h
            rw [e] at l3
            exact absurd rfl l3
        rw [z, Bool.and_false]
      have ne : (!decide (V.int (xs.length : Int) = V.int 3)) = true := by
        rw [decide_eq_false (fun z => l3 (by have := V.int.inj z; omega))]
        rfl
      rw [ne]
      exact iteT (no tb)
end
end Ad

namespace Ad
open PySem PySem.Spec PySem.Calls PyProof.Rows L2
abbrev sTriplesD : Stmt := topS 8
theorem scTriplesD : FnScope ["row", "taken", "names", "triples", "item"] ["row", "taken"] (defScope sTriplesD) := ⟨rfl, rfl, rfl, by decide +kernel, rfl, by decide +kernel, by decide +kernel⟩
theorem inV_str (n : Str) (L : List Str) : inV (.str n) (L.map V.str) = decide (n ∈ L) := by
  by_cases h : n ∈ L
  · rw [decide_eq_true h]
    unfold inV
    rw [List.any_eq_true]
    exact ⟨.str n, List.mem_map.mpr ⟨n, h, rfl⟩, by show (n == n) = true; simp⟩
  · rw [decide_eq_false h]
    unfold inV
    rw [List.any_eq_false]
    intro y hy
    obtain ⟨m, hm, rfl⟩ := List.mem_map.mp hy
    show ¬ (m == n) = true
    intro z
    exact h (by rw [← (beq_iff_eq.mp z)]; exact hm)
theorem strs_flat (L : List Str) : (L.map V.str).all flatV = true := by
  rw [List.all_eq_true]
  intro y hy
  obtain ⟨m, hm, rfl⟩ := List.mem_map.mp hy
  rfl
section
variable {P : Program} {w : World} {K : PySem.W.Frag} {mg : Str → Option Value} {base : Heap}
def spTriplesD (K : PySem.W.Frag) : Sp := fun vs H Q _ => ∃ (v : V) (tk : Addr) (T : List Str), vs = [v, .ref tk] ∧ H tk = some (.lst (T.map V.str)) ∧ T.length ≤ 100 ∧
  ((∃ ty, TyX K H v ty ∧ PySem.W.kitAny K ty [.type "list", .type "tuple"] = some false ∧ ∀ H', Same H H' → Q .non H') ∨
   ∃ (ra : Addr) (xs : List V) (ds : List PyData), v = .ref ra ∧ SqX K H ra xs ∧ DpAll K H xs ds ∧ ds.length ≤ 100 ∧ (triplesF T ds = none → ∀ H', Same H H' → Q .non H') ∧
     ∀ R, triplesF T ds = some R → ∀ H' p ys, Same H H' → H p = none → SqT K H' p ys → F2 (RowV K H') R ys → Q (.ref p) H')
theorem ok_triplesD {f fF : Addr} {fd fdF : FuncData} {k : Nat} (F : Fun K "_triples_of" "_triples_of" sTriplesD f fd) (hF : Has P w K mg base k "_is_triple" ["item"] (spTripleD K) fF fdF)
    (m_isinstance : mg "isinstance" = none) (m_list : mg "list" = none) (m_tuple : mg "tuple" = none) : FnOk P w K mg base CX0 (k + 1) f fd ["row", "taken"] (spTriplesD K) := by
  refine F.ok scTriplesD (fun vs H Q E h => ?_) (fun cdv A outer s H vs Q E hr h => ?_)
  · obtain ⟨v, tk, T, rfl, _⟩ := h
    rfl
  · obtain ⟨v, tk, T, rfl, htk, few, h⟩ := h
    refine ⟨_, (pss_cons (ps_if (pt_not (pt_val (pe_callB call_isiT (by rfl) m_isinstance (by decide +kernel) (pa_cons (pv 0) (pa_cons (pe_tup (pa_cons (pe_bltn (v := .ty "list") (by rfl) m_list (by decide +kernel) rfl) (pa_cons (pe_bltn (v := .ty "tuple") (by rfl) m_tuple (by decide +kernel) rfl) pa_nil))) pa_nil)))))
      (pss_one (ps_ret pe_non)) pss_nil)
    (pss_cons (ps_set (i := 2) scTriplesD.nd rfl (.inl rfl) (pe_callTy call_list_of (by rfl) m_list (by decide +kernel) (pa_cons (pv 1) pa_nil)))
    (pss_cons (ps_set (i := 3) scTriplesD.nd rfl (.inl rfl) (pe_lst pa_nil))
    (pss_cons (ps_for PassesOwn.never rfl (Et.pi_any (pv 0)) (pg_name (i := 4) scTriplesD.nd rfl (.inl rfl))
      (pss_cons (ps_if (PW.pt (pw_or (pt_not (pt_val (pe_call hF.G hr (by rfl) hF.g hF.kp hF.b .nil pass0 (pa_cons (pv 4) pa_nil)))) (pw_or1 (pt_cmpR op_in_seq (pe_ix ix_seq (pv 4) pe_int (fun _ _ => rfl)) (pv 2) (by with_unfolding_all rfl)))))
        (pss_one (ps_ret pe_non)) pss_nil)
      (pss_cons (ps_expr (pe_bm PySem.F.plainAttrs_list PySem.F.slot_list_append PySem.F.type_list_append mt_append (pv 2) (pa_cons (pe_ix ix_seq (pv 4) pe_int (fun _ _ => rfl)) pa_nil)))
      (pss_one (ps_expr (pe_bm PySem.F.plainAttrs_list PySem.F.slot_list_append PySem.F.type_list_append mt_append (pv 3) (pa_cons (pe_callTy call_tuple_of (by rfl) m_tuple (by decide +kernel) (pa_cons (pv 4) pa_nil)) pa_nil)))))))
    (pss_one (ps_ret (pe_callTy call_tuple_of (by rfl) m_tuple (by decide +kernel) (pa_cons (pv 3) pa_nil)))))))), ?_⟩
    refine ⟨v, rfl, (by show 2 ≤ sizeLine; decide), fun tp np => ?_⟩
    have s1 : Same H (upd H tp (.tup [.ty "list", .ty "tuple"])) := same_new (fun b o e => e) np _
    have m1 : (upd H tp (.tup [.ty "list", .ty "tuple"])) tp = some (.tup [.ty "list", .ty "tuple"]) := upd_same
    rcases h with ⟨ty, h1, h2, q⟩ | ⟨ra, xs, ds, rfl, hx, ha, many, qn, qs⟩
    · have s1' := s1
      refine ⟨v, tp, _, ty, [.type "list", .type "tuple"], false, rfl, m1, .cons (.ty "list") (.cons (.ty "tuple") .nil), ?_, h2, false, rfl, iteT (q _ s1')⟩
      cases h1 with
      | base b =>
        refine .base ?_
        cases b with
        | non => exact .non
        | bl x => exact .bl x
        | int i => exact .int i
        | str x => exact .str x
        | flt x => exact .flt x
        | lst e => exact .lst (s1 _ _ e)
        | frz e => exact .frz (s1 _ _ e)
        | tup e => exact .tup (s1 _ _ e)
        | dK e => exact .dK (s1 _ _ e)
        | dT e => exact .dT (s1 _ _ e)
        | ins e cl ha hn htk2 hm => exact .ins (s1 _ _ e) cl ha hn htk2 hm
      | byt b => exact .byt b
      | set e => exact .set (s1 _ _ e)
      | kList e c => exact .kList e c
      | kTuple e c => exact .kTuple e c
      | kDict e c => exact .kDict e c
      | fTuple e => exact .fTuple (s1 _ _ e)
      | fDict e => exact .fDict (s1 _ _ e)
    generalize upd H tp (.tup [.ty "list", .ty "tuple"]) = H1 at s1 m1
    obtain ⟨t, ty, kit⟩ := sqx_ty (hx.same s1)
    refine ⟨.ref ra, tp, _, t, [.type "list", .type "tuple"], true, rfl, m1, .cons (.ty "list") (.cons (.ty "tuple") .nil), ty, kit, true, rfl, ?_⟩
    refine iteF ?_
    have lx := dpAll_len ha
    refine ⟨.ref tk, rfl, tk, _, rfl, .inl (.inl (.inl (s1 _ _ htk))), fun dN nN => ?_⟩
    have nNH : H dN = none := by
      cases z : H dN with
      | none => rfl
      | some o =>
        rw [s1 _ _ z] at nN
        cases nN
    have s2 : Same H (upd H1 dN (.lst (T.map V.str))) := same_on s1 nNH _
    have m2 : (upd H1 dN (.lst (T.map V.str))) dN = some (.lst (T.map V.str)) := upd_same
    generalize upd H1 dN (.lst (T.map V.str)) = H2 at s2 m2
    refine ⟨Nat.zero_le _, fun dT nT => ?_⟩
    have nTH : H dT = none := by
      cases z : H dT with
      | none => rfl
      | some o =>
        rw [s2 _ _ z] at nT
        cases nT
    have dne : dN ≠ dT := fun e => by
      rw [← e, m2] at nT
      cases nT
    have s3 : Same H (upd H2 dT (.lst [])) := same_on s2 nTH _
    have m3 : (upd H2 dT (.lst [])) dT = some (.lst []) := upd_same
    have m2' : (upd H2 dT (.lst [])) dN = some (.lst (T.map V.str)) := by rw [upd_ne dne]; exact m2
    generalize upd H2 dT (.lst []) = H3 at s3 m3 m2'
    let Pv : Nat → L2.St → Hp → Prop := fun i σ G => ∃ (v4 : Option V) (ts : List V) (T' : List Str) (R : List Row), σ = [some (.ref ra), some (.ref tk), some (.ref dN), some (.ref dT), v4] ∧ Same H G ∧ G dN = some (.lst (T'.map V.str)) ∧ G dT = some (.lst ts) ∧ F2 (RowV K G) R ts ∧ T'.length = T.length + i ∧ R.length = i ∧
      triplesF T ds = (triplesF T' (ds.drop i)).map (R ++ ·)
    have p0 : Pv 0 [some (.ref ra), some (.ref tk), some (.ref dN), some (.ref dT), none] H3 := ⟨none, [], T, [], rfl, s3, m2', m3, rfl, rfl, rfl, by
      show triplesF T ds = (triplesF T ds).map ([] ++ ·)
      cases triplesF T ds <;> rfl⟩
    have last : ∀ σ G, Pv xs.length σ G → ∃ (ts : List V) (R : List Row), σ[3]? = some (some (.ref dT)) ∧ G dT = some (.lst ts) ∧ Same H G ∧ F2 (RowV K G) R ts ∧ triplesF T ds = some R := by
      rintro σ G ⟨v4, ts, T', R, rfl, sm, gN, gT, fts, lT, lR, eq⟩
      rw [lx, List.drop_length] at eq
      have e : triplesF T ds = some R := by
        rw [eq]
        show some (R ++ []) = some R
        rw [List.append_nil]
      exact ⟨ts, R, rfl, gT, sm, fts, e⟩
    have step : ∀ i x σ G, xs[i]? = some x → Pv i σ G → ∃ (v4 : Option V) (ts : List V) (T' : List Str) (R : List Row) (d : PyData), σ = [some (.ref ra), some (.ref tk), some (.ref dN), some (.ref dT), v4] ∧ Same H G ∧ G dN = some (.lst (T'.map V.str)) ∧ G dT = some (.lst ts) ∧ F2 (RowV K G) R ts ∧ T'.length = T.length + i ∧ R.length = i ∧ i < ds.length ∧ Dp K G x d ∧ Dp K H x d ∧
        (tripleB d = false → triplesF T ds = none) ∧ (tripleB d = true → (rowD d).1 ∈ T' → triplesF T ds = none) ∧ (tripleB d = true → (rowD d).1 ∉ T' → triplesF T ds = (triplesF (T' ++ [(rowD d).1]) (ds.drop (i + 1))).map ((R ++ [rowD d]) ++ ·)) := by
      rintro i x σ G hi ⟨v4, ts, T', R, rfl, sm, gN, gT, fts, lT, lR, eq⟩
      obtain ⟨d, hd, hv⟩ := dpAll_get ha hi
      have ilt := (List.getElem?_eq_some_iff.mp hd).1
      have dr : ds.drop i = d :: ds.drop (i + 1) := by
        rw [List.drop_eq_getElem_cons ilt]
        congr 1
        rw [List.getElem?_eq_getElem ilt] at hd
        exact Option.some.inj hd
      rw [dr] at eq
      have un : triplesF T' (d :: ds.drop (i + 1)) = if tripleB d = true ∧ (rowD d).1 ∉ T' then (triplesF (T' ++ [(rowD d).1]) (ds.drop (i + 1))).map (rowD d :: ·) else none := rfl
      refine ⟨v4, ts, T', R, d, rfl, sm, gN, gT, fts, lT, lR, ilt, dp_same sm hv, hv, fun h => ?_, fun h m => ?_, fun h m => ?_⟩
      · rw [eq, un, if_neg (fun z => by rw [h] at z; exact Bool.noConfusion z.1)]
        rfl
      · rw [eq, un, if_neg (fun z => z.2 m)]
        rfl
      · rw [eq, un, if_pos ⟨h, m⟩]
        cases triplesF (T' ++ [(rowD d).1]) (ds.drop (i + 1)) with
        | none => rfl
        | some z =>
          show some (R ++ rowD d :: z) = some ((R ++ [rowD d]) ++ z)
          rw [List.append_assoc]
          rfl
    refine ⟨.ref ra, rfl, ra, rfl, ?_⟩
    rcases hx with hx | hx
    · refine .inl ⟨xs, s3.seq hx, for_list (K := K) (a := ra) (xs := xs) Pv p0 (fun i σ G _ ⟨_, _, _, _, _, sm, _⟩ => sm.seq hx) ?_ ?_⟩
      · intro i x σ G hi pv
        obtain ⟨v4, ts, T', R, d, rfl, sm, gN, gT, fts, lT, lR, ilt, hv, hv0, c1, c2, c3⟩ := step i x σ G hi pv
        refine ⟨x, rfl, x, d, rfl, hv, fun G1 sm1 => ?_⟩
        refine ⟨tripleB d, rfl, ?_⟩
        cases ht : tripleB d with
        | false => exact iteT (iteT (qn (c1 ht) G1 fun b o e => sm1 _ _ (sm _ _ e)))
        | true =>
        refine iteF ?_
        have ht' := ht
        unfold tripleB at ht'
        rw [Bool.and_eq_true] at ht'
        obtain ⟨a, zs, rfl, hz, hza⟩ := dp_seq (dp_same sm1 hv) ht'.1
        obtain ⟨nm, ar, wt, e3, w1, er⟩ := tri3_row ht'.2
        have er' : rowD d = (nm, ar, wt) := er
        rw [e3] at hza
        have ez : zs = [.str nm, .int (ar : Int), .int wt] := by
          cases hza with
          | cons h1 hza =>
          cases hza with
          | cons h2 hza =>
          cases hza with
          | cons h3 hza =>
          cases hza
          cases h1
          cases h2
          cases h3
          rfl
        subst ez
        replace gN := sm1 _ _ gN
        replace gT := sm1 _ _ gT
        replace fts := fts.mono (RowV.mono (TK.same sm1))
        have sm01 : Same H G1 := fun b o e => sm1 _ _ (sm _ _ e)
        have lts := fts.len
        refine ⟨.ref a, rfl, ixA (i := 0) hz rfl ?_⟩
        refine ⟨.ref dN, rfl, dN, _, rfl, .inl (.inl (.inl gN)), rfl, strs_flat _, decide (nm ∈ T'), congrArg V.bl (inV_str nm T'), ?_⟩
        by_cases hm : nm ∈ T'
        · rw [decide_eq_true hm]
          exact iteT (qn (c2 ht (by rw [er']; exact hm)) G1 sm01)
        rw [decide_eq_false hm]
        refine iteF ?_
        have eqn := c3 ht (by rw [er']; exact hm)
        rw [er'] at eqn
        refine ⟨.ref dN, rfl, .inl ⟨rfl, _, .inl (.inl gN)⟩, .ref a, rfl, ixA (i := 0) hz rfl ?_⟩
        refine ⟨dN, _, .str nm, rfl, rfl, gN, by rw [List.length_map, sizeLine_eq]; omega, ?_⟩
        have nx : Same H (upd G1 dN (.lst (T'.map V.str ++ [.str nm]))) := same_on sm01 nNH _
        have kx : TK G1 (upd G1 dN (.lst (T'.map V.str ++ [.str nm]))) := TK.lst gN _
        have gN2 : (upd G1 dN (.lst (T'.map V.str ++ [.str nm]))) dN = some (.lst ((T' ++ [nm]).map V.str)) := by rw [upd_same, List.map_append]; rfl
        have gT2 : (upd G1 dN (.lst (T'.map V.str ++ [.str nm]))) dT = some (.lst ts) := by rw [upd_ne dne.symm]; exact gT
        have fts2 := fts.mono (RowV.mono kx)
        obtain ⟨a2, zs2, ea, hz2, hza2⟩ := dp_seq (dp_same nx hv0) ht'.1
        cases ea
        rw [e3] at hza2
        have ez2 : zs2 = [.str nm, .int (ar : Int), .int wt] := by
          cases hza2 with
          | cons h1 hza2 =>
          cases hza2 with
          | cons h2 hza2 =>
          cases hza2 with
          | cons h3 hza2 =>
          cases hza2
          cases h1
          cases h2
          cases h3
          rfl
        subst ez2
        generalize upd G1 dN (.lst (T'.map V.str ++ [.str nm])) = G2 at nx kx gN2 gT2 fts2 hz2
        have fin : ∀ (c : Addr) (G3 : Hp), Same G2 G3 → SqT K G3 c [.str nm, .int (ar : Int), .int wt] → ∃ l xs y, V.ref dT = .ref l ∧ [V.ref c] = [y] ∧ G3 l = some (.lst xs) ∧ xs.length < sizeLine ∧ Pv (i + 1) [some (.ref ra), some (.ref tk), some (.ref dN), some (.ref dT), some (.ref a)] (upd G3 l (.lst (xs ++ [y]))) := by
          intro c G3 sm3 hc
          have k3 : TK G3 (upd G3 dT (.lst (ts ++ [.ref c]))) := TK.lst (sm3 _ _ gT2) _
          refine ⟨dT, ts, .ref c, rfl, rfl, sm3 _ _ gT2, by rw [sizeLine_eq]; omega, some (.ref a), ts ++ [.ref c], T' ++ [nm], R ++ [(nm, ar, wt)], rfl, same_on (H := H) (H' := G3) (fun b o e => sm3 _ _ (nx _ _ e)) nTH _, by rw [upd_ne dne]; exact sm3 _ _ gN2, upd_same, F2.app (fts2.mono (RowV.mono ((TK.same sm3).trans k3))) (F2.one ⟨c, rfl, k3.sq hc⟩), by rw [List.length_append, List.length_singleton, lT]; omega, by rw [List.length_append, List.length_singleton, lR], eqn⟩
        refine ⟨.ref dT, rfl, .inl ⟨rfl, _, .inl (.inl gT2)⟩, .ref a, rfl, a, [.str nm, .int (ar : Int), .int wt], rfl, ?_⟩
        rcases hz2 with hz2 | hz2
        · exact .inl ⟨hz2, fun c nc => fin c _ (same_new (fun b o e => e) nc _) (.inl (.inl upd_same))⟩
        · exact .inr ⟨hz2, fin a G2 (fun b o e => e) hz2⟩
      · intro σ G pv
        obtain ⟨ts, R, e3, gT, sm, fts, e⟩ := last σ G pv
        refine ⟨.ref dT, e3, dT, ts, rfl, .inl ⟨.inl (.inl gT), fun p np => ?_⟩⟩
        have npH : H p = none := by
          cases z : H p with
          | none => rfl
          | some o =>
            rw [sm _ _ z] at np
            cases np
        have s4 : Same H (upd G p (.tup ts)) := same_new sm np _
        exact qs R e _ p ts s4 npH (.inl (.inl upd_same)) (fts.mono (RowV.mono (TK.new np _)))
    · refine .inr ⟨xs, (TK.same s3).sq hx, for_tup (K := K) (a := ra) (xs := xs) Pv p0 (fun i σ G _ ⟨_, _, _, _, _, sm, _⟩ => (TK.same sm).sq hx) ?_ ?_⟩
      · intro i x σ G hi pv
        obtain ⟨v4, ts, T', R, d, rfl, sm, gN, gT, fts, lT, lR, ilt, hv, hv0, c1, c2, c3⟩ := step i x σ G hi pv
        refine ⟨x, rfl, x, d, rfl, hv, fun G1 sm1 => ?_⟩
        refine ⟨tripleB d, rfl, ?_⟩
        cases ht : tripleB d with
        | false => exact iteT (iteT (qn (c1 ht) G1 fun b o e => sm1 _ _ (sm _ _ e)))
        | true =>
        refine iteF ?_
        have ht' := ht
        unfold tripleB at ht'
        rw [Bool.and_eq_true] at ht'
        obtain ⟨a, zs, rfl, hz, hza⟩ := dp_seq (dp_same sm1 hv) ht'.1
        obtain ⟨nm, ar, wt, e3, w1, er⟩ := tri3_row ht'.2
        have er' : rowD d = (nm, ar, wt) := er
        rw [e3] at hza
        have ez : zs = [.str nm, .int (ar : Int), .int wt] := by
          cases hza with
          | cons h1 hza =>
          cases hza with
          | cons h2 hza =>
          cases hza with
          | cons h3 hza =>
          cases hza
          cases h1
          cases h2
          cases h3
          rfl
        subst ez
        replace gN := sm1 _ _ gN
        replace gT := sm1 _ _ gT
        replace fts := fts.mono (RowV.mono (TK.same sm1))
        have sm01 : Same H G1 := fun b o e => sm1 _ _ (sm _ _ e)
        have lts := fts.len
        refine ⟨.ref a, rfl, ixA (i := 0) hz rfl ?_⟩
        refine ⟨.ref dN, rfl, dN, _, rfl, .inl (.inl (.inl gN)), rfl, strs_flat _, decide (nm ∈ T'), congrArg V.bl (inV_str nm T'), ?_⟩
        by_cases hm : nm ∈ T'
        · rw [decide_eq_true hm]
          exact iteT (qn (c2 ht (by rw [er']; exact hm)) G1 sm01)
        rw [decide_eq_false hm]
        refine iteF ?_
        have eqn := c3 ht (by rw [er']; exact hm)
        rw [er'] at eqn
        refine ⟨.ref dN, rfl, .inl ⟨rfl, _, .inl (.inl gN)⟩, .ref a, rfl, ixA (i := 0) hz rfl ?_⟩
        refine ⟨dN, _, .str nm, rfl, rfl, gN, by rw [List.length_map, sizeLine_eq]; omega, ?_⟩
        have nx : Same H (upd G1 dN (.lst (T'.map V.str ++ [.str nm]))) := same_on sm01 nNH _
        have kx : TK G1 (upd G1 dN (.lst (T'.map V.str ++ [.str nm]))) := TK.lst gN _
        have gN2 : (upd G1 dN (.lst (T'.map V.str ++ [.str nm]))) dN = some (.lst ((T' ++ [nm]).map V.str)) := by rw [upd_same, List.map_append]; rfl
        have gT2 : (upd G1 dN (.lst (T'.map V.str ++ [.str nm]))) dT = some (.lst ts) := by rw [upd_ne dne.symm]; exact gT
        have fts2 := fts.mono (RowV.mono kx)
        obtain ⟨a2, zs2, ea, hz2, hza2⟩ := dp_seq (dp_same nx hv0) ht'.1
        cases ea
        rw [e3] at hza2
        have ez2 : zs2 = [.str nm, .int (ar : Int), .int wt] := by
          cases hza2 with
          | cons h1 hza2 =>
          cases hza2 with
          | cons h2 hza2 =>
          cases hza2 with
          | cons h3 hza2 =>
          cases hza2
          cases h1
          cases h2
          cases h3
          rfl
        subst ez2
        generalize upd G1 dN (.lst (T'.map V.str ++ [.str nm])) = G2 at nx kx gN2 gT2 fts2 hz2
        have fin : ∀ (c : Addr) (G3 : Hp), Same G2 G3 → SqT K G3 c [.str nm, .int (ar : Int), .int wt] → ∃ l xs y, V.ref dT = .ref l ∧ [V.ref c] = [y] ∧ G3 l = some (.lst xs) ∧ xs.length < sizeLine ∧ Pv (i + 1) [some (.ref ra), some (.ref tk), some (.ref dN), some (.ref dT), some (.ref a)] (upd G3 l (.lst (xs ++ [y]))) := by
          intro c G3 sm3 hc
          have k3 : TK G3 (upd G3 dT (.lst (ts ++ [.ref c]))) := TK.lst (sm3 _ _ gT2) _
          refine ⟨dT, ts, .ref c, rfl, rfl, sm3 _ _ gT2, by rw [sizeLine_eq]; omega, some (.ref a), ts ++ [.ref c], T' ++ [nm], R ++ [(nm, ar, wt)], rfl, same_on (H := H) (H' := G3) (fun b o e => sm3 _ _ (nx _ _ e)) nTH _, by rw [upd_ne dne]; exact sm3 _ _ gN2, upd_same, F2.app (fts2.mono (RowV.mono ((TK.same sm3).trans k3))) (F2.one ⟨c, rfl, k3.sq hc⟩), by rw [List.length_append, List.length_singleton, lT]; omega, by rw [List.length_append, List.length_singleton, lR], eqn⟩
        refine ⟨.ref dT, rfl, .inl ⟨rfl, _, .inl (.inl gT2)⟩, .ref a, rfl, a, [.str nm, .int (ar : Int), .int wt], rfl, ?_⟩
        rcases hz2 with hz2 | hz2
        · exact .inl ⟨hz2, fun c nc => fin c _ (same_new (fun b o e => e) nc _) (.inl (.inl upd_same))⟩
        · exact .inr ⟨hz2, fin a G2 (fun b o e => e) hz2⟩
      · intro σ G pv
        obtain ⟨ts, R, e3, gT, sm, fts, e⟩ := last σ G pv
        refine ⟨.ref dT, e3, dT, ts, rfl, .inl ⟨.inl (.inl gT), fun p np => ?_⟩⟩
        have npH : H p = none := by
          cases z : H p with
          | none => rfl
          | some o =>
            rw [sm _ _ z] at np
            cases np
        have s4 : Same H (upd G p (.tup ts)) := same_new sm np _
        exact qs R e _ p ts s4 npH (.inl (.inl upd_same)) (fts.mono (RowV.mono (TK.new np _)))
end
end Ad

namespace Ad
open PySem PySem.Spec PySem.Calls PyProof.Rows L2
abbrev sFrom : Stmt := topS 5
theorem scFrom : FnScope ["value", "least"] ["value", "least"] (defScope sFrom) := ⟨rfl, rfl, rfl, by decide +kernel, rfl, by decide +kernel, by decide +kernel⟩
section
variable {P : Program} {w : World} {K : PySem.W.Frag} {mg : Str → Option Value} {base : Heap}
def spFrom : Sp := fun vs H Q _ => ∃ i m : Int, vs = [.int i, .int m] ∧ Q (.bl (decide (m ≤ i))) H
theorem ok_from {f : Addr} {fd : FuncData} {k : Nat} (F : Fun K "is_from" "is_from" sFrom f fd) (m_isinstance : mg "isinstance" = none) (m_int : mg "int" = none) (m_bool : mg "bool" = none) : FnOk P w K mg base CX0 (k + 1) f fd ["value", "least"] spFrom := by
  refine F.ok scFrom (fun vs H Q E h => ?_) (fun cdv A outer s H vs Q E hr h => ?_)
  · obtain ⟨i, m, rfl, _⟩ := h
    rfl
  · obtain ⟨i, m, rfl, q⟩ := h
    refine ⟨_, (pss_one (ps_ret (pe_and (pe_callB call_isi (by rfl) m_isinstance (by decide +kernel) (pa_cons (pv 0) (pa_cons (pe_bltn (v := .ty "int") (by rfl) m_int (by decide +kernel) rfl) pa_nil))) (pe_and (pe_not (pe_callB call_isi (by rfl) m_isinstance (by decide +kernel) (pa_cons (pv 0) (pa_cons (pe_bltn (v := .ty "bool") (by rfl) m_bool (by decide +kernel) rfl) pa_nil)))) (pe_one (pe_cmpR op_ge (pv 0) (pv 1) (nomark _))))))), ?_⟩
    refine ⟨.int i, rfl, _, .ty "int", .type "int", .type "int", true, rfl, .ty "int", .base (.int i), kitII, true, rfl, ?_⟩
    refine iteT ?_
    refine ⟨.int i, rfl, _, .ty "bool", .type "int", .type "bool", false, rfl, .ty "bool", .base (.int i), kitIB, false, rfl, _, rfl, ?_⟩
    refine iteT ?_
    exact ⟨.int i, rfl, .int m, rfl, _, _, rfl, rfl, q⟩
end
end Ad

namespace Ad
open PySem PySem.Spec PySem.Calls PyProof.Rows L2
abbrev sTriple : Stmt := topS 9
theorem scTriple : FnScope ["item"] ["item"] (defScope sTriple) := ⟨rfl, rfl, rfl, by decide +kernel, rfl, by decide +kernel, by decide +kernel⟩
theorem ix_x {K : PySem.W.Frag} {H : Hp} {b : Addr} {xs : List V} {i : Nat} {v : V} {Q : VK} (h : SqX K H b xs) (e : xs[i]? = some v) (q : Q v H) : rIx K (.ref b) (.int (i : Int)) H Q := by
  rcases h with h | h
  · exact .inl ⟨b, xs, (i : Int), v, rfl, rfl, h, atI_nat e, q⟩
  · exact .inr (.inl ⟨b, xs, (i : Int), v, rfl, rfl, h, atI_nat e, q⟩)
section
variable {P : Program} {w : World} {K : PySem.W.Frag} {mg : Str → Option Value} {base : Heap}
def spTriple (K : PySem.W.Frag) : Sp := fun vs H Q _ => ∃ (r : Row) (v : V), vs = [v] ∧ RowX K H r v ∧ 1 ≤ r.2.2 ∧ ∀ H', Same H H' → Q (.bl true) H'
theorem ok_triple {f fF : Addr} {fd fdF : FuncData} {k : Nat} (F : Fun K "_is_triple" "_is_triple" sTriple f fd) (GF : FnOk P w K mg base CX0 k fF fdF ["value", "least"] spFrom) (gF : mg "is_from" = some (.ref fF)) (kF : PySem.W.keepIn K (.ref fF) = true) (bF : Binds K fdF ["value", "least"] [])
    (m_isinstance : mg "isinstance" = none) (m_list : mg "list" = none) (m_tuple : mg "tuple" = none) (m_len : mg "len" = none) (m_str : mg "str" = none) : FnOk P w K mg base CX0 (k + 1) f fd ["item"] (spTriple K) := by
  refine F.ok scTriple (fun vs H Q E h => ?_) (fun cdv A outer s H vs Q E hr h => ?_)
  · obtain ⟨r, v, rfl, _⟩ := h
    rfl
  · obtain ⟨r, v, rfl, ⟨b, rfl, hx⟩, hw, q⟩ := h
    refine ⟨_, (pss_cons (ps_if (PW.pt (pw_or (pt_not (pt_val (pe_callB call_isiT (by rfl) m_isinstance (by decide +kernel) (pa_cons (pv 0) (pa_cons (pe_tup (pa_cons (pe_bltn (v := .ty "list") (by rfl) m_list (by decide +kernel) rfl) (pa_cons (pe_bltn (v := .ty "tuple") (by rfl) m_tuple (by decide +kernel) rfl) pa_nil))) pa_nil))))) (pw_or1 (pt_cmpR op_ne (pe_callB call_len_seq (by rfl) m_len PySem.boot_len (pa_cons (pv 0) pa_nil)) pe_int (nomark _)))))
      (pss_one (ps_ret pe_bl)) pss_nil)
    (pss_one (ps_ret (pe_and (pe_callB call_isi (by rfl) m_isinstance (by decide +kernel) (pa_cons (pe_ix ix_seq (pv 0) pe_int (fun _ _ => rfl)) (pa_cons (pe_bltn (v := .ty "str") (by rfl) m_str (by decide +kernel) rfl) pa_nil))) (pe_and (pe_call GF hr (by rfl) gF kF bF .nil pass0 (pa_cons (pe_ix ix_seq (pv 0) pe_int (fun _ _ => rfl)) (pa_cons pe_int pa_nil))) (pe_one (pe_call GF hr (by rfl) gF kF bF .nil pass0 (pa_cons (pe_ix ix_seq (pv 0) pe_int (fun _ _ => rfl)) (pa_cons pe_int pa_nil))))))))), ?_⟩
    refine ⟨.ref b, rfl, (by show 2 ≤ sizeLine; decide), fun tp np => ?_⟩
    have s1 : Same H (upd H tp (.tup [.ty "list", .ty "tuple"])) := same_new (fun b o e => e) np _
    have m1 : (upd H tp (.tup [.ty "list", .ty "tuple"])) tp = some (.tup [.ty "list", .ty "tuple"]) := upd_same
    replace hx := hx.same s1
    generalize upd H tp (.tup [.ty "list", .ty "tuple"]) = H1 at s1 m1 hx
    obtain ⟨t, ty, kit⟩ := sqx_ty hx
    refine ⟨.ref b, tp, _, t, [.type "list", .type "tuple"], true, rfl, m1, .cons (.ty "list") (.cons (.ty "tuple") .nil), ty, kit, true, rfl, ?_⟩
    refine iteF ?_
    refine ⟨.ref b, rfl, b, _, rfl, hx, rfl, _, rfl, ?_⟩
    refine iteF ?_
    refine ⟨.ref b, rfl, ix_x (i := 0) hx rfl ?_⟩
    refine ⟨_, .ty "str", .type "str", .type "str", true, rfl, .ty "str", .base (.str r.1), kitSS', true, rfl, ?_⟩
    refine iteT ?_
    refine ⟨.ref b, rfl, ix_x (i := 1) hx rfl ?_⟩
    refine ⟨(r.2.1 : Int), 0, rfl, true, ?_, ?_⟩
    · rw [decide_eq_true (show (0 : Int) ≤ (r.2.1 : Int) by omega)]
    refine iteT ?_
    refine ⟨.ref b, rfl, ix_x (i := 2) hx rfl ?_⟩
    refine ⟨r.2.2, 1, rfl, ?_⟩
    rw [decide_eq_true hw]
    exact q H1 s1
end
end Ad

namespace Ad
open PySem PySem.Spec PySem.Calls PyProof.Rows L2
abbrev sTriples : Stmt := topS 8
theorem scTriples : FnScope ["row", "taken", "names", "triples", "item"] ["row", "taken"] (defScope sTriples) := ⟨rfl, rfl, rfl, by decide +kernel, rfl, by decide +kernel, by decide +kernel⟩
theorem inV_strs {n : Str} {L : List Str} (h : n ∉ L) : inV (.str n) (L.map V.str) = false := by
  unfold inV
  rw [List.any_eq_false]
  intro y hy
  obtain ⟨m, hm, rfl⟩ := List.mem_map.mp hy
  show ¬ (m == n) = true
  intro z
  exact h (by rw [← (beq_iff_eq.mp z)]; exact hm)
theorem flat_strs (L : List Str) : (L.map V.str).all flatV = true := by
  rw [List.all_eq_true]
  intro y hy
  obtain ⟨m, hm, rfl⟩ := List.mem_map.mp hy
  rfl
section
variable {P : Program} {w : World} {K : PySem.W.Frag} {mg : Str → Option Value} {base : Heap}
def spTriples (K : PySem.W.Frag) : Sp := fun vs H Q _ => ∃ (ra tk : Addr) (R : List Row) (T : List Str) (xs : List V), vs = [.ref ra, .ref tk] ∧ SqX K H ra xs ∧ F2 (RowX K H) R xs ∧ H tk = some (.lst (T.map V.str)) ∧
  (T ++ R.map (·.1)).Nodup ∧ (∀ r ∈ R, 1 ≤ r.2.2) ∧ T.length + R.length ≤ 1000 ∧ ∀ H' p ys, Same H H' → H p = none → SqT K H' p ys → F2 (RowV K H') R ys → Q (.ref p) H'
theorem ok_triples {f fF : Addr} {fd fdF : FuncData} {k : Nat} (F : Fun K "_triples_of" "_triples_of" sTriples f fd) (GF : FnOk P w K mg base CX0 k fF fdF ["item"] (spTriple K)) (gF : mg "_is_triple" = some (.ref fF)) (kF : PySem.W.keepIn K (.ref fF) = true) (bF : Binds K fdF ["item"] [])
    (m_isinstance : mg "isinstance" = none) (m_list : mg "list" = none) (m_tuple : mg "tuple" = none) : FnOk P w K mg base CX0 (k + 1) f fd ["row", "taken"] (spTriples K) := by
  refine F.ok scTriples (fun vs H Q E h => ?_) (fun cdv A outer s H vs Q E hr h => ?_)
  · obtain ⟨ra, tk, R, T, xs, rfl, _⟩ := h
    rfl
  · obtain ⟨ra, tk, R, T, xs, rfl, hx, fx, htk, nd, wt, many, q⟩ := h
    refine ⟨_, (pss_cons (ps_if (pt_not (pt_val (pe_callB call_isiT (by rfl) m_isinstance (by decide +kernel) (pa_cons (pv 0) (pa_cons (pe_tup (pa_cons (pe_bltn (v := .ty "list") (by rfl) m_list (by decide +kernel) rfl) (pa_cons (pe_bltn (v := .ty "tuple") (by rfl) m_tuple (by decide +kernel) rfl) pa_nil))) pa_nil)))))
      (pss_one (ps_ret pe_non)) pss_nil)
    (pss_cons (ps_set (i := 2) scTriples.nd rfl (.inl rfl) (pe_callTy call_list_of (by rfl) m_list (by decide +kernel) (pa_cons (pv 1) pa_nil)))
    (pss_cons (ps_set (i := 3) scTriples.nd rfl (.inl rfl) (pe_lst pa_nil))
    (pss_cons (ps_for PassesOwn.never rfl (Et.pi_any (pv 0)) (pg_name (i := 4) scTriples.nd rfl (.inl rfl))
      (pss_cons (ps_if (PW.pt (pw_or (pt_not (pt_val (pe_call GF hr (by rfl) gF kF bF .nil pass0 (pa_cons (pv 4) pa_nil)))) (pw_or1 (pt_cmpR op_in_seq (pe_ix ix_seq (pv 4) pe_int (fun _ _ => rfl)) (pv 2) (by with_unfolding_all rfl)))))
        (pss_one (ps_ret pe_non)) pss_nil)
      (pss_cons (ps_expr (pe_bm PySem.F.plainAttrs_list PySem.F.slot_list_append PySem.F.type_list_append mt_append (pv 2) (pa_cons (pe_ix ix_seq (pv 4) pe_int (fun _ _ => rfl)) pa_nil)))
      (pss_one (ps_expr (pe_bm PySem.F.plainAttrs_list PySem.F.slot_list_append PySem.F.type_list_append mt_append (pv 3) (pa_cons (pe_callTy call_tuple_of (by rfl) m_tuple (by decide +kernel) (pa_cons (pv 4) pa_nil)) pa_nil)))))))
    (pss_one (ps_ret (pe_callTy call_tuple_of (by rfl) m_tuple (by decide +kernel) (pa_cons (pv 3) pa_nil)))))))), ?_⟩
    have lx := fx.len
    refine ⟨.ref ra, rfl, (by show 2 ≤ sizeLine; decide), fun tp np => ?_⟩
    have s1 : Same H (upd H tp (.tup [.ty "list", .ty "tuple"])) := same_new (fun b o e => e) np _
    have m1 : (upd H tp (.tup [.ty "list", .ty "tuple"])) tp = some (.tup [.ty "list", .ty "tuple"]) := upd_same
    generalize upd H tp (.tup [.ty "list", .ty "tuple"]) = H1 at s1 m1
    obtain ⟨t, ty, kit⟩ := sqx_ty (hx.same s1)
    refine ⟨.ref ra, tp, _, t, [.type "list", .type "tuple"], true, rfl, m1, .cons (.ty "list") (.cons (.ty "tuple") .nil), ty, kit, true, rfl, ?_⟩
    refine iteF ?_
    refine ⟨.ref tk, rfl, tk, _, rfl, .inl (.inl (.inl (s1 _ _ htk))), fun dN nN => ?_⟩
    have nNH : H dN = none := by
      cases z : H dN with
      | none => rfl
      | some o =>
        rw [s1 _ _ z] at nN
        cases nN
    have s2 : Same H (upd H1 dN (.lst (T.map V.str))) := same_on s1 nNH _
    have m2 : (upd H1 dN (.lst (T.map V.str))) dN = some (.lst (T.map V.str)) := upd_same
    generalize upd H1 dN (.lst (T.map V.str)) = H2 at s2 m2
    refine ⟨Nat.zero_le _, fun dT nT => ?_⟩
    have nTH : H dT = none := by
      cases z : H dT with
      | none => rfl
      | some o =>
        rw [s2 _ _ z] at nT
        cases nT
    have dne : dN ≠ dT := fun e => by
      rw [← e, m2] at nT
      cases nT
    have s3 : Same H (upd H2 dT (.lst [])) := same_on s2 nTH _
    have m3 : (upd H2 dT (.lst [])) dT = some (.lst []) := upd_same
    have m2' : (upd H2 dT (.lst [])) dN = some (.lst (T.map V.str)) := by rw [upd_ne dne]; exact m2
    generalize upd H2 dT (.lst []) = H3 at s3 m3 m2'
    refine ⟨.ref ra, rfl, ra, rfl, ?_⟩
    let Pv : Nat → L2.St → Hp → Prop := fun i σ G => ∃ (v4 : Option V) (ts : List V), σ = [some (.ref ra), some (.ref tk), some (.ref dN), some (.ref dT), v4] ∧ Same H G ∧ G dN = some (.lst ((T ++ (R.take i).map (·.1)).map V.str)) ∧ G dT = some (.lst ts) ∧ F2 (RowV K G) (R.take i) ts
    have p0 : Pv 0 [some (.ref ra), some (.ref tk), some (.ref dN), some (.ref dT), none] H3 := ⟨none, [], rfl, s3, by rw [List.take_zero, List.map_nil, List.append_nil]; exact m2', m3, by rw [List.take_zero]; exact rfl⟩
    rcases hx with hx | hx
    · refine .inl ⟨xs, s3.seq hx, for_list (K := K) (a := ra) (xs := xs) Pv p0 (fun i σ G _ ⟨_, _, _, sm, _⟩ => sm.seq hx) ?_ ?_⟩
      · rintro i x σ G hi ⟨v4, ts, rfl, sm, gN, gT, fts⟩
        obtain ⟨r, hr', rx⟩ := fx.get hi
        have rx1 := RowX.same sm _ _ rx
        obtain ⟨b, rfl, hb⟩ := rx1
        have ilt := (List.getElem?_eq_some_iff.mp hr').1
        have rin := List.mem_of_getElem? hr'
        have lt := fts.len
        rw [List.length_take] at lt
        refine ⟨.ref b, rfl, r, .ref b, rfl, ⟨b, rfl, hb⟩, wt r rin, fun G1 sm1 => ?_⟩
        replace gN := sm1 _ _ gN
        replace gT := sm1 _ _ gT
        replace hb := hb.same sm1
        replace fts := fts.mono (RowV.mono (TK.same sm1))
        have sm01 : Same H G1 := fun b o e => sm1 _ _ (sm _ _ e)
        clear sm sm1
        refine ⟨true, rfl, iteF ?_⟩
        have fresh : r.1 ∉ T ++ (R.take i).map (·.1) := by
          rw [← List.take_append_drop i R, List.map_append, ← List.append_assoc, List.nodup_append] at nd
          refine fun z => nd.2.2 _ z r.1 ?_ rfl
          refine List.mem_map.mpr ⟨r, ?_, rfl⟩
          refine List.mem_of_getElem? (i := 0) ?_
          rw [List.getElem?_drop]
          exact hr'
        refine ⟨.ref b, rfl, ix_x (i := 0) hb rfl ?_⟩
        refine ⟨.ref dN, rfl, dN, _, rfl, .inl (.inl (.inl gN)), rfl, flat_strs _, false, congrArg V.bl (inV_strs fresh), ?_⟩
        refine iteF ?_
        have nx : Same H (upd G1 dN (.lst ((T ++ (R.take i).map (·.1)).map V.str ++ [.str r.1]))) := same_on sm01 nNH _
        have kx : TK G1 (upd G1 dN (.lst ((T ++ (R.take i).map (·.1)).map V.str ++ [.str r.1]))) := TK.lst gN _
        refine ⟨.ref dN, rfl, .inl ⟨rfl, _, .inl (.inl gN)⟩, .ref b, rfl, ix_x (i := 0) hb rfl ?_⟩
        refine ⟨dN, _, .str r.1, rfl, rfl, gN, ?_, ?_⟩
        · rw [List.length_map, List.length_append, List.length_map, List.length_take, sizeLine_eq]
          omega
        have gN2 : (upd G1 dN (.lst ((T ++ (R.take i).map (·.1)).map V.str ++ [.str r.1]))) dN = some (.lst ((T ++ (R.take (i + 1)).map (·.1)).map V.str)) := by
          rw [upd_same, List.take_add_one, hr']
          simp
        have gT2 : (upd G1 dN (.lst ((T ++ (R.take i).map (·.1)).map V.str ++ [.str r.1]))) dT = some (.lst ts) := by rw [upd_ne dne.symm]; exact gT
        have hb2 : SqX K (upd G1 dN (.lst ((T ++ (R.take i).map (·.1)).map V.str ++ [.str r.1]))) b [.str r.1, .int (r.2.1 : Int), .int r.2.2] := by
          obtain ⟨b', eb, hb'⟩ := RowX.same nx _ _ rx
          cases eb
          exact hb'
        have fts2 := fts.mono (RowV.mono kx)
        generalize upd G1 dN (.lst ((T ++ (R.take i).map (·.1)).map V.str ++ [.str r.1])) = G2 at nx gN2 gT2 hb2 fts2
        have fin : ∀ (c : Addr) (G3 : Hp), Same G2 G3 → SqT K G3 c [.str r.1, .int (r.2.1 : Int), .int r.2.2] → ∃ l xs y, V.ref dT = .ref l ∧ [V.ref c] = [y] ∧ G3 l = some (.lst xs) ∧ xs.length < sizeLine ∧ Pv (i + 1) [some (.ref ra), some (.ref tk), some (.ref dN), some (.ref dT), some (.ref b)] (upd G3 l (.lst (xs ++ [y]))) := by
          intro c G3 sm3 hc
          refine ⟨dT, ts, .ref c, rfl, rfl, sm3 _ _ gT2, by rw [sizeLine_eq]; omega, some (.ref b), ts ++ [.ref c], rfl, same_on (H := H) (H' := G3) (fun b o e => sm3 _ _ (nx _ _ e)) nTH _, by rw [upd_ne dne]; exact sm3 _ _ gN2, upd_same, ?_⟩
          have k3 : TK G3 (upd G3 dT (.lst (ts ++ [.ref c]))) := TK.lst (sm3 _ _ gT2) _
          rw [List.take_add_one, hr']
          exact F2.app (fts2.mono (RowV.mono ((TK.same sm3).trans k3))) (F2.one ⟨c, rfl, k3.sq hc⟩)
        refine ⟨.ref dT, rfl, .inl ⟨rfl, _, .inl (.inl gT2)⟩, .ref b, rfl, b, [.str r.1, .int (r.2.1 : Int), .int r.2.2], rfl, ?_⟩
        rcases hb2 with hb2 | hb2
        · exact .inl ⟨hb2, fun c nc => fin c _ (same_new (fun b o e => e) nc _) (.inl (.inl upd_same))⟩
        · exact .inr ⟨hb2, fin b G2 (fun b o e => e) hb2⟩
      · rintro σ G ⟨v4, ts, rfl, sm, gN, gT, fts⟩
        rw [lx, List.take_length] at fts
        refine ⟨.ref dT, rfl, dT, ts, rfl, .inl ⟨.inl (.inl gT), fun p np => ?_⟩⟩
        have npH : H p = none := by
          cases z : H p with
          | none => rfl
          | some o =>
            rw [sm _ _ z] at np
            cases np
        have s4 : Same H (upd G p (.tup ts)) := same_new sm np _
        exact q _ p ts s4 npH (.inl (.inl upd_same)) (fts.mono (RowV.mono (TK.new np _)))
    · refine .inr ⟨xs, (TK.same s3).sq hx, for_tup (K := K) (a := ra) (xs := xs) Pv p0 (fun i σ G _ ⟨_, _, _, sm, _⟩ => (TK.same sm).sq hx) ?_ ?_⟩
      · rintro i x σ G hi ⟨v4, ts, rfl, sm, gN, gT, fts⟩
        obtain ⟨r, hr', rx⟩ := fx.get hi
        have rx1 := RowX.same sm _ _ rx
        obtain ⟨b, rfl, hb⟩ := rx1
        have ilt := (List.getElem?_eq_some_iff.mp hr').1
        have rin := List.mem_of_getElem? hr'
        have lt := fts.len
        rw [List.length_take] at lt
        refine ⟨.ref b, rfl, r, .ref b, rfl, ⟨b, rfl, hb⟩, wt r rin, fun G1 sm1 => ?_⟩
        replace gN := sm1 _ _ gN
        replace gT := sm1 _ _ gT
        replace hb := hb.same sm1
        replace fts := fts.mono (RowV.mono (TK.same sm1))
        have sm01 : Same H G1 := fun b o e => sm1 _ _ (sm _ _ e)
        clear sm sm1
        refine ⟨true, rfl, iteF ?_⟩
        have fresh : r.1 ∉ T ++ (R.take i).map (·.1) := by
          rw [← List.take_append_drop i R, List.map_append, ← List.append_assoc, List.nodup_append] at nd
          refine fun z => nd.2.2 _ z r.1 ?_ rfl
          refine List.mem_map.mpr ⟨r, ?_, rfl⟩
          refine List.mem_of_getElem? (i := 0) ?_
          rw [List.getElem?_drop]
          exact hr'
        refine ⟨.ref b, rfl, ix_x (i := 0) hb rfl ?_⟩
        refine ⟨.ref dN, rfl, dN, _, rfl, .inl (.inl (.inl gN)), rfl, flat_strs _, false, congrArg V.bl (inV_strs fresh), ?_⟩
        refine iteF ?_
        have nx : Same H (upd G1 dN (.lst ((T ++ (R.take i).map (·.1)).map V.str ++ [.str r.1]))) := same_on sm01 nNH _
        have kx : TK G1 (upd G1 dN (.lst ((T ++ (R.take i).map (·.1)).map V.str ++ [.str r.1]))) := TK.lst gN _
        refine ⟨.ref dN, rfl, .inl ⟨rfl, _, .inl (.inl gN)⟩, .ref b, rfl, ix_x (i := 0) hb rfl ?_⟩
        refine ⟨dN, _, .str r.1, rfl, rfl, gN, ?_, ?_⟩
        · rw [List.length_map, List.length_append, List.length_map, List.length_take, sizeLine_eq]
          omega
        have gN2 : (upd G1 dN (.lst ((T ++ (R.take i).map (·.1)).map V.str ++ [.str r.1]))) dN = some (.lst ((T ++ (R.take (i + 1)).map (·.1)).map V.str)) := by
          rw [upd_same, List.take_add_one, hr']
          simp
        have gT2 : (upd G1 dN (.lst ((T ++ (R.take i).map (·.1)).map V.str ++ [.str r.1]))) dT = some (.lst ts) := by rw [upd_ne dne.symm]; exact gT
        have hb2 : SqX K (upd G1 dN (.lst ((T ++ (R.take i).map (·.1)).map V.str ++ [.str r.1]))) b [.str r.1, .int (r.2.1 : Int), .int r.2.2] := by
          obtain ⟨b', eb, hb'⟩ := RowX.same nx _ _ rx
          cases eb
          exact hb'
        have fts2 := fts.mono (RowV.mono kx)
        generalize upd G1 dN (.lst ((T ++ (R.take i).map (·.1)).map V.str ++ [.str r.1])) = G2 at nx gN2 gT2 hb2 fts2
        have fin : ∀ (c : Addr) (G3 : Hp), Same G2 G3 → SqT K G3 c [.str r.1, .int (r.2.1 : Int), .int r.2.2] → ∃ l xs y, V.ref dT = .ref l ∧ [V.ref c] = [y] ∧ G3 l = some (.lst xs) ∧ xs.length < sizeLine ∧ Pv (i + 1) [some (.ref ra), some (.ref tk), some (.ref dN), some (.ref dT), some (.ref b)] (upd G3 l (.lst (xs ++ [y]))) := by
          intro c G3 sm3 hc
          refine ⟨dT, ts, .ref c, rfl, rfl, sm3 _ _ gT2, by rw [sizeLine_eq]; omega, some (.ref b), ts ++ [.ref c], rfl, same_on (H := H) (H' := G3) (fun b o e => sm3 _ _ (nx _ _ e)) nTH _, by rw [upd_ne dne]; exact sm3 _ _ gN2, upd_same, ?_⟩
          have k3 : TK G3 (upd G3 dT (.lst (ts ++ [.ref c]))) := TK.lst (sm3 _ _ gT2) _
          rw [List.take_add_one, hr']
          exact F2.app (fts2.mono (RowV.mono ((TK.same sm3).trans k3))) (F2.one ⟨c, rfl, k3.sq hc⟩)
        refine ⟨.ref dT, rfl, .inl ⟨rfl, _, .inl (.inl gT2)⟩, .ref b, rfl, b, [.str r.1, .int (r.2.1 : Int), .int r.2.2], rfl, ?_⟩
        rcases hb2 with hb2 | hb2
        · exact .inl ⟨hb2, fun c nc => fin c _ (same_new (fun b o e => e) nc _) (.inl (.inl upd_same))⟩
        · exact .inr ⟨hb2, fin b G2 (fun b o e => e) hb2⟩
      · rintro σ G ⟨v4, ts, rfl, sm, gN, gT, fts⟩
        rw [lx, List.take_length] at fts
        refine ⟨.ref dT, rfl, dT, ts, rfl, .inl ⟨.inl (.inl gT), fun p np => ?_⟩⟩
        have npH : H p = none := by
          cases z : H p with
          | none => rfl
          | some o =>
            rw [sm _ _ z] at np
            cases np
        have s4 : Same H (upd G p (.tup ts)) := same_new sm np _
        exact q _ p ts s4 npH (.inl (.inl upd_same)) (fts.mono (RowV.mono (TK.new np _)))
end
end Ad

namespace Ad
open PySem PySem.Spec PySem.Calls PyProof.Rows L2
abbrev sOInit : Stmt := inClass (topS 7) 0
theorem scOInit : FnScope ["self", "things", "truths", "things_read", "truths_read", "ranked", "name", "_", "weight", "place", "arity"] ["self", "things", "truths"] (defScope sOInit) := ⟨rfl, rfl, rfl, by decide +kernel, rfl, by decide +kernel, by decide +kernel⟩
section
variable {P : Program} {w : World} {K : PySem.W.Frag} {mg : Str → Option Value} {base : Heap}
def spOInit (K : PySem.W.Frag) (C : Addr) : Sp := fun vs H Q _ => ∃ (o ra sa dx : Addr) (R S : List Row) (xs ys : List V), vs = [.ref o, .ref ra, .ref sa] ∧ H o = some (.ins C dx []) ∧ SqX K H ra xs ∧ F2 (RowX K H) R xs ∧ SqX K H sa ys ∧ F2 (RowX K H) S ys ∧ OOk R S ∧
  ∀ H', Pn.But o H H' → OrdI K C H' o R S → Q .non H'
theorem ok_oinit {C f fT : Addr} {fd fdT : FuncData} {k : Nat} (F : Fun K "__init__" "Order.__init__" sOInit f fd) (GT : FnOk P w K mg base CX0 k fT fdT ["row", "taken"] (spTriples K)) (gT : mg "_triples_of" = some (.ref fT)) (kT : PySem.W.keepIn K (.ref fT) = true) (bT : Binds K fdT ["row", "taken"] [])
    (m_enumerate : mg "enumerate" = none) (cls : Cls K C) (na1 : NoAttr K C "things") (na2 : NoAttr K C "truths") (na3 : NoAttr K C "_weights") (na4 : NoAttr K C "_places") : FnOk P w K mg base CX0 (k + 1) f fd ["self", "things", "truths"] (spOInit K C) := by
  refine F.ok scOInit (fun vs H Q E h => ?_) (fun cdv A outer s H vs Q E hr h => ?_)
  · obtain ⟨o, ra, sa, dx, R, S, xs, ys, rfl, _⟩ := h
    rfl
  · obtain ⟨o, ra, sa, dx, R, S, xs, ys, rfl, ho, hx, fx, hy, fy, ok, q⟩ := h
    refine' ⟨_, pss_cons ?s1 (pss_cons ?s2 (pss_cons ?s3 (pss_cons ?s4 (pss_cons ?s5 (pss_cons ?s6 (pss_cons ?s7 (pss_cons ?s8 (pss_one ?s9)))))))), ?_⟩
    case s1 => exact (ps_set (i := 3) scOInit.nd rfl (.inl rfl) (pe_call GT hr (by rfl) gT kT bT .nil pass0 (pa_cons (pv 1) (pa_cons (pe_lst (pa_cons pe_str pa_nil)) pa_nil))))
    case s2 => exact (ps_if (PW.pt (pw_or (pt_cmpR op_isN (pv 3) pe_non (nomark _)) (pw_or1 (pt_cmpR op_notIn_seq pe_int (pe_lc (own := [("_", 7), ("arity", 10)]) (g := gTup K 3 (gCons (gName 7) (gCons (gName 10) (gCons (gName 7) gNil)))) (tt := tYes) (te := tVar 10) rfl scOInit.nd (pi_tup (pv 3)) (blkOk_by (N := ["self", "things", "truths", "things_read", "truths_read", "ranked", "name", "_", "weight", "place", "arity"]) (sc := defScope sOInit) (by decide +kernel)) (fun _ _ _ _ _ => (pg_tup rfl (pgs_cons (pg_name (i := 7) scOInit.nd rfl (.inl rfl)) (pgs_cons (pg_name (i := 10) scOInit.nd rfl (.inl rfl)) (pgs_cons (pg_name (i := 7) scOInit.nd rfl (.inl rfl)) pgs_nil))))) (fun _ _ _ _ _ => pts_nil) (fun _ _ _ _ _ => (pv 10))) (by with_unfolding_all rfl)))))
      (pss_one ps_never) pss_nil)
    case s3 => exact (ps_set (i := 4) scOInit.nd rfl (.inl rfl) (pe_call GT hr (by rfl) gT kT bT .nil pass0 (pa_cons (pv 2) (pa_cons (pe_op op_cat (pe_lst (pa_cons pe_str pa_nil)) (pe_lc (own := [("name", 6), ("_", 7)]) (g := gTup K 3 (gCons (gName 6) (gCons (gName 7) (gCons (gName 7) gNil)))) (tt := tYes) (te := tVar 6) rfl scOInit.nd (pi_tup (pv 3)) (blkOk_by (N := ["self", "things", "truths", "things_read", "truths_read", "ranked", "name", "_", "weight", "place", "arity"]) (sc := defScope sOInit) (by decide +kernel)) (fun _ _ _ _ _ => (pg_tup rfl (pgs_cons (pg_name (i := 6) scOInit.nd rfl (.inl rfl)) (pgs_cons (pg_name (i := 7) scOInit.nd rfl (.inl rfl)) (pgs_cons (pg_name (i := 7) scOInit.nd rfl (.inl rfl)) pgs_nil))))) (fun _ _ _ _ _ => pts_nil) (fun _ _ _ _ _ => (pv 6)))) pa_nil))))
    case s4 => exact (ps_if (pt_cmpR op_isN (pv 4) pe_non (nomark _))
      (pss_one ps_never) pss_nil)
    case s5 => exact (ps_fld (pv 0) (pv 3) rfl)
    case s6 => exact (ps_fld (pv 0) (pv 4) rfl)
    case s7 => exact (ps_set (i := 5) scOInit.nd rfl (.inl rfl) (pe_op (r := rCatT K) op_catT (pe_op (r := rCatT K) op_catT (pe_tup (pa_cons (pe_tup (pa_cons pe_str (pa_cons pe_int (pa_cons pe_int pa_nil)))) pa_nil)) (pv 3)) (pv 4)))
    case s8 => exact (ps_fld (pv 0) (pe_dc (own := [("name", 6), ("_", 7), ("weight", 8)]) (g := gTup K 3 (gCons (gName 6) (gCons (gName 7) (gCons (gName 8) gNil)))) (tt := tYes) (tk := tVar 6) (tv := tVar 8) rfl scOInit.nd (pi_tup (pv 5)) (blkOk_by (N := ["self", "things", "truths", "things_read", "truths_read", "ranked", "name", "_", "weight", "place", "arity"]) (sc := defScope sOInit) (by decide +kernel)) (fun _ _ _ _ _ => (pg_tup rfl (pgs_cons (pg_name (i := 6) scOInit.nd rfl (.inl rfl)) (pgs_cons (pg_name (i := 7) scOInit.nd rfl (.inl rfl)) (pgs_cons (pg_name (i := 8) scOInit.nd rfl (.inl rfl)) pgs_nil))))) (fun _ _ _ _ _ => pts_nil) (fun _ _ _ _ _ => (pv 6)) (fun _ _ _ _ _ => (pv 8))) rfl)
    case s9 => exact (ps_fld (pv 0) (pe_dc (own := [("place", 9), ("name", 6), ("_", 7)]) (g := gTup K 2 (gCons (gName 9) (gCons (gTup K 3 (gCons (gName 6) (gCons (gName 7) (gCons (gName 7) gNil)))) gNil))) (tt := tYes) (tk := tVar 6) (tv := tVar 9) rfl scOInit.nd (Et.pi_enumT (by rfl) m_enumerate (pa_cons (pv 5) pa_nil)) (blkOk_by (N := ["self", "things", "truths", "things_read", "truths_read", "ranked", "name", "_", "weight", "place", "arity"]) (sc := defScope sOInit) (by decide +kernel)) (fun _ _ _ _ _ => (pg_tup rfl (pgs_cons (pg_name (i := 9) scOInit.nd rfl (.inl rfl)) (pgs_cons (pg_tup rfl (pgs_cons (pg_name (i := 6) scOInit.nd rfl (.inl rfl)) (pgs_cons (pg_name (i := 7) scOInit.nd rfl (.inl rfl)) (pgs_cons (pg_name (i := 7) scOInit.nd rfl (.inl rfl)) pgs_nil)))) pgs_nil)))) (fun _ _ _ _ _ => pts_nil) (fun _ _ _ _ _ => (pv 6)) (fun _ _ _ _ _ => (pv 9))) rfl)
    have lx := fx.len
    have ly := fy.len
    have few := ok.few
    have ndr : (("yes" : Str) :: (R ++ S).map (·.1)).Nodup := ok.nd
    have ndR : ((["yes"] : List Str) ++ R.map (·.1)).Nodup := by
      rw [List.map_append] at ndr
      exact ndr.sublist (List.Sublist.cons₂ _ (List.sublist_append_left _ _))
    have ndS : ((("yes" : Str) :: R.map (·.1)) ++ S.map (·.1)).Nodup := by
      rw [List.map_append] at ndr
      exact ndr
    refine ⟨.ref ra, rfl, (by show 1 ≤ sizeLine; decide), fun l1 n1 => ?_⟩
    have s1 : Same H (upd H l1 (.lst [.str "yes"])) := same_new (fun b o e => e) n1 _
    have m1 : (upd H l1 (.lst [.str "yes"])) l1 = some (.lst [.str "yes"]) := upd_same
    generalize upd H l1 (.lst [.str "yes"]) = H1 at s1 m1
    refine ⟨ra, l1, R, [("yes" : Str)], xs, rfl, hx.same s1, fx.mono (RowX.same s1), m1, ndR, fun r hr => ok.wt r (List.mem_append_left _ hr), by show 1 + R.length ≤ 1000; omega, fun H2 p1 vs1 s2 np1 sq1 f1 => ?_⟩
    have s02 : Same H H2 := fun b o e => s2 _ _ (s1 _ _ e)
    have l1s := f1.len
    clear s1 s2 m1 np1
    refine ⟨.ref p1, rfl, rfl, false, congrArg V.bl (decide_eq_false (fun z => nomatch z)), iteF ?_⟩
    refine ⟨.ref p1, rfl, p1, rfl, ⟨_, sq1⟩, fun D nD => lc_tup (K := K) (a := p1) (xs := vs1) (fun i G => ∃ acc, Same H2 G ∧ G D = some (.lst acc) ∧ acc = (R.take i).map (fun r => V.int (r.2.1 : Int))) ⟨[], same_new (fun b o e => e) nD _, upd_same, rfl⟩ (fun i G _ ⟨_, sm, _⟩ => (TK.same sm).sq sq1) ?_ ?_⟩
    · rintro i x G hi ⟨acc, sm, gD, rfl⟩
      obtain ⟨r, hr', ⟨b, rfl, hb⟩⟩ := f1.get hi
      have ilt := (List.getElem?_eq_some_iff.mp hr').1
      refine ⟨b, _, rfl, (TK.same sm).sq hb, rfl, _, _, rfl, _, _, rfl, _, _, rfl, rfl, rfl, _, rfl, _, gD, ?_, _, same_on sm nD _, upd_same, ?_⟩
      · rw [List.length_map, List.length_take, sizeLine_eq]
        omega
      · rw [take_next hr', List.map_append]
        rfl
    rintro G ⟨acc, sm, gD, rfl⟩
    have fl : ((R.take vs1.length).map fun r => V.int (r.2.1 : Int)).all flatV = true := by
      rw [List.all_eq_true]
      intro y hy
      obtain ⟨r, _, rfl⟩ := List.mem_map.mp hy
      rfl
    have here : inV (.int 0) ((R.take vs1.length).map fun r => V.int (r.2.1 : Int)) = true := by
      obtain ⟨r, hr', r0⟩ := ok.const
      rw [l1s, List.take_length]
      exact inV_here (List.mem_map.mpr ⟨r, hr', by rw [r0]; rfl⟩) rfl
    refine ⟨D, _, rfl, .inl (.inl (.inl gD)), rfl, fl, false, congrArg (fun z => V.bl (!z)) here, iteF ?_⟩
    have s03 : Same H G := fun b o e => sm _ _ (s02 _ _ e)
    have sq1' := (TK.same sm).sq sq1
    have f1' := f1.mono (RowV.mono (TK.same sm))
    clear sq1 f1 fl here gD sm s02 nD
    clear lx
    refine ⟨.ref sa, rfl, (by show 1 ≤ sizeLine; decide), fun l2 n2 => ?_⟩
    have s4 : Same G (upd G l2 (.lst [.str "yes"])) := same_new (fun b o e => e) n2 _
    have m2 : (upd G l2 (.lst [.str "yes"])) l2 = some (.lst [.str "yes"]) := upd_same
    generalize upd G l2 (.lst [.str "yes"]) = G1 at s4 m2
    have sq1 := (TK.same s4).sq sq1'
    have f1 := f1'.mono (RowV.mono (TK.same s4))
    refine ⟨.ref p1, rfl, p1, rfl, ⟨_, sq1⟩, fun D2 nD2 => lc_tup (K := K) (a := p1) (xs := vs1) (fun i G => ∃ acc, Same G1 G ∧ G D2 = some (.lst acc) ∧ acc = ((R.take i).map (·.1)).map V.str) ⟨[], same_new (fun b o e => e) nD2 _, upd_same, rfl⟩ (fun i G _ ⟨_, sm, _⟩ => (TK.same sm).sq sq1) ?_ ?_⟩
    · rintro i x G hi ⟨acc, sm, gD, rfl⟩
      obtain ⟨r, hr', ⟨b, rfl, hb⟩⟩ := f1.get hi
      have ilt := (List.getElem?_eq_some_iff.mp hr').1
      refine ⟨b, _, rfl, (TK.same sm).sq hb, rfl, _, _, rfl, _, _, rfl, _, _, rfl, rfl, rfl, _, rfl, _, gD, ?_, _, same_on sm nD2 _, upd_same, ?_⟩
      · rw [List.length_map, List.length_map, List.length_take, sizeLine_eq]
        omega
      · rw [take_next hr', List.map_append, List.map_append]
        rfl
    rintro G2 ⟨acc, sm, gD, rfl⟩
    rw [l1s, List.take_length] at gD
    refine ⟨l2, D2, _, _, rfl, rfl, sm _ _ m2, gD, ?_, fun l3 n3 => ?_⟩
    · rw [List.length_map, List.length_map, List.length_singleton, sizeLine_eq]
      omega
    have sH2 : Same H G2 := fun b o e => sm _ _ (s4 _ _ (s03 _ _ e))
    have s5 : Same G2 (upd G2 l3 (.lst ([.str "yes"] ++ (R.map (·.1)).map V.str))) := same_new (fun b o e => e) n3 _
    have m3 : (upd G2 l3 (.lst ([.str "yes"] ++ (R.map (·.1)).map V.str))) l3 = some (.lst ((("yes" : Str) :: R.map (·.1)).map V.str)) := upd_same
    generalize upd G2 l3 (.lst ([.str "yes"] ++ (R.map (·.1)).map V.str)) = G3 at s5 m3
    have sH3 : Same H G3 := fun b o e => s5 _ _ (sH2 _ _ e)
    have s13 : Same G1 G3 := fun b o e => s5 _ _ (sm _ _ e)
    refine ⟨sa, l3, S, ("yes" : Str) :: R.map (·.1), ys, rfl, hy.same sH3, fy.mono (RowX.same sH3), m3, ndS, fun r hr => ok.wt r (List.mem_append_right _ hr), by rw [List.length_cons, List.length_map]; omega, fun G4 p2 vs2 s6 np2 sq2 f2 => ?_⟩
    have sH4 : Same H G4 := fun b o e => s6 _ _ (sH3 _ _ e)
    have s14 : Same G1 G4 := fun b o e => s6 _ _ (s13 _ _ e)
    have l2s := f2.len
    replace sq1 := (TK.same s14).sq sq1
    replace f1 := f1.mono (RowV.mono (TK.same s14))
    replace ho := sH4 _ _ ho
    clear sq1' f1' s03 s4 m2 n2 nD2 sm gD n3 s5 m3 s13 sH2 sH3 s6 np2 s14 hx fx hy fy ndR ndS ly n1
    refine ⟨.ref p2, rfl, rfl, false, congrArg V.bl (decide_eq_false (fun z => nomatch z)), iteF ?_⟩
    have b4 : Pn.But o H G4 := Pn.But.of sH4
    clear sH4
    refine ⟨.ref p1, rfl, .ref o, rfl, o, C, dx, _, rfl, ho, cls, na1, (by show 0 < 1000; omega), ?_⟩
    have k5 := TK.ins ho (.ins C dx (putF "things" (.ref p1) []))
    have ho5 : (upd G4 o (.ins C dx (putF "things" (.ref p1) []))) o = some (.ins C dx (putF "things" (.ref p1) [])) := upd_same
    have b5 := b4.trans (Pn.But.upd G4 (.ins C dx (putF "things" (.ref p1) [])))
    generalize upd G4 o (.ins C dx (putF "things" (.ref p1) [])) = G5 at k5 ho5 b5
    refine ⟨.ref p2, rfl, .ref o, rfl, o, C, dx, _, rfl, ho5, cls, na2, (by show 1 < 1000; omega), ?_⟩
    have k6 := k5.trans (TK.ins ho5 (.ins C dx (putF "truths" (.ref p2) (putF "things" (.ref p1) []))))
    have ho6 : (upd G5 o (.ins C dx (putF "truths" (.ref p2) (putF "things" (.ref p1) [])))) o = some (.ins C dx (putF "truths" (.ref p2) (putF "things" (.ref p1) []))) := upd_same
    have b6 := b5.trans (Pn.But.upd G5 (.ins C dx (putF "truths" (.ref p2) (putF "things" (.ref p1) []))))
    generalize upd G5 o (.ins C dx (putF "truths" (.ref p2) (putF "things" (.ref p1) []))) = G6 at k6 ho6 b6
    replace sq1 := k6.sq sq1
    replace sq2 := k6.sq sq2
    replace f1 := f1.mono (RowV.mono k6)
    replace f2 := f2.mono (RowV.mono k6)
    clear k5 ho5 b5 ho b4 k6
    refine ⟨(by show 3 ≤ sizeLine; decide), fun y ny => ⟨(by show 1 ≤ sizeLine; decide), fun z nz => ⟨.ref p1, rfl, ?_⟩⟩⟩
    have s7 : Same G6 (upd G6 y (.tup [.str "yes", .int 0, .int 1])) := same_new (fun b o e => e) ny _
    have e7 : (upd G6 y (.tup [.str "yes", .int 0, .int 1])) y = some (.tup [.str "yes", .int 0, .int 1]) := upd_same
    generalize upd G6 y (.tup [.str "yes", .int 0, .int 1]) = G7 at s7 e7 nz
    have s8 : Same G7 (upd G7 z (.tup [.ref y])) := same_new (fun b o e => e) nz _
    have e8 : (upd G7 z (.tup [.ref y])) z = some (.tup [.ref y]) := upd_same
    replace e7 := s8 _ _ e7
    generalize upd G7 z (.tup [.ref y]) = G8 at s8 e8 e7
    have s68 : Same G6 G8 := fun b o e => s8 _ _ (s7 _ _ e)
    clear s7 s8 ny nz
    refine catT (xs := [.ref y]) (ys := vs1) (.inl (.inl e8)) ((TK.same s68).sq sq1) (by simp) (by rw [List.length_singleton, sizeLine_eq]; omega) fun c1 G9 s9 hc1 => ?_
    have s69 : Same G6 G9 := fun b o e => s9 _ _ (s68 _ _ e)
    replace e7 := s9 _ _ e7
    clear s68 s9 e8
    refine ⟨.ref p2, rfl, catT hc1 ((TK.same s69).sq sq2) (by simp) (by rw [List.length_append, List.length_singleton, sizeLine_eq]; omega) fun c2 GA sA hc2 => ?_⟩
    have s6A : Same G6 GA := fun b o e => sA _ _ (s69 _ _ e)
    replace e7 := sA _ _ e7
    replace sq1 := (TK.same s6A).sq sq1
    replace sq2 := (TK.same s6A).sq sq2
    replace f1 := f1.mono (RowV.mono (TK.same s6A))
    replace f2 := f2.mono (RowV.mono (TK.same s6A))
    have hoA := s6A _ _ ho6
    have bA := b6.trans (Pn.But.of s6A)
    clear s69 sA s6A hc1 ho6 b6
    have fr : F2 (RowV K GA) (ranked R S) (([.ref y] ++ vs1) ++ vs2) := by
      rw [List.append_assoc]
      exact F2.app (xs := [(("yes" : Str), 0, 1)]) (F2.one ⟨y, rfl, .inl (.inl e7)⟩) (F2.app f1 f2)
    have nd : ((ranked R S).map (·.1)).Nodup := ok.nd
    have lr : (ranked R S).length ≤ 200 := by
      show (R ++ S).length + 1 ≤ 200
      rw [List.length_append]
      omega
    generalize erk : ranked R S = rk at fr nd lr
    clear e7
    generalize ([V.ref y] ++ vs1) ++ vs2 = vr at fr hc2
    have lf := fr.len
    refine ⟨.ref c2, rfl, c2, rfl, ⟨_, hc2⟩, fun D nD => dc_tup (K := K) (a := c2) (xs := vr) (fun i G => Same GA G ∧ G D = some (.dK (wK (rk.take i)))) ⟨same_new (fun b o e => e) nD _, upd_same⟩ (fun i G _ ⟨sm, _⟩ => (TK.same sm).sq hc2) ?_ ?_⟩
    · rintro i x G hi ⟨sm, gD⟩
      obtain ⟨r, hr', ⟨b, rfl, hb⟩⟩ := fr.get hi
      have ilt := (List.getElem?_eq_some_iff.mp hr').1
      refine ⟨b, _, rfl, (TK.same sm).sq hb, rfl, _, _, rfl, _, _, rfl, _, _, rfl, rfl, rfl, _, rfl, _, rfl, _, .inr r.1, rfl, gD, ?_, same_on sm nD _, ?_⟩
      · rw [wK_len, List.length_take, sizeLine_eq]
        omega
      · rw [upd_same, wK_put (take_fresh nd hr'), take_next hr']
    rintro GB ⟨sB, gW⟩
    rw [lf, List.take_length] at gW
    replace hoA := sB _ _ hoA
    refine ⟨.ref o, rfl, o, C, dx, _, rfl, hoA, cls, na3, (by show 2 < 1000; omega), ?_⟩
    have kB := (TK.same sB).trans (TK.ins hoA (.ins C dx (putF "_weights" (.ref D) (putF "truths" (.ref p2) (putF "things" (.ref p1) [])))))
    have hoB : (upd GB o (.ins C dx (putF "_weights" (.ref D) (putF "truths" (.ref p2) (putF "things" (.ref p1) []))))) o = some (.ins C dx (putF "_weights" (.ref D) (putF "truths" (.ref p2) (putF "things" (.ref p1) [])))) := upd_same
    have bB := (bA.trans (Pn.But.of sB)).trans (Pn.But.upd GB (.ins C dx (putF "_weights" (.ref D) (putF "truths" (.ref p2) (putF "things" (.ref p1) [])))))
    have oD : D ≠ o := fun e => by
      rw [e, hoA] at gW
      cases gW
    have gW2 : (upd GB o (.ins C dx (putF "_weights" (.ref D) (putF "truths" (.ref p2) (putF "things" (.ref p1) []))))) D = some (.dK (wK rk)) := by rw [upd_ne oD]; exact gW
    generalize upd GB o (.ins C dx (putF "_weights" (.ref D) (putF "truths" (.ref p2) (putF "things" (.ref p1) [])))) = GC at kB hoB bB gW2
    replace sq1 := kB.sq sq1
    replace sq2 := kB.sq sq2
    replace f1 := f1.mono (RowV.mono kB)
    replace f2 := f2.mono (RowV.mono kB)
    replace fr := fr.mono (RowV.mono kB)
    replace hc2 := kB.sq hc2
    clear kB gW hoA sB nD bA
    refine ⟨.ref c2, rfl, c2, _, rfl, hc2, fun D2 nD2 => dc_enumT (K := K) (a := c2) (xs := vr) (fun i G => Same GC G ∧ G D2 = some (.dK (pK 0 (rk.take i)))) ⟨same_new (fun b o e => e) nD2 _, upd_same⟩ (fun i G _ ⟨sm, _⟩ => (TK.same sm).sq hc2) ?_ ?_⟩
    · rintro i x T G hi ⟨sm, gD⟩ nT
      obtain ⟨r, hr', ⟨b, rfl, hb⟩⟩ := fr.get hi
      have ilt := (List.getElem?_eq_some_iff.mp hr').1
      have smT : Same GC (upd G T (.tup [.int (i : Nat), .ref b])) := same_new sm nT _
      have DT : D2 ≠ T := fun e => by
        rw [← e, gD] at nT
        cases nT
      refine ⟨T, _, rfl, .inl (.inl upd_same), rfl, _, _, rfl, _, _, rfl, ⟨b, _, rfl, (TK.same smT).sq hb, rfl, _, _, rfl, _, _, rfl, _, _, rfl, rfl, rfl, rfl, _, rfl, _, rfl, _, .inr r.1, rfl, by rw [upd_ne DT]; exact gD, ?_, same_on smT nD2 _, ?_⟩⟩
      · rw [pK_len, List.length_take, sizeLine_eq]
        omega
      · have e : (i : Int) = ((rk.take i).length : Int) := by rw [List.length_take]; omega
        rw [upd_same, e, pK_put (take_fresh nd hr'), take_next hr']
    rintro GD ⟨sD, gP⟩
    rw [lf, List.take_length] at gP
    replace hoB := sD _ _ hoB
    refine ⟨.ref o, rfl, o, C, dx, _, rfl, hoB, cls, na4, (by show 3 < 1000; omega), ?_⟩
    have kD := (TK.same sD).trans (TK.ins hoB (.ins C dx (ordF p1 p2 D D2)))
    have oD2 : D2 ≠ o := fun e => by
      rw [e, hoB] at gP
      cases gP
    refine q _ ((bB.trans (Pn.But.of sD)).trans (Pn.But.upd GD _)) ⟨⟨dx, p1, p2, D, D2, vs1, vs2, upd_same, kD.sq sq1, f1.mono (RowV.mono kD), kD.sq sq2, f2.mono (RowV.mono kD), ?_, ?_⟩⟩
    · rw [upd_ne oD, erk]
      exact sD _ _ gW2
    · rw [upd_ne oD2, erk]
      exact gP
end
end Ad

/-! Order(..) of what is no order: BadRow. -/
namespace Ad
open PySem PySem.Spec PySem.Calls PyProof.Rows L2
/-- what is no row of triples of new names -/
def RowBad (K : PySem.W.Frag) (H : Hp) (v : V) (T : List Str) : Prop :=
  (∃ ty, TyX K H v ty ∧ PySem.W.kitAny K ty [.type "list", .type "tuple"] = some false) ∨ ∃ (ra : Addr) (xs : List V) (ds : List PyData), v = .ref ra ∧ SqX K H ra xs ∧ DpAll K H xs ds ∧ ds.length ≤ 100 ∧ triplesF T ds = none
/-- what is one -/
def RowGood (K : PySem.W.Frag) (H : Hp) (v : V) (T : List Str) (R : List Row) : Prop := ∃ (ra : Addr) (xs : List V) (ds : List PyData), v = .ref ra ∧ SqX K H ra xs ∧ DpAll K H xs ds ∧ ds.length ≤ 50 ∧ triplesF T ds = some R
theorem tyx_same {K : PySem.W.Frag} {H H' : Hp} (s : Same H H') {v : V} {t : Value} (h : TyX K H v t) : TyX K H' v t := by
  cases h with
  | base b =>
    refine .base ?_
    cases b with
    | non => exact .non
    | bl x => exact .bl x
    | int i => exact .int i
    | str x => exact .str x
    | flt x => exact .flt x
    | lst e => exact .lst (s _ _ e)
    | frz e => exact .frz (s _ _ e)
    | tup e => exact .tup (s _ _ e)
    | dK e => exact .dK (s _ _ e)
    | dT e => exact .dT (s _ _ e)
    | ins e cl ha hn htk2 hm => exact .ins (s _ _ e) cl ha hn htk2 hm
  | byt b => exact .byt b
  | set e => exact .set (s _ _ e)
  | kList e c => exact .kList e c
  | kTuple e c => exact .kTuple e c
  | kDict e c => exact .kDict e c
  | fTuple e => exact .fTuple (s _ _ e)
  | fDict e => exact .fDict (s _ _ e)
theorem RowBad.same {K : PySem.W.Frag} {H H' : Hp} (s : Same H H') {v : V} {T : List Str} (h : RowBad K H v T) : RowBad K H' v T := by
  rcases h with ⟨ty, h1, h2⟩ | ⟨ra, xs, ds, e, h1, h2, h3, h4⟩
  · exact .inl ⟨ty, tyx_same s h1, h2⟩
  · exact .inr ⟨ra, xs, ds, e, h1.same s, dpAll_same s h2, h3, h4⟩
theorem triplesF_len : ∀ {ds : List PyData} {T : List Str} {R : List Row}, triplesF T ds = some R → R.length = ds.length
  | [], T, R, h => by cases h; rfl
  | d :: ds, T, R, h => by
    have h' : (if tripleB d = true ∧ (rowD d).1 ∉ T then (triplesF (T ++ [(rowD d).1]) ds).map (rowD d :: ·) else none) = some R := h
    by_cases c : tripleB d = true ∧ (rowD d).1 ∉ T
    · rw [if_pos c] at h'
      cases e : triplesF (T ++ [(rowD d).1]) ds with
      | none => rw [e] at h'; cases h'
      | some R' =>
        rw [e] at h'
        cases h'
        rw [List.length_cons, List.length_cons, triplesF_len e]
    · rw [if_neg c] at h'
      cases h'
section
variable {P : Program} {w : World} {K : PySem.W.Frag} {mg : Str → Option Value} {base : Heap}
def Thrown (CR : Addr) (H : Hp) (v : V) (E : XK) : Prop := ∀ d H', Same H H' → H d = none → H' d = some (.xd [(("row" : Str), v)]) → E (.ref CR) (some d) H'
def spOInitX (K : PySem.W.Frag) (C CR : Addr) : Sp := fun vs H _ E => ∃ (o dx : Addr) (v1 v2 : V), vs = [.ref o, v1, v2] ∧ H o = some (.ins C dx []) ∧
  (((RowBad K H v1 ["yes"] ∨ ∃ R, RowGood K H v1 ["yes"] R ∧ ∀ r ∈ R, r.2.1 ≠ 0) ∧ Thrown CR H v1 E) ∨
   ∃ R, RowGood K H v1 ["yes"] R ∧ (∃ r ∈ R, r.2.1 = 0) ∧ RowBad K H v2 (("yes" : Str) :: R.map (·.1)) ∧ Thrown CR H v2 E)
theorem ok_oinitX {C CR f fT fE : Addr} {fd fdT fdE : FuncData} {k : Nat} (F : Fun K "__init__" "Order.__init__" sOInit f fd) (hT : Has P w K mg base k "_triples_of" ["row", "taken"] (spTriplesD K) fT fdT)
    (T : Er K CR fE "row") (GE : FnOk P w K mg base CX0 k fE fdE ["self", "row"] (spEr CR "row")) (gE : mg "BadRow" = some (.ref CR)) (bE : Binds K fdE ["self", "row"] []) : FnOk P w K mg base (L2.CX P w) (k + 2) f fd ["self", "things", "truths"] (spOInitX K C CR) := by
  refine F.okX scOInit (fun vs H Q E h => ?_) (fun cdv A outer s H vs Q E hr h => ?_)
  · obtain ⟨o, dx, v1, v2, rfl, _⟩ := h
    rfl
  · obtain ⟨o, dx, v1, v2, rfl, ho, h⟩ := h
    refine' ⟨_, pss_cons ?s1 (pss_cons ?s2 (pss_cons ?s3 (pss_cons ?s4 pss_never))), ?_⟩
    case s1 => exact (ps_set (i := 3) scOInit.nd rfl (.inl rfl) (pe_call hT.G (hr.mono (Nat.le_succ _)) (by rfl) hT.g hT.kp hT.b .nil pass0 (pa_cons (pv 1) (pa_cons (pe_lst (pa_cons pe_str pa_nil)) pa_nil))))
    case s2 => exact (ps_if (PW.pt (pw_or (pt_cmpR op_isN (pv 3) pe_non (nomark _)) (pw_or1 (pt_cmpR op_notIn_seq pe_int (pe_lc (own := [("_", 7), ("arity", 10)]) (g := gTup K 3 (gCons (gName 7) (gCons (gName 10) (gCons (gName 7) gNil)))) (tt := tYes) (te := tVar 10) rfl scOInit.nd (pi_tup (pv 3)) (blkOk_by (N := ["self", "things", "truths", "things_read", "truths_read", "ranked", "name", "_", "weight", "place", "arity"]) (sc := defScope sOInit) (by decide +kernel)) (fun _ _ _ _ _ => (pg_tup rfl (pgs_cons (pg_name (i := 7) scOInit.nd rfl (.inl rfl)) (pgs_cons (pg_name (i := 10) scOInit.nd rfl (.inl rfl)) (pgs_cons (pg_name (i := 7) scOInit.nd rfl (.inl rfl)) pgs_nil))))) (fun _ _ _ _ _ => pts_nil) (fun _ _ _ _ _ => (pv 10))) (by with_unfolding_all rfl)))))
      (pss_one (ps_raise rfl (takes_of rfl rfl rfl rfl) (pmk_oex T.ox T.ini T.tI GE hr bE .nil pass0 (by rfl) gE (pa_cons (pv 1) pa_nil)))) pss_nil)
    case s3 => exact (ps_set (i := 4) scOInit.nd rfl (.inl rfl) (pe_call hT.G (hr.mono (Nat.le_succ _)) (by rfl) hT.g hT.kp hT.b .nil pass0 (pa_cons (pv 2) (pa_cons (pe_op op_cat (pe_lst (pa_cons pe_str pa_nil)) (pe_lc (own := [("name", 6), ("_", 7)]) (g := gTup K 3 (gCons (gName 6) (gCons (gName 7) (gCons (gName 7) gNil)))) (tt := tYes) (te := tVar 6) rfl scOInit.nd (pi_tup (pv 3)) (blkOk_by (N := ["self", "things", "truths", "things_read", "truths_read", "ranked", "name", "_", "weight", "place", "arity"]) (sc := defScope sOInit) (by decide +kernel)) (fun _ _ _ _ _ => (pg_tup rfl (pgs_cons (pg_name (i := 6) scOInit.nd rfl (.inl rfl)) (pgs_cons (pg_name (i := 7) scOInit.nd rfl (.inl rfl)) (pgs_cons (pg_name (i := 7) scOInit.nd rfl (.inl rfl)) pgs_nil))))) (fun _ _ _ _ _ => pts_nil) (fun _ _ _ _ _ => (pv 6)))) pa_nil))))
    case s4 => exact (ps_if (pt_cmpR op_isN (pv 4) pe_non (nomark _))
      (pss_one (ps_raise rfl (takes_of rfl rfl rfl rfl) (pmk_oex T.ox T.ini T.tI GE hr bE .nil pass0 (by rfl) gE (pa_cons (pv 2) pa_nil)))) pss_nil)
    -- a throw
    have throw : ∀ {σ : L2.St} {i : Nat} {v : V} {G : Hp}, σ[i]? = some (some v) → Same H G → Thrown CR H v E → tMkO CR (spEr CR "row") [] (tCons (tVar i) tNil) σ G (fun cls d H' => E cls d H') := by
      intro σ i v G e s th
      refine mk_row (x := "row") ⟨v, e, rfl, rfl⟩ (fun d H' s2 nd ed => th d H' (fun b o e => s2 _ _ (s _ _ e)) ?_ ed) (fun m ⟨v', e', q⟩ => ⟨v', e', m _ _ q⟩)
      cases z : H d with
      | none => rfl
      | some o =>
        rw [s _ _ z] at nd
        cases nd
    refine ⟨v1, rfl, (by show 1 ≤ sizeLine; decide), fun l1 n1 => ?_⟩
    have s1 : Same H (upd H l1 (.lst [.str "yes"])) := same_new (fun b o e => e) n1 _
    have m1 : (upd H l1 (.lst [.str "yes"])) l1 = some (.lst [.str "yes"]) := upd_same
    generalize upd H l1 (.lst [.str "yes"]) = H1 at s1 m1
    rcases h with ⟨hb, th⟩ | ⟨R, hg, hc, hb, th⟩
    · rcases hb with hb | ⟨R, hg, hno⟩
      · have said : ∀ H2, Same H1 H2 → _ := fun H2 (s2 : Same H1 H2) => throw (σ := [some (.ref o), some v1, some v2, some .non, none, none, none, none, none, none, none]) (i := 1) rfl (fun b u e => s2 _ _ (s1 _ _ e)) th
        refine ⟨v1, l1, [("yes" : Str)], rfl, m1, by show 1 ≤ 100; decide, ?_⟩
        rcases hb.same s1 with ⟨ty, h1, h2⟩ | ⟨ra, xs, ds, e, h1, h2, h3, h4⟩
        · exact .inl ⟨ty, h1, h2, fun H2 s2 => ⟨.non, rfl, rfl, true, rfl, iteT (iteT (said H2 s2))⟩⟩
        · exact .inr ⟨ra, xs, ds, e, h1, h2, h3, fun _ H2 s2 => ⟨.non, rfl, rfl, true, rfl, iteT (iteT (said H2 s2))⟩, fun R e => by rw [h4] at e; cases e⟩
      · have said : ∀ (H2 : Hp) (u : Option V), Same H1 H2 → _ := fun H2 u (s2 : Same H1 H2) => throw (σ := [some (.ref o), some v1, some v2, u, none, none, none, none, none, none, none]) (i := 1) rfl (fun b u e => s2 _ _ (s1 _ _ e)) th
        obtain ⟨ra, xs, ds, e, h1, h2, h3, h4⟩ := hg
        have lR := triplesF_len h4
        refine ⟨v1, l1, [("yes" : Str)], rfl, m1, by show 1 ≤ 100; decide, .inr ⟨ra, xs, ds, e, h1.same s1, dpAll_same s1 h2, by omega, (fun z => by rw [h4] at z; cases z), fun R' z H2 p1 vs1 s2 np1 sq1 f1 => ?_⟩⟩
        rw [h4] at z
        cases z
        have l1s := f1.len
        refine ⟨.ref p1, rfl, rfl, false, congrArg V.bl (decide_eq_false (fun z => nomatch z)), iteF ?_⟩
        refine ⟨.ref p1, rfl, p1, rfl, ⟨_, sq1⟩, fun D nD => lc_tup (K := K) (a := p1) (xs := vs1) (fun i G => ∃ acc, Same H2 G ∧ G D = some (.lst acc) ∧ acc = (R.take i).map (fun r => V.int (r.2.1 : Int))) ⟨[], same_new (fun b o e => e) nD _, upd_same, rfl⟩ (fun i G _ ⟨_, sm, _⟩ => (TK.same sm).sq sq1) ?_ ?_⟩
        · rintro i x G hi ⟨acc, sm, gD, rfl⟩
          obtain ⟨r, hr', ⟨b, rfl, hb⟩⟩ := f1.get hi
          have ilt := (List.getElem?_eq_some_iff.mp hr').1
          refine ⟨b, _, rfl, (TK.same sm).sq hb, rfl, _, _, rfl, _, _, rfl, _, _, rfl, rfl, rfl, _, rfl, _, gD, ?_, _, same_on sm nD _, upd_same, ?_⟩
          · rw [List.length_map, List.length_take, sizeLine_eq]
            omega
          · rw [take_next hr', List.map_append]
            rfl
        rintro G ⟨acc, sm, gD, rfl⟩
        have fl : ((R.take vs1.length).map fun r => V.int (r.2.1 : Int)).all flatV = true := by
          rw [List.all_eq_true]
          intro y hy
          obtain ⟨r, _, rfl⟩ := List.mem_map.mp hy
          rfl
        have here : inV (.int 0) ((R.take vs1.length).map fun r => V.int (r.2.1 : Int)) = false := by
          unfold inV
          rw [List.any_eq_false]
          intro y hy
          obtain ⟨r, hr2, rfl⟩ := List.mem_map.mp hy
          show ¬ ((r.2.1 : Int) == 0) = true
          intro z
          have z2 : (r.2.1 : Int) = 0 := beq_iff_eq.mp z
          exact hno r (List.mem_of_mem_take hr2) (by omega)
        refine ⟨D, _, rfl, .inl (.inl (.inl gD)), rfl, fl, true, congrArg (fun z => V.bl (!z)) here, iteT ?_⟩
        exact said G _ (fun b o e => sm _ _ (s2 _ _ e))
    · obtain ⟨ra, xs, ds, e, h1, h2, h3, h4⟩ := hg
      have lR := triplesF_len h4
      refine ⟨v1, l1, [("yes" : Str)], rfl, m1, by show 1 ≤ 100; decide, .inr ⟨ra, xs, ds, e, h1.same s1, dpAll_same s1 h2, by omega, (fun z => by rw [h4] at z; cases z), fun R' z H2 p1 vs1 s2 np1 sq1 f1 => ?_⟩⟩
      rw [h4] at z
      cases z
      have s02 : Same H H2 := fun b o e => s2 _ _ (s1 _ _ e)
      have l1s := f1.len
      refine ⟨.ref p1, rfl, rfl, false, congrArg V.bl (decide_eq_false (fun z => nomatch z)), iteF ?_⟩
      refine ⟨.ref p1, rfl, p1, rfl, ⟨_, sq1⟩, fun D nD => lc_tup (K := K) (a := p1) (xs := vs1) (fun i G => ∃ acc, Same H2 G ∧ G D = some (.lst acc) ∧ acc = (R.take i).map (fun r => V.int (r.2.1 : Int))) ⟨[], same_new (fun b o e => e) nD _, upd_same, rfl⟩ (fun i G _ ⟨_, sm, _⟩ => (TK.same sm).sq sq1) ?_ ?_⟩
      · rintro i x G hi ⟨acc, sm, gD, rfl⟩
        obtain ⟨r, hr', ⟨b, rfl, hb⟩⟩ := f1.get hi
        have ilt := (List.getElem?_eq_some_iff.mp hr').1
        refine ⟨b, _, rfl, (TK.same sm).sq hb, rfl, _, _, rfl, _, _, rfl, _, _, rfl, rfl, rfl, _, rfl, _, gD, ?_, _, same_on sm nD _, upd_same, ?_⟩
        · rw [List.length_map, List.length_take, sizeLine_eq]
          omega
        · rw [take_next hr', List.map_append]
          rfl
      rintro G ⟨acc, sm, gD, rfl⟩
      have fl : ((R.take vs1.length).map fun r => V.int (r.2.1 : Int)).all flatV = true := by
        rw [List.all_eq_true]
        intro y hy
        obtain ⟨r, _, rfl⟩ := List.mem_map.mp hy
        rfl
      have here : inV (.int 0) ((R.take vs1.length).map fun r => V.int (r.2.1 : Int)) = true := by
        obtain ⟨r, hr', r0⟩ := hc
        rw [l1s, List.take_length]
        exact inV_here (List.mem_map.mpr ⟨r, hr', by rw [r0]; rfl⟩) rfl
      refine ⟨D, _, rfl, .inl (.inl (.inl gD)), rfl, fl, false, congrArg (fun z => V.bl (!z)) here, iteF ?_⟩
      have s03 : Same H G := fun b o e => sm _ _ (s02 _ _ e)
      have sq1' := (TK.same sm).sq sq1
      have f1' := f1.mono (RowV.mono (TK.same sm))
      clear sq1 f1 fl here gD sm s02 nD
      refine ⟨v2, rfl, (by show 1 ≤ sizeLine; decide), fun l2 n2 => ?_⟩
      have s4 : Same G (upd G l2 (.lst [.str "yes"])) := same_new (fun b o e => e) n2 _
      have m2 : (upd G l2 (.lst [.str "yes"])) l2 = some (.lst [.str "yes"]) := upd_same
      generalize upd G l2 (.lst [.str "yes"]) = G1 at s4 m2
      have sq1 := (TK.same s4).sq sq1'
      have f1 := f1'.mono (RowV.mono (TK.same s4))
      refine ⟨.ref p1, rfl, p1, rfl, ⟨_, sq1⟩, fun D2 nD2 => lc_tup (K := K) (a := p1) (xs := vs1) (fun i G => ∃ acc, Same G1 G ∧ G D2 = some (.lst acc) ∧ acc = ((R.take i).map (·.1)).map V.str) ⟨[], same_new (fun b o e => e) nD2 _, upd_same, rfl⟩ (fun i G _ ⟨_, sm, _⟩ => (TK.same sm).sq sq1) ?_ ?_⟩
      · rintro i x G hi ⟨acc, sm, gD, rfl⟩
        obtain ⟨r, hr', ⟨b, rfl, hb⟩⟩ := f1.get hi
        have ilt := (List.getElem?_eq_some_iff.mp hr').1
        refine ⟨b, _, rfl, (TK.same sm).sq hb, rfl, _, _, rfl, _, _, rfl, _, _, rfl, rfl, rfl, _, rfl, _, gD, ?_, _, same_on sm nD2 _, upd_same, ?_⟩
        · rw [List.length_map, List.length_map, List.length_take, sizeLine_eq]
          omega
        · rw [take_next hr', List.map_append, List.map_append]
          rfl
      rintro G2 ⟨acc, sm, gD, rfl⟩
      rw [l1s, List.take_length] at gD
      refine ⟨l2, D2, _, _, rfl, rfl, sm _ _ m2, gD, ?_, fun l3 n3 => ?_⟩
      · rw [List.length_map, List.length_map, List.length_singleton, sizeLine_eq]
        omega
      have sH2 : Same H G2 := fun b o e => sm _ _ (s4 _ _ (s03 _ _ e))
      have s5 : Same G2 (upd G2 l3 (.lst ([.str "yes"] ++ (R.map (·.1)).map V.str))) := same_new (fun b o e => e) n3 _
      have m3 : (upd G2 l3 (.lst ([.str "yes"] ++ (R.map (·.1)).map V.str))) l3 = some (.lst ((("yes" : Str) :: R.map (·.1)).map V.str)) := upd_same
      generalize upd G2 l3 (.lst ([.str "yes"] ++ (R.map (·.1)).map V.str)) = G3 at s5 m3
      have sH3 : Same H G3 := fun b o e => s5 _ _ (sH2 _ _ e)
      have said : ∀ H2, Same G3 H2 → _ := fun H2 (s6 : Same G3 H2) => throw (σ := [some (.ref o), some v1, some v2, some (.ref p1), some .non, none, none, none, none, none, none]) (i := 2) rfl (fun b u e => s6 _ _ (sH3 _ _ e)) th
      refine ⟨v2, l3, ("yes" : Str) :: R.map (·.1), rfl, m3, by rw [List.length_cons, List.length_map]; omega, ?_⟩
      rcases hb.same sH3 with ⟨ty, h1, h2⟩ | ⟨ra, xs, ds, e, h1, h2, h3, h4⟩
      · exact .inl ⟨ty, h1, h2, fun H2 s2 => ⟨.non, rfl, rfl, true, rfl, iteT (said H2 s2)⟩⟩
      · exact .inr ⟨ra, xs, ds, e, h1, h2, h3, fun _ H2 s2 => ⟨.non, rfl, rfl, true, rfl, iteT (said H2 s2)⟩, fun R e => by rw [h4] at e; cases e⟩
end
end Ad

/-! try: .. with several clauses except X as n. -/
namespace Tm
open PySem PySem.Spec PySem.Calls PyProof.Rows L2
/-- the ends of a suite whose name goes behind it -/
abbrev gone (i : Nat) (D : Ends) : Ends := { nx := fun τ G => D.nx (τ.set i none) G, rt := D.rt, bk := fun τ G => D.bk (τ.set i none) G, ct := fun τ G => D.ct (τ.set i none) G }
abbrev Suite := Addr → Value → Option Addr → TS
/-- what the clauses wish of an exception, one after another; slot i is their name's -/
def wish (K : PySem.W.Frag) (Wout : WX) (D : Ends) (i : Nat) : List (Value × Suite) → WX
  | [] => Wout
  | (c, ts) :: l => fun cls d σ H => ∃ b, PySem.W.exmOne K cls c = some b ∧ (b = true → ∀ a, H a = none → i < σ.length → ts a cls d (gone i D) (σ.set i (some (.ref a))) H) ∧ (b = false → wish K Wout D i l cls d σ H)
/-- the clauses -/
inductive Clauses (X : Cx) (n : Str) : List ExceptHandler → List (Value × Suite) → Prop
  | done : Clauses X n [] []
  | next {x : Str} {c : Value} {ts : Suite} {st : Stmt} {sts : List Stmt} {p1 p2 : Pos} {hs : List ExceptHandler} {l : List (Value × Suite)} (named : Names X x c)
      (suite : ∀ (a : Addr) (oe : Obj) (cls : Value) (d : Option Addr) (pn : List (Addr × Obj)), Zc cls d oe → (∃ vs, oe.data = .fields vs) → PSs (X.suite a ((a, oe) :: pn)) (st :: sts) (ts a cls d)) (rest : Clauses X n hs l) :
      Clauses X n (.ExceptHandler (some (.Name x p1)) (some n) (st :: sts) p2 :: hs) ((c, ts) :: l)
section
variable {X : Cx} {n : Str} {i : Nat} {body : List Stmt} {h₀ : ExceptHandler} {hs : List ExceptHandler} {l : List (Value × Suite)} {pos : Pos} {tb : WX → TS} {Wout : WX}
theorem ps_tryAs (stk : X.stack = X.env :: X.outer) (frm : X.env.frame = some X.env.locals) (nod : X.N.Nodup) (slot : X.N[i]? = some n) (loc : X.env.kindOf n = some .local) (tk : Takes X Wout)
    (hb : ∀ (W : WX) (pn : List (Addr × Obj)) (xe : Value → Shared → Prop), Takes (X.tr pn xe) W → PassesOwn (model X.prog X.w) X.A X.env xe → PSs (X.tr pn xe) body (tb W))
    (cl : Clauses X n (h₀ :: hs) l) : PS X (.Try body (h₀ :: hs) [] [] pos) (fun D σ H => tb (wish X.K Wout D i l) D σ H) := by
  refine ⟨fun pins s σ H D J ask => ?_⟩
  have okx := J.ok
  have frs' : X.A.frames = some (X.env :: X.outer) := by rw [okx.frames, stk]
  have lc : Loc X.env.scope n := .inl loc
  refine wpAny_Try_except ?_
  have bodyRun := (hb (wish X.K Wout D i l) (X.pn ++ pins) (fun e s1 => wpAny (model X.prog X.w) X.A (noteFrame e X.env) (fun _ s2 => wpAny (model X.prog X.w) X.A (setFlight e none) (fun _ s3 => wpAny (model X.prog X.w) X.A (handleBy e X.env (h₀ :: hs)) (SP X pins D) X.xe s3) X.xe s2) X.xe s1) ?caught PassesOwn.looking).run [] s σ H D (J.toTry _) ask
  case caught =>
    rintro u s' ⟨a, B, sI, pins', σ', G, cls, d, rfl, JI, kept, up1, fly, free, os, bare, wsh⟩
    have J1 : Inv X pins σ' G sI := JI.ofTry okx
    have fly1 : Sky B (X.env :: X.outer) a (Zc cls d) X.env.locals s'.heap := stk ▸ fly
    show wpAny (model X.prog X.w) X.A (noteFrame (.ref a) X.env) _ _ _
    refine Sky.land Zc.steady frs' frm fly1 fun h3 low up3 => ?_
    have J3 : Inv X pins σ' G { s' with heap := h3 } := J1.landed kept low.1 (up1.trans up3) os bare
    obtain ⟨o3, v3, look3, z3, dat3⟩ := low.there
    have out : ∀ {h : Heap} {o : Obj} {vs : Array Value}, h.FunFrames B (X.env :: X.outer) → h.get? a = some o → o.data = .fields vs → a ∉ frs (X.env :: X.outer) := by
      intro h o vs ff e dd m
      obtain ⟨_, o2, e2, no⟩ := ff.mem m
      rw [e] at e2
      cases e2
      exact no _ dd
    have notF := out low.2.2.1 look3 dat3
    have notL : a ≠ X.env.locals := fun z => notF (List.mem_filterMap.mpr ⟨X.env, List.mem_cons_self, by rw [frm, z]⟩)
    have notS : a ∉ X.fs := by
      intro m
      obtain ⟨e, me, q⟩ := List.mem_filterMap.mp m
      exact notF (List.mem_filterMap.mpr ⟨e, List.mem_cons_of_mem _ me, q⟩)
    have S3 := J3.suite look3 dat3 free notL notS
    have go : ∀ {hs' : List ExceptHandler} {l' : List (Value × Suite)}, Clauses X n hs' l' → wish X.K Wout D i l' cls d σ' G → wpAny (model X.prog X.w) X.A (handleBy (.ref a) X.env hs') (SP X pins D) X.xe { s' with heap := h3 } := by
      intro hs' l' c
      induction c with
      | done =>
        intro wo
        refine wpAny_handleBy_nil ?_
        obtain ⟨_, _, _, o4, v4, T4, oT, _, look4, _, dat4, one4, _⟩ := id low
        unfold PySem.passOn
        refine wpAny_bind (wpAny_field look4 dat4 one4 ?_)
        rw [if_neg (show ¬ ((Value.ref T4 == Value.none) = true) by simp)]
        have again : wpAny (model X.prog X.w) X.A (setFlight (.ref a) X.env.frame) (fun _ s4 => wpAny (model X.prog X.w) X.A (throw (.ref a) : Sem Flow) (SP X pins D) X.xe s4) X.xe { s' with heap := h3 } := by
          rw [frm]
          refine HandSPX.setFlight_upZ low fun h4 held up4 => wpAny_throw (tk _ _ ?_)
          exact ⟨a, B, sI, pins, σ', G, cls, d, rfl, J1, kept, (up1.trans up3).trans up4, .inr (.inr (stk ▸ held)), free, os, bare, wo⟩
        first
          | exact wpAny_bind (wpAny_pure (wpAny_bind again))
          | exact wpAny_bind again
      | @next x c ts st sts p1 p2 hs2 l2 named suite rest ih =>
        intro ⟨b, eb, yes, no⟩
        refine wpAny_handleBy_cons (codeAny_handlers_test ?_) (by intro q; cases q)
        have LT : PySem.W.Looks (model X.prog X.w) h3 (typeOf (.ref a)) cls := fun A Q E s4 kk q => wpAny_typeOf_ref (kk _ _ look3) (by rw [z3.1]; exact q)
        have LM := PySem.W.exm_one (M := model X.prog X.w) J3.kIn LT eb
        have said : ∀ {Q E : Value → Shared → Prop}, Q c { s' with heap := h3 } → wpAny (model X.prog X.w) (X.A.mark (some (.ref a))) (eval (.Name x p1) X.env) Q E { s' with heap := h3 } := by
          intro Q E q
          obtain ⟨gl, db, there | ⟨gone', bt, nn⟩⟩ := named
          · exact ld_glob (X := X.suite a ((a, o3) :: (X.pn ++ pins))) S3 gl there q db
          · exact ld_blt (X := X.suite a ((a, o3) :: (X.pn ++ pins))) S3 gl gone' bt q nn db
        refine said (LM.here ?_)
        match b, yes, no with
        | true, yes, _ =>
          refine codeAny_handlers_suite_as ?_
          refine HandSPX.lands_againZ low fun h4 low4 up4 => ?_
          have J4 : Inv X pins σ' G { s' with heap := h4 } := J1.landed kept low4.1 ((up1.trans up3).trans up4) os bare
          obtain ⟨o4, v4, look4, z4, dat4⟩ := low4.there
          have S4 := J4.suite look4 dat4 free notL notS
          refine store_ok (X := X.suite a ((a, o4) :: (X.pn ++ pins))) (v := .ref a) S4 nod slot lc rfl (fun s5 S5 => ?_) (.inr loc)
          have ends : ∀ {σ6 : L2.St} {G6 : Hp} {s6 : Shared} {Q : Shared → Prop}, Inv (X.suite a ((a, o4) :: (X.pn ++ pins))) [] σ6 G6 s6 → (∀ s7, Inv X pins (σ6.set i none) G6 s7 → Q s7) →
              wpAny (model X.prog X.w) X.A (do bindName X.env n .none; unbindBehindTheSuite X.env n p2) (fun _ s7 => Q s7) X.xe s6 := fun S6 q => gone_ok (S6.unsuite okx) nod slot loc q
          refine wpAny_mono ((suite a o4 cls d (X.pn ++ pins) z4 ⟨_, dat4⟩).run [] s5 _ G _ S5 (yes rfl a free (by rw [J1.len]; exact (List.getElem?_eq_some_iff.mp slot).1))) (fun fl s6 back => ?_) (fun _ _ z => False.elim z)
          match fl, back with
          | .next, ⟨_, _, S6, q6⟩ => exact ends S6 fun s7 J7 => ⟨_, _, J7, q6⟩
          | .brk, ⟨_, _, S6, q6⟩ => exact ends S6 fun s7 J7 => ⟨_, _, J7, q6⟩
          | .cont, ⟨_, _, S6, q6⟩ => exact ends S6 fun s7 J7 => ⟨_, _, J7, q6⟩
          | .ret u, ⟨_, _, _, S6, r6, q6⟩ => exact ends S6 fun s7 J7 => ⟨_, _, _, J7, r6, q6⟩
        | false, _, no =>
          show wpAny _ X.A (handleBy (.ref a) X.env hs2) _ _ _
          exact ih (no rfl)
    exact go cl wsh
  refine wpAny_mono bodyRun (fun fl s1 back => ?_) (fun e s1 z => z)
  match fl, back with
  | .next, ⟨_, _, J', q⟩ => exact wpAny_execs_nil ⟨_, _, J'.ofTry okx, q⟩
  | .brk, ⟨_, _, J', q⟩ => exact ⟨_, _, J'.ofTry okx, q⟩
  | .cont, ⟨_, _, J', q⟩ => exact ⟨_, _, J'.ofTry okx, q⟩
  | .ret u, ⟨_, _, _, J', r, q⟩ => exact ⟨_, _, _, J'.ofTry okx, r, q⟩
end
end Tm

/-! repr of a dict of one text; the def that tells an error's fields. -/
namespace Ad
open PySem PySem.Spec PySem.Calls PyProof.Rows L2
/-- what repr(v) tells -/
def Sw (K : PySem.W.Frag) (H : Hp) (v : V) (y : Str) : Prop :=
  (∃ d : PyData, Dp K H v d ∧ d.showable = true ∧ d.hasDict = false ∧ d.depth ≤ 60 ∧ d.shown.length ≤ sizeLine ∧ y = d.shown) ∨
  ∃ (a : Addr) (x : Str) (i : Int), v = .ref a ∧ H a = some (.dK [(.inr x, .int i)]) ∧ (PyData.dict [(.str x, .int i)]).showable = true ∧ (PyData.dict [(.str x, .int i)]).shown.length ≤ sizeLine ∧ y = (PyData.dict [(.str x, .int i)]).shown
section
variable {X : Cx}
theorem dk1_reads {P : Program} {w : World} {H : Hp} {h : Heap} {a : Addr} {x : Str} {i : Int} (ok : HOk P w H h) (e : H a = some (.dK [(.inr x, .int i)])) : (a == sysModules) = false ∧ Reads h (.ref a) (.dict [(.str x, .int i)]) [a] := by
  obtain ⟨_, ns, vs, kv, o, es, ep, h1, h2, h3, _, h5, _⟩ := dk_of ok e
  refine ⟨ns, ?_⟩
  cases kv with
  | @cons _ q _ qs hq hr =>
    cases hr
    obtain ⟨k, u⟩ := q
    obtain ⟨e1, e2⟩ := hq
    have e1' : (Sum.inr x : Key) = k := e1
    subst e1'
    have e2' : RelV (.int i) u := e2
    obtain ⟨l⟩ := es
    have h5' : Pairs (mixKind P w) l [(Sum.inr x, u)] := h5
    cases h5' with
    | @cons en kv es' kvs hk hv ht =>
      cases ht
      have hk' : Value.isStrOf x en.key = true := hk
      have hv' : en.val = u := hv
      obtain ⟨_, _, z, _⟩ | ⟨x', t, e3, e4⟩ := keyIs_shape (k := .inr x) (v := en.key) hk
      · cases z
      · cases e3
        obtain ⟨ti, hu⟩ := show ∃ t, u = Value.int i t from e2'
        refine Reads.dict (as := []) (bs := []) h1 h2.1 h3 ?_ ?_
        · show ReadsAll h [en.key] [PyData.str x] []
          rw [e4]
          exact ReadsAll.cons (as := []) (bs := []) (.str x t) .nil
        · show ReadsAll h [en.val] [PyData.int i] []
          rw [hv', hu]
          exact ReadsAll.cons (as := []) (bs := []) (.int i ti) .nil
def rReprS (K : PySem.W.Frag) : List V → Hp → VK → Prop := fun xs H Q => ∃ (v : V) (y : Str), xs = [v] ∧ Sw K H v y ∧ Q (.str y) H
/-- repr(x) of such a value, where no repr is under way -/
theorem call_reprS (gd : X.A.guards = some []) (hu : X.A.units + 64 < cLine) : CallR X (.builtin "repr") (rReprS X.K) := by
  intro pins s σ H xs us Q J rel ask
  obtain ⟨v, y, rfl, hd, q⟩ := ask
  rcases hd with ⟨d, h1, h2, h3, h4, h5, rfl⟩ | ⟨a, x, i, rfl, ha, h2, h5, rfl⟩
  · exact call_reprD gd hu pins s σ H [v] us Q J rel ⟨v, d, rfl, h1, h2, h3, h4, h5, q⟩
  · match us, rel with
    | [u], .cons r .nil =>
      obtain rfl : u = Value.ref a := r
      obtain ⟨ns, rd⟩ := dk1_reads J.hok ha
      refine repr_of_reads' rd h2 (fun _ m => ?_) gd ?_ (fun _ _ z => z) (fun h' u tk kp => ⟨.str _, H, J.kept (t' := tk) kp, ⟨_, rfl⟩, q⟩) h5
      · rw [List.mem_singleton.mp m] at ns
        simp at ns
      · have e : (PyData.dict [(.str x, .int i)]).depth ≤ 5 := by simp [PyData.depth, PyData.depthAll, PyData.depthKv]
        omega
end
/-- the def's answer: ("row", repr(row)) of a BadRow, None without an error -/
def TWhy (K : PySem.W.Frag) (CR : Addr) : (XK → Hp → VK → Prop) → Hp → VK → Prop := fun tl H Q =>
  tl (fun cls d H' => cls = .ref CR ∧ ∃ (dd : Addr) (v : V) (y : Str), d = some dd ∧ H' dd = some (.xd [("row", v)]) ∧ Sw K H' v y ∧ ∀ t, H' t = none → Q (.ref t) (upd H' t (.tup [.str "row", .str y]))) H (fun _ H' => Q .non H')
abbrev sWhy : Stmt := topS 20
theorem scWhy : FnScope ["_law_call", "e"] ["_law_call"] (defScope sWhy) := ⟨rfl, rfl, rfl, by decide +kernel, rfl, by decide +kernel, by decide +kernel⟩
theorem mark_guards {A : Around} {v : Option Value} (h : A.guards = some []) : (A.mark v).guards = some [] := by
  first
    | exact h
    | (obtain ⟨a, b, c, d, e⟩ := A; cases h; rfl)
theorem why_gives {X : Cx} {g CR CN fE : Addr} {cdg : Value} {q : Str} (gd : X.A.guards = some []) (hu : X.A.units + 100 < cLine) (T : Er X.K CR fE "row") (mR : X.mg "BadRow" = some (.ref CR)) (mN : X.mg "BadNumber" = some (.ref CN)) (m_repr : X.mg "repr" = none)
    (xN : PySem.W.exmOne X.K (.ref CR) (.ref CN) = some false) (xR : PySem.W.exmOne X.K (.ref CR) (.ref CR) = some true) : LamX.GivesTo X ["_law_call", "e"] "_law_why" (defScope sWhy) g cdg (defBody sWhy) "_law_call" q (TWhy X.K CR) := by
  intro f c' s H Q tl act hc h
  have gd' : (X.A.deeper (envOfC "_law_why" (defScope sWhy) s.heap.objs.size g cdg)).guards = some [] := deeper_guards gd
  have hu' : (X.A.deeper (envOfC "_law_why" (defScope sWhy) s.heap.objs.size g cdg)).units + 64 < cLine := by
    show X.A.units + 3 + 64 < cLine
    omega
  refine ⟨_, pss_cons (Tm.ps_tryAs (i := 1) (X := (cxOf C8.CX0 X.prog X.w X.K X.mg X.base ["_law_call", "e"] "_law_why" (defScope sWhy) g cdg X.A X.stack s H C8.E0).nox) (Wout := fun _ _ _ _ => False)
      (tb := fun W D σ H => ∃ Ech : XK, (∀ cls d σ' H', Ech cls d H' → W cls d σ' H') ∧ σ[0]? = some (some (.ref f)) ∧ H c' = some (LamX.CodeO c' q) ∧ tl Ech H (fun _ H' => D.nx σ H'))
      rfl rfl scWhy.nd rfl (by rfl) LamX.takes0 (fun W pn xe tk _ => ?_)
      (.next (c := .ref CN) ⟨by rfl, by decide, .inl mN⟩ (fun a oe cls d pn z fs => pss_never)
      (.next (c := .ref CR) ⟨by rfl, by decide, .inl mR⟩ (fun a oe cls d pn z fs => pss_one (ps_ret (pe_tup (pa_cons pe_str (pa_cons (pe_callB (r := rReprS X.K) (call_reprS (X := ((cxOf C8.CX0 X.prog X.w X.K X.mg X.base ["_law_call", "e"] "_law_why" (defScope sWhy) g cdg X.A X.stack s H C8.E0).nox).suite a ((a, oe) :: pn)) (mark_guards gd') hu') (by rfl) m_repr (by decide +kernel) (pa_cons (pe_xf T.xf T.no z fs (pv 1)) pa_nil)) pa_nil))))) .done))) (pss_one (ps_ret pe_non)), ?_⟩
  · refine ⟨fun pins s' σ H' D I h' => ?_⟩
    obtain ⟨Ech, hW, h1, h2, h3⟩ := h'
    exact (pss_one (ps_expr (act W pn xe Ech _ _ tk hW))).run pins s' σ H' D I ⟨h1, h2, h3⟩
  · refine ⟨_, fun cls d σ' H' hw => ?_, rfl, hc, h⟩
    obtain ⟨rfl, dd, v, y, rfl, e1, e2, e3⟩ := hw
    refine ⟨false, xN, fun z => (nomatch z), fun _ => ⟨true, xR, fun _ a na lt => ?_, fun z => (nomatch z)⟩⟩
    have at1 : (σ'.set 1 (some (V.ref a)))[1]? = some (some (.ref a)) := by simp [lt]
    refine ⟨.ref a, at1, rfl, rfl, dd, _, v, rfl, e1, rfl, v, y, rfl, e2, by show 2 ≤ sizeLine; rw [sizeLine_eq]; decide, fun t nt => e3 t nt⟩
end Ad

/-! Data, dicts of one text among it. -/
namespace Ad
open PySem PySem.Spec PySem.Calls PyProof.Rows L2
def Dq (K : PySem.W.Frag) (H : Hp) (d : PyData) (v : V) : Prop := Dp K H v d ∨ ∃ (a : Addr) (x : Str) (i : Int), v = .ref a ∧ H a = some (.dK [(.inr x, .int i)]) ∧ d = .dict [(.str x, .int i)]
theorem Dq.same {K : PySem.W.Frag} {H H' : Hp} (s : Same H H') (d : PyData) (v : V) (h : Dq K H d v) : Dq K H' d v := by
  rcases h with h | ⟨a, x, i, e1, e2, e3⟩
  · exact .inl (dp_same s h)
  · exact .inr ⟨a, x, i, e1, s _ _ e2, e3⟩
theorem Dq.pen {K : PySem.W.Frag} {H H' : Hp} {p l : Addr} {ns : List Int} {c : Nat} (P : Pn.Pen H p l ns c) (b : Pn.But p H H') (d : PyData) (v : V) (h : Dq K H d v) : Dq K H' d v := by
  rcases h with h | ⟨a, x, i, e1, e2, e3⟩
  · exact .inl (pen_dp P b h)
  · refine .inr ⟨a, x, i, e1, b _ _ (fun z => ?_) e2, e3⟩
    obtain ⟨⟨a1, d, f, e, _⟩, _⟩ := P
    rw [z, e] at e2
    exact nomatch (HO.dK.inj (Option.some.inj e2))
theorem ext_dp {K : PySem.W.Frag} {H H' : Hp} (k : LamX.ExtN H H') {d : PyData} {v : V} (h : Dp K H v d) : Dp K H' v d := dp_mono (fun {a xs} => ⟨fun h => by
  rcases h with (h | ⟨o, h⟩) | h
  · exact .inl (.inl (k _ _ h fun ps z => nomatch z))
  · exact .inl (.inr ⟨o, k _ _ h fun ps z => nomatch z⟩)
  · exact .inr h, fun h => by
  rcases h with (h | ⟨o, h⟩) | h
  · exact .inl (.inl (k _ _ h fun ps z => nomatch z))
  · exact .inl (.inr ⟨o, k _ _ h fun ps z => nomatch z⟩)
  · exact .inr h⟩) h
theorem Dq.ext {K : PySem.W.Frag} {H H' : Hp} (k : LamX.ExtN H H') (d : PyData) (v : V) (h : Dq K H d v) : Dq K H' d v := by
  rcases h with h | ⟨a, x, i, e1, e2, e3⟩
  · exact .inl (ext_dp k h)
  · exact .inr ⟨a, x, i, e1, k _ _ e2 (fun ps z => nomatch z), e3⟩
abbrev DqA (K : PySem.W.Frag) (H : Hp) (ds : List PyData) (vs : List V) : Prop := F2 (Dq K H) ds vs
def EQ (K : PySem.W.Frag) (te : TE) (σ : L2.St) (H : Hp) (d : PyData) : Prop := ∀ H1, Same H H1 → ∀ Q : VK, (∀ v H2, Same H1 H2 → Dq K H2 d v → Q v H2) → te σ H1 Q
def EQs (K : PySem.W.Frag) (ta : TA) (σ : L2.St) (H : Hp) (ds : List PyData) : Prop := ∀ H1, Same H H1 → ∀ Q : List V → Hp → Prop, (∀ vs H2, Same H1 H2 → DqA K H2 ds vs → Q vs H2) → ta σ H1 Q
def EQL (K : PySem.W.Frag) (te : TE) (σ : L2.St) (H : Hp) (ds : List PyData) : Prop := ∀ H1, Same H H1 → ∀ Q : VK, (∀ l xs H2, Same H1 H2 → H1 l = none → H2 l = some (.lst xs) → DqA K H2 ds xs → Q (.ref l) H2) → te σ H1 Q
section
variable {K : PySem.W.Frag} {σ : L2.St} {H : Hp}
theorem ED.q {te : TE} {d : PyData} (h : ED K te σ H d) : EQ K te σ H d := fun H1 s Q q => h H1 s Q fun v H2 s2 hv => q v H2 s2 (.inl hv)
theorem eqs_nil : EQs K tNil σ H [] := fun H1 s Q q => q _ H1 (Same.refl _) rfl
theorem eqs_cons {te : TE} {ta : TA} {d : PyData} {ds : List PyData} (h : EQ K te σ H d) (t : EQs K ta σ H ds) : EQs K (tCons te ta) σ H (d :: ds) := fun H1 s Q q =>
  h H1 s _ fun v H2 s2 hv => t H2 (s.trans s2) _ fun vs H3 s3 hvs => q _ H3 (s2.trans s3) ⟨_, _, rfl, Dq.same s3 _ _ hv, hvs⟩
theorem eql_lst {ta : TA} {ds : List PyData} (h : EQs K ta σ H ds) (few : ds.length ≤ 1000) : EQL K (tLst ta) σ H ds := fun H1 s Q q =>
  h H1 s _ fun vs H2 s2 hv => ⟨by rw [hv.len, sizeLine_eq]; omega, fun p np => by
    have s3 : Same H2 (upd H2 p (.lst vs)) := same_new (fun b o e => e) np _
    exact q p vs _ (s2.trans s3) (none_before s2 np) upd_same (hv.mono (Dq.same s3))⟩
theorem eql_cat_var {i : Nat} {l : Addr} {xs : List V} {t2 : TE} {d1 d2 : List PyData} (e0 : σ[i]? = some (some (.ref l))) (e : H l = some (.lst xs)) (hv : DqA K H d1 xs) (h2 : EQL K t2 σ H d2) (few : d1.length + d2.length ≤ 1000000) : EQL K (tOp rCat (tVar i) t2) σ H (d1 ++ d2) := fun H1 s Q q =>
  ⟨.ref l, e0, h2 H1 s _ fun l' xs' H3 s3 nl' e' hv' =>
    ⟨l, l', xs, xs', rfl, rfl, s3 _ _ (s _ _ e), e', by rw [hv.len, hv'.len, sizeLine_eq]; omega, fun p np => by
      have s4 : Same H3 (upd H3 p (.lst (xs ++ xs'))) := same_new (fun b o e => e) np _
      exact q p _ _ (s3.trans s4) (none_before s3 np) upd_same (F2.app (hv.mono (Dq.same ((s.trans s3).trans s4))) (hv'.mono (Dq.same s4)))⟩⟩
theorem eq_dict {x : Str} {i : Int} : EQ K (tDisp [(tC (.str x), tC (.int i))]) σ H (.dict [(.str x, .int i)]) := fun H1 s Q q p np => by
  refine ⟨upd_same, [(.inr x, .int i)], rfl, by show 1 ≤ 15; decide, ?_⟩
  have e : upd (upd H1 p (.dK [])) p (.dK (mergeK [] [(.inr x, .int i)])) = upd H1 p (.dK [(.inr x, .int i)]) := by
    funext b
    by_cases h : b = p
    · subst h
      rw [upd_same, upd_same]
      rfl
    · rw [upd_ne h, upd_ne h, upd_ne h]
  show Q (.ref p) (upd (upd H1 p (.dK [])) p (.dK (mergeK [] [(.inr x, .int i)])))
  rw [e]
  exact q _ _ (same_new (fun b o e => e) np _) (.inr ⟨p, x, i, rfl, upd_same, rfl⟩)
end
/-- what an Order refuses -/
def badB (T : List Str) (d : PyData) : Bool := !isTL d || (decide ((itemsD d).length ≤ 100) && (triplesF T (itemsD d)).isNone)
def badO (d : PyData) : Bool := badB ["yes"] d || (isTL d && (decide ((itemsD d).length ≤ 50) && (match triplesF ["yes"] (itemsD d) with
  | some R => R.all fun r => decide (r.2.1 ≠ 0)
  | none => false)))
def noDc : PyData → Bool
  | .dict _ => true
  | d => !d.hasDict
def rowA (y : Str) : PyData := .tuple [.str "row", .str y]
def showB (d : PyData) : Bool := noDc d && (decide (d.showable = true) && (decide (d.depth ≤ 60) && decide (d.shown.length ≤ 100)))
def rowB (d : PyData) : Bool := SeqAt.shaped (rowA d.shown) && PyData.eqv (rowA d.shown) (rowA d.shown)
theorem noDc_dp {K : PySem.W.Frag} {H : Hp} {v : V} {d : PyData} (h : Dp K H v d) (b : noDc d = true) : d.hasDict = false := by
  cases h <;> first | rfl | exact Bool.not_eq_true' _ |>.mp b
theorem badB_ok {K : PySem.W.Frag} {H : Hp} {v : V} {d : PyData} {T : List Str} (h : Dq K H d v) (b : badB T d = true) : RowBad K H v T := by
  rcases h with h | ⟨a, x, i, rfl, e, rfl⟩
  · have b' : (!isTL d || (decide ((itemsD d).length ≤ 100) && (triplesF T (itemsD d)).isNone)) = true := b
    cases t : isTL d with
    | false =>
      refine .inl ⟨_, dp_ty h, ?_⟩
      rw [kit_tl, t]
    | true =>
      rw [t] at b'
      have b2 : (decide ((itemsD d).length ≤ 100) && (triplesF T (itemsD d)).isNone) = true := b'
      rw [Bool.and_eq_true] at b2
      obtain ⟨ra, xs, rfl, h1, h2⟩ := dp_seq h t
      exact .inr ⟨ra, xs, _, rfl, h1, h2, of_decide_eq_true b2.1, Option.isNone_iff_eq_none.mp b2.2⟩
  · exact .inl ⟨_, .base (.dK e), kit_no "dict" (by decide +kernel) (by decide +kernel)⟩
theorem badO_ok {K : PySem.W.Frag} {H : Hp} {v : V} {d : PyData} (h : Dq K H d v) (b : badO d = true) : RowBad K H v ["yes"] ∨ ∃ R, RowGood K H v ["yes"] R ∧ ∀ r ∈ R, r.2.1 ≠ 0 := by
  unfold badO at b
  rw [Bool.or_eq_true] at b
  rcases b with b | b
  · exact .inl (badB_ok h b)
  · rw [Bool.and_eq_true, Bool.and_eq_true] at b
    obtain ⟨t, l, m⟩ := b
    rcases h with h | ⟨a, x, i, rfl, e, rfl⟩
    · obtain ⟨ra, xs, rfl, h1, h2⟩ := dp_seq h t
      cases e : triplesF ["yes"] (itemsD d) with
      | none =>
        rw [e] at m
        cases m
      | some R =>
        rw [e] at m
        exact .inr ⟨R, ⟨ra, xs, _, rfl, h1, h2, of_decide_eq_true l, e⟩, fun r hr => of_decide_eq_true (List.all_eq_true.mp m r hr)⟩
    · cases t
theorem showB_ok {K : PySem.W.Frag} {H : Hp} {v : V} {d : PyData} (h : Dq K H d v) (b : showB d = true) : Sw K H v d.shown := by
  unfold showB at b
  rw [Bool.and_eq_true, Bool.and_eq_true, Bool.and_eq_true] at b
  obtain ⟨b0, b1, b2, b3⟩ := b
  have c1 := of_decide_eq_true b1
  have c2 := of_decide_eq_true b2
  have c3 := of_decide_eq_true b3
  have c4 : d.shown.length ≤ sizeLine := by
    rw [sizeLine_eq]
    omega
  rcases h with h | ⟨a, x, i, rfl, e, rfl⟩
  · exact .inl ⟨d, h, c1, noDc_dp h b0, c2, c4, rfl⟩
  · exact .inr ⟨a, x, i, rfl, e, c1, c4, rfl⟩
/-- the law's rows -/
def oneT (x : Str) (m w : PyData) : PyData := .tuple [.str x, m, w]
def badL1 : List PyData := [.none, .int 5, .str "ab", .list [], .list [oneT "f" (.int 1) (.int 1)], .list [oneT "a" (.int 0) (.int 0)], .list [oneT "a" (.int 0) (.int (-1))], .list [oneT "a" (.int (-1)) (.int 1), oneT "b" (.int 0) (.int 1)], .list [.tuple [.str "a", .int 0]]]
def badL2 : List PyData := [.list [oneT "a" (.int 0) (.int 1), oneT "a" (.int 1) (.int 1)], .list [oneT "yes" (.int 0) (.int 1)], .list [.tuple [.int 1, .int 0, .int 1]], .list [oneT "a" (.bool true) (.int 1)], .list [oneT "a" (.int 0) .none]]
def badL3 : List PyData := [.list [oneT "a" (.int 0) (.int 1), .none], .dict [(.str "a", .int 1)], .list [oneT "a" (.int 0) (.int 1), oneT "b" (.int 0) (.bool true)]]
def moreL : List PyData := [.none, .int 5, .str "ab", .list [oneT "a" (.int 0) (.int 1)], .list [oneT "p" (.int 1) (.int 0)], .list [oneT "p" (.int 1) (.int 1), oneT "p" (.int 0) (.int 1)], .list [oneT "yes" (.int 0) (.int 1)], .list [.tuple []]]
def moreL2 : PyData := .list [oneT "p" (.str "1") (.int 1)]
def goodD : PyData := .list [oneT "a" (.int 0) (.int 1), .list [.str "f", .int 1, .int 2]]
def goodR : List Row := [("a", 0, 1), ("f", 1, 2)]
theorem good_rows : triplesF ["yes"] (itemsD goodD) = some goodR := by decide +kernel
theorem good_ok {K : PySem.W.Frag} {H : Hp} {v : V} (h : Dp K H v goodD) : RowGood K H v ["yes"] goodR := by
  obtain ⟨ra, xs, rfl, h1, h2⟩ := dp_seq h rfl
  exact ⟨ra, xs, _, rfl, h1, h2, by decide, good_rows⟩
theorem bad_all : ((badL1 ++ badL2) ++ badL3).all (fun d => badO d && (showB d && rowB d)) = true := by decide +kernel
theorem more_all : (moreL ++ [moreL2]).all (fun d => badB ["yes", "a", "f"] d && (showB d && rowB d)) = true := by decide +kernel
theorem bad_all' {d : PyData} (h : d ∈ (badL1 ++ badL2) ++ badL3) : badO d = true ∧ showB d = true ∧ rowB d = true := by
  have e := List.all_eq_true.mp bad_all d h
  rw [Bool.and_eq_true, Bool.and_eq_true] at e
  exact e
theorem more_all' {d : PyData} (h : d ∈ moreL ++ [moreL2]) : badB ["yes", "a", "f"] d = true ∧ showB d = true ∧ rowB d = true := by
  have e := List.all_eq_true.mp more_all d h
  rw [Bool.and_eq_true, Bool.and_eq_true] at e
  exact e
theorem ext_of {H H' : Hp} (s : Same H H') : LamX.ExtN H H' := LamX.ExtN.of s
/-- _law_why(lambda: Order(v1, v2)), where Order raises BadRow(v) -/
theorem lam_eval {K : PySem.W.Frag} {C CR : Addr} {Ts : List (Addr × Str)} {i j : Nat} {σ : L2.St} {G : Hp} {v1 v2 v : V} {y : Str} {Q : VK} (e1 : σ[i]? = some (some v1)) (e2 : σ[j]? = some (some v2)) (tabs : LamX.Tabs Ts G)
    (bad : ∀ G', LamX.ExtN G G' → ((RowBad K G' v1 ["yes"] ∨ ∃ R, RowGood K G' v1 ["yes"] R ∧ ∀ r ∈ R, r.2.1 ≠ 0) ∧ v = v1) ∨ ∃ R, RowGood K G' v1 ["yes"] R ∧ (∃ r ∈ R, r.2.1 = 0) ∧ RowBad K G' v2 (("yes" : Str) :: R.map (·.1)) ∧ v = v2)
    (sh : ∀ G', LamX.ExtN G G' → Sw K G' v y) (q : ∀ t G', LamX.ExtN G G' → LamX.Tabs Ts G' → G' t = some (.tup [.str "row", .str y]) → Q (.ref t) G') :
    LamX.tLam Ts (TWhy K CR) (fun E => tMake C (spOInitX K C CR) [] E (tCons (tVar i) (tCons (tVar j) tNil))) σ G Q := by
  refine ⟨tabs, fun G1 x1 T1 => ?_⟩
  refine ⟨v1, e1, v2, e2, fun oo dx no ndx nod => ?_⟩
  have no' : (upd G1 dx (.own oo)) oo = none := by rw [upd_ne nod.symm]; exact no
  have s12 : Same G1 (upd (upd G1 dx (.own oo)) oo (.ins C dx [])) := same_new (same_new (fun b o e => e) ndx _) no' _
  have eo : (upd (upd G1 dx (.own oo)) oo (.ins C dx [])) oo = some (.ins C dx []) := upd_same
  generalize upd (upd G1 dx (.own oo)) oo (.ins C dx []) = G2 at s12 eo
  have x2 : LamX.ExtN G G2 := x1.trans (ext_of s12)
  have T2 := T1.ext s12
  have thrown : Thrown CR G2 v (fun cls d H' => cls = .ref CR ∧ ∃ (dd : Addr) (v : V) (y : Str), d = some dd ∧ H' dd = some (.xd [("row", v)]) ∧ Sw K H' v y ∧ ∀ t, H' t = none → Q (.ref t) (upd H' t (.tup [.str "row", .str y]))) := by
    intro d H' s3 nd ed
    refine ⟨rfl, d, v, y, rfl, ed, sh H' (x2.trans (ext_of s3)), fun t nt => ?_⟩
    have s4 : Same H' (upd H' t (.tup [.str "row", .str y])) := same_new (fun b o e => e) nt _
    exact q t _ ((x2.trans (ext_of s3)).trans (ext_of s4)) ((T2.ext s3).ext s4) upd_same
  refine ⟨oo, dx, v1, v2, rfl, eo, ?_⟩
  rcases bad G2 x2 with ⟨h, e⟩ | ⟨R, h1, h2, h3, e⟩
  · exact .inl ⟨h, e ▸ thrown⟩
  · exact .inr ⟨R, h1, h2, h3, e ▸ thrown⟩
end Ad

/-! The order of terms, as plain relations: weights, places, what is above what. -/
namespace Ad
open PySem PySem.Spec PySem.Calls PyProof.Rows L2
namespace Kb
/-- sums over a list -/
def tot {α : Type} (h : α → Int) : List α → Int
  | [] => 0
  | a :: as => h a + tot h as
section
variable {α : Type} {h : α → Int}
theorem tot_app : ∀ as bs : List α, tot h (as ++ bs) = tot h as + tot h bs
  | [], bs => (Int.zero_add _).symm
  | a :: as, bs => by
    show h a + tot h (as ++ bs) = h a + tot h as + tot h bs
    rw [tot_app as bs]
    omega
theorem tot_perm {as bs : List α} (p : as.Perm bs) : tot h as = tot h bs := by
  induction p with
  | nil => rfl
  | cons a _ ih =>
    show h a + tot h _ = h a + tot h _
    rw [ih]
  | swap a b l =>
    show h b + (h a + tot h l) = h a + (h b + tot h l)
    omega
  | trans _ _ i1 i2 => exact i1.trans i2
theorem tot_pos {as : List α} (n : ∀ a ∈ as, 0 ≤ h a) : 0 ≤ tot h as := by
  induction as with
  | nil => exact Int.le_refl _
  | cons a as ih =>
    show 0 ≤ h a + tot h as
    have := n a (List.mem_cons_self ..)
    have := ih fun b hb => n b (List.mem_cons_of_mem _ hb)
    omega
end
/-- each item stands in bs at least as often -/
def Occ (as bs : List Int) : Prop := ∀ i, as.count i ≤ bs.count i
theorem Occ.refl (as : List Int) : Occ as as := fun _ => Nat.le_refl _
theorem Occ.trans {as bs cs : List Int} (a : Occ as bs) (b : Occ bs cs) : Occ as cs := fun i => Nat.le_trans (a i) (b i)
theorem Occ.rest : ∀ {as bs : List Int}, Occ as bs → ∃ r, bs.Perm (as ++ r)
  | [], bs, _ => ⟨bs, List.Perm.refl _⟩
  | a :: as, bs, o => by
    have m : a ∈ bs := by
      have := o a
      rw [List.count_cons_self] at this
      exact List.count_pos_iff.mp (by omega)
    have p := List.perm_cons_erase m
    have o' : Occ as (bs.erase a) := fun i => by
      have h1 := o i
      have h2 := p.count_eq i
      rw [List.count_cons] at h1 h2
      omega
    obtain ⟨r, q⟩ := o'.rest
    exact ⟨r, p.trans (q.cons a)⟩
section
variable (w p : Str → Int)
mutual
/-- the weight -/
def W : T → Int
  | .v _ => 1
  | .f x ts => w x + WL ts
def WL : List T → Int
  | [] => 0
  | t :: ts => W t + WL ts
end
mutual
/-- s is above t -/
def ab : T → T → Prop
  | .v _, _ => False
  | .f x ss, t => Occ t.vars (T.varsL ss) ∧ (W w t < w x + WL w ss ∨ (W w t = w x + WL w ss ∧ match t with
    | .v _ => False
    | .f y ts => p y < p x ∨ (x = y ∧ abL ss ts)))
def abL : List T → List T → Prop
  | [], _ => False
  | _ :: _, [] => False
  | a :: as, b :: bs => ab a b ∨ (a = b ∧ abL as bs)
end
end
section
variable {w p : Str → Int}
mutual
theorem W_pos (h : ∀ x, 1 ≤ w x) : ∀ t : T, 1 ≤ W w t
  | .v _ => Int.le_refl _
  | .f x ts => by
    show 1 ≤ w x + WL w ts
    have := h x
    have := WL_pos h ts
    omega
theorem WL_pos (h : ∀ x, 1 ≤ w x) : ∀ ts : List T, 0 ≤ WL w ts
  | [] => Int.le_refl _
  | t :: ts => by
    show 0 ≤ W w t + WL w ts
    have := W_pos h t
    have := WL_pos h ts
    omega
end
theorem WL_app : ∀ as bs : List T, WL w (as ++ bs) = WL w as + WL w bs
  | [], bs => (Int.zero_add _).symm
  | a :: as, bs => by
    show W w a + WL w (as ++ bs) = W w a + WL w as + WL w bs
    rw [WL_app as bs]
    omega
theorem ab_occ : ∀ {s t : T}, ab w p s t → Occ t.vars s.vars
  | .v _, _, h => h.elim
  | .f _ _, _, h => h.1
theorem ab_le : ∀ {s t : T}, ab w p s t → W w t ≤ W w s
  | .v _, _, h => h.elim
  | .f x ss, t, h => by
    show W w t ≤ w x + WL w ss
    rcases h.2 with z | z
    · omega
    · omega
mutual
theorem ab_irr : ∀ t : T, ¬ ab w p t t
  | .v _, h => h
  | .f x ts, h => by
    rcases h.2 with z | ⟨_, z⟩
    · exact absurd z (Int.lt_irrefl _)
    · rcases z with z | ⟨_, z⟩
      · exact absurd z (Int.lt_irrefl _)
      · exact abL_irr ts z
theorem abL_irr : ∀ ts : List T, ¬ abL w p ts ts
  | [], h => h
  | t :: ts, h => by
    rcases h with z | ⟨_, z⟩
    · exact ab_irr t z
    · exact abL_irr ts z
end
mutual
theorem ab_trans : ∀ (s t u : T), ab w p s t → ab w p t u → ab w p s u
  | .v _, _, _, h, _ => h.elim
  | .f x ss, .v _, _, _, k => k.elim
  | .f x ss, .f y ts, u, h, k => by
    have hl := ab_le h
    have kl := ab_le k
    refine ⟨(ab_occ k).trans (ab_occ h), ?_⟩
    rcases h.2 with h2 | ⟨h2, h3⟩
    · refine .inl ?_
      have : W w (.f y ts) < w x + WL w ss := h2
      omega
    · have h2' : W w (.f y ts) = w x + WL w ss := h2
      rcases k.2 with k2 | ⟨k2, k3⟩
      · refine .inl ?_
        have : W w u < W w (.f y ts) := k2
        omega
      · have k2' : W w u = W w (.f y ts) := k2
        refine .inr ⟨by omega, ?_⟩
        cases u with
        | v i => exact k3
        | f z us =>
          rcases h3 with h3 | ⟨h3, h4⟩
          · rcases k3 with k3 | ⟨k3, _⟩
            · exact .inl (by omega)
            · rw [← k3]
              exact .inl h3
          · rcases k3 with k3 | ⟨k3, k4⟩
            · rw [h3]
              exact .inl k3
            · exact .inr ⟨h3.trans k3, abL_trans ss ts us h4 k4⟩
theorem abL_trans : ∀ (ss ts us : List T), abL w p ss ts → abL w p ts us → abL w p ss us
  | [], _, _, h, _ => h.elim
  | _ :: _, [], _, h, _ => h.elim
  | _ :: _, _ :: _, [], _, k => k.elim
  | a :: as, b :: bs, c :: cs, h, k => by
    rcases h with h | ⟨h, h'⟩
    · rcases k with k | ⟨k, _⟩
      · exact .inl (ab_trans a b c h k)
      · exact .inl (k ▸ h)
    · rcases k with k | ⟨k, k'⟩
      · exact .inl (h ▸ k)
      · exact .inr ⟨h.trans k, abL_trans as bs cs h' k'⟩
end
theorem ab_not {s t : T} (h : ab w p s t) : ¬ ab w p t s := fun k => ab_irr _ (ab_trans _ _ _ h k)
theorem ab_ne {s t : T} (h : ab w p s t) : s ≠ t := fun e => ab_irr t (e ▸ h)
/-! substitutions -/
mutual
theorem W_fill (s : Int → T) : ∀ t : T, W w (t.fill s) = W w t + tot (fun j => W w (s j) - 1) t.vars
  | .v i => by
    show W w (s i) = 1 + (W w (s i) - 1 + 0)
    omega
  | .f x ts => by
    show w x + WL w (T.fillL s ts) = w x + WL w ts + tot _ (T.varsL ts)
    rw [WL_fill s ts]
    omega
theorem WL_fill (s : Int → T) : ∀ ts : List T, WL w (T.fillL s ts) = WL w ts + tot (fun j => W w (s j) - 1) (T.varsL ts)
  | [] => rfl
  | t :: ts => by
    show W w (t.fill s) + WL w (T.fillL s ts) = W w t + WL w ts + tot _ (t.vars ++ T.varsL ts)
    rw [tot_app, W_fill s t, WL_fill s ts]
    omega
end
mutual
theorem count_fill (s : Int → T) (i : Int) : ∀ t : T, (((t.fill s).vars.count i : Nat) : Int) = tot (fun j => (((s j).vars.count i : Nat) : Int)) t.vars
  | .v j => by
    show (((s j).vars.count i : Nat) : Int) = (((s j).vars.count i : Nat) : Int) + 0
    omega
  | .f x ts => countL_fill s i ts
theorem countL_fill (s : Int → T) (i : Int) : ∀ ts : List T, (((T.varsL (T.fillL s ts)).count i : Nat) : Int) = tot (fun j => (((s j).vars.count i : Nat) : Int)) (T.varsL ts)
  | [] => rfl
  | t :: ts => by
    show ((((t.fill s).vars ++ T.varsL (T.fillL s ts)).count i : Nat) : Int) = tot _ (t.vars ++ T.varsL ts)
    rw [tot_app, List.count_append, ← count_fill s i t, ← countL_fill s i ts]
    omega
end
theorem occ_fill (s : Int → T) {t u : T} (o : Occ t.vars u.vars) : Occ (t.fill s).vars (u.fill s).vars := fun i => by
  obtain ⟨r, q⟩ := o.rest
  have h1 := count_fill s i t
  have h2 := count_fill s i u
  rw [tot_perm q, tot_app] at h2
  have h3 : 0 ≤ tot (fun j => (((s j).vars.count i : Nat) : Int)) r := tot_pos fun _ _ => Int.natCast_nonneg _
  omega
mutual
theorem ab_fill (s : Int → T) (one : ∀ j, 1 ≤ W w (s j)) : ∀ t u : T, ab w p t u → ab w p (t.fill s) (u.fill s)
  | .v _, _, h => h.elim
  | .f x ts, u, h => by
    have o := ab_occ h
    obtain ⟨r, q⟩ := o.rest
    have d : 0 ≤ tot (fun j => W w (s j) - 1) r := tot_pos fun j _ => by have := one j; omega
    have e1 := W_fill (w := w) s u
    have e2 := W_fill (w := w) s (.f x ts)
    rw [tot_perm q, tot_app] at e2
    refine ⟨occ_fill s o, ?_⟩
    show W w (u.fill s) < W w ((T.f x ts).fill s) ∨ (W w (u.fill s) = W w ((T.f x ts).fill s) ∧ _)
    rcases h.2 with h2 | ⟨h2, h3⟩
    · have h2' : W w u < W w (.f x ts) := h2
      exact .inl (by omega)
    · have h2' : W w u = W w (.f x ts) := h2
      by_cases z : tot (fun j => W w (s j) - 1) r = 0
      · refine .inr ⟨by omega, ?_⟩
        cases u with
        | v i => exact h3.elim
        | f y us =>
          rcases h3 with h3 | ⟨h3, h4⟩
          · exact .inl h3
          · exact .inr ⟨h3, abL_fill s one ts us h4⟩
      · exact .inl (by omega)
theorem abL_fill (s : Int → T) (one : ∀ j, 1 ≤ W w (s j)) : ∀ ts us : List T, abL w p ts us → abL w p (T.fillL s ts) (T.fillL s us)
  | [], _, h => h.elim
  | _ :: _, [], h => h.elim
  | a :: as, b :: bs, h => by
    rcases h with h | ⟨h, h'⟩
    · exact .inl (ab_fill s one a b h)
    · exact .inr ⟨congrArg (T.fill s) h, abL_fill s one as bs h'⟩
end
/-! what stands around -/
theorem varsL_app : ∀ as bs : List T, T.varsL (as ++ bs) = T.varsL as ++ T.varsL bs
  | [], bs => rfl
  | a :: as, bs => by
    show a.vars ++ T.varsL (as ++ bs) = a.vars ++ T.varsL as ++ T.varsL bs
    rw [varsL_app as bs, List.append_assoc]
theorem abL_at {a b : T} (h : ab w p a b) (r : List T) : ∀ l : List T, abL w p (l ++ a :: r) (l ++ b :: r)
  | [] => .inl h
  | _ :: l => .inr ⟨rfl, abL_at h r l⟩
theorem ab_at {a b : T} (h : ab w p a b) (x : Str) (l r : List T) : ab w p (.f x (l ++ a :: r)) (.f x (l ++ b :: r)) := by
  refine ⟨fun i => ?_, ?_⟩
  · show (T.varsL (l ++ b :: r)).count i ≤ (T.varsL (l ++ a :: r)).count i
    rw [varsL_app, varsL_app]
    show (T.varsL l ++ (b.vars ++ T.varsL r)).count i ≤ (T.varsL l ++ (a.vars ++ T.varsL r)).count i
    rw [List.count_append, List.count_append, List.count_append, List.count_append]
    have := ab_occ h i
    omega
  · have e1 : W w (.f x (l ++ b :: r)) = w x + (WL w l + (W w b + WL w r)) := by
      show w x + WL w (l ++ b :: r) = _
      rw [WL_app]
      rfl
    have e2 : w x + WL w (l ++ a :: r) = w x + (WL w l + (W w a + WL w r)) := by
      rw [WL_app]
      rfl
    have := ab_le h
    by_cases z : W w b = W w a
    · exact .inr ⟨by omega, .inr ⟨rfl, abL_at h r l⟩⟩
    · exact .inl (by omega)
/-! parts -/
theorem WL_mem (h : ∀ x, 1 ≤ w x) {t : T} {ts : List T} (m : t ∈ ts) : W w t ≤ WL w ts := by
  induction ts with
  | nil => cases m
  | cons u us ih =>
    show W w t ≤ W w u + WL w us
    have := W_pos h u
    have := WL_pos h us
    rcases List.mem_cons.mp m with e | e
    · rw [e]
      omega
    · have := ih e
      omega
theorem occ_mem {t : T} {ts : List T} (m : t ∈ ts) : Occ t.vars (T.varsL ts) := fun i => by
  induction ts with
  | nil => cases m
  | cons u us ih =>
    show t.vars.count i ≤ (u.vars ++ T.varsL us).count i
    rw [List.count_append]
    rcases List.mem_cons.mp m with e | e
    · rw [e]
      omega
    · have := ih e
      omega
mutual
theorem part_le (h : ∀ x, 1 ≤ w x) : ∀ (t u : T), u ∈ t.parts → Occ u.vars t.vars ∧ W w u ≤ W w t
  | .v i, u, m => by
    cases List.mem_singleton.mp m
    exact ⟨Occ.refl _, Int.le_refl _⟩
  | .f x ts, u, m => by
    rcases List.mem_cons.mp m with e | e
    · rw [e]
      exact ⟨Occ.refl _, Int.le_refl _⟩
    · have k := partL_le h ts u e
      refine ⟨k.1, ?_⟩
      show W w u ≤ w x + WL w ts
      have := h x
      have := k.2
      omega
theorem partL_le (h : ∀ x, 1 ≤ w x) : ∀ (ts : List T) (u : T), u ∈ T.partsL ts → Occ u.vars (T.varsL ts) ∧ W w u ≤ WL w ts
  | [], u, m => by cases m
  | t :: ts, u, m => by
    have h0 := W_pos h t
    have h1 := WL_pos h ts
    rcases List.mem_append.mp m with e | e
    · have k := part_le h t u e
      refine ⟨fun i => ?_, ?_⟩
      · show u.vars.count i ≤ (t.vars ++ T.varsL ts).count i
        rw [List.count_append]
        have := k.1 i
        omega
      · show W w u ≤ W w t + WL w ts
        have := k.2
        omega
    · have k := partL_le h ts u e
      refine ⟨fun i => ?_, ?_⟩
      · show u.vars.count i ≤ (t.vars ++ T.varsL ts).count i
        rw [List.count_append]
        have := k.1 i
        omega
      · show W w u ≤ W w t + WL w ts
        have := k.2
        omega
end
/-- a term is above all within it -/
theorem ab_part (h : ∀ x, 1 ≤ w x) {x : Str} {ts : List T} {u : T} (m : u ∈ T.partsL ts) : ab w p (.f x ts) u := by
  have k := partL_le h ts u m
  refine ⟨k.1, .inl ?_⟩
  have := h x
  have := k.2
  omega
end
end Kb
end Ad

/-! The order of terms: names of rows, ground terms, the word that is told. -/
namespace Ad
open PySem PySem.Spec PySem.Calls PyProof.Rows L2
namespace Kb
def wOf (rk : List Row) (x : Str) : Int := ((rk.find? fun r => r.1 == x).map (·.2.2)).getD 1
def pOf (rk : List Row) (x : Str) : Int := (rk.findIdx (fun r => r.1 == x) : Nat)
theorem find_of {rk : List Row} (nd : (rk.map (·.1)).Nodup) {r : Row} (h : r ∈ rk) : rk.find? (fun q => q.1 == r.1) = some r := by
  induction rk with
  | nil => cases h
  | cons q rs ih =>
    obtain ⟨n1, n2⟩ := List.nodup_cons.mp nd
    rcases List.mem_cons.mp h with e | e
    · rw [e]
      exact List.find?_cons_of_pos (by simp)
    · rw [List.find?_cons_of_neg (by
        intro z
        have z' : q.1 = r.1 := beq_iff_eq.mp z
        exact n1 (by show q.1 ∈ _; rw [z']; exact List.mem_map.mpr ⟨r, e, rfl⟩))]
      exact ih n2 e
theorem wOf_mem {rk : List Row} (nd : (rk.map (·.1)).Nodup) {r : Row} (h : r ∈ rk) : wOf rk r.1 = r.2.2 := by
  unfold wOf
  rw [find_of nd h]
  rfl
theorem pOf_at : ∀ {rk : List Row} (nd : (rk.map (·.1)).Nodup) {i : Nat} {r : Row} (h : rk[i]? = some r), pOf rk r.1 = (i : Int)
  | [], _, i, r, h => by cases h
  | q :: rs, nd, i, r, h => by
    obtain ⟨n1, n2⟩ := List.nodup_cons.mp nd
    unfold pOf
    rw [List.findIdx_cons]
    cases i with
    | zero =>
      cases h
      simp
    | succ i =>
      have h' : rs[i]? = some r := h
      have z : (q.1 == r.1) = false := by
        rw [beq_eq_false_iff_ne]
        intro z
        exact n1 (by show q.1 ∈ _; rw [z]; exact List.mem_map.mpr ⟨r, List.mem_of_getElem? h', rfl⟩)
      rw [z]
      have := pOf_at n2 h'
      unfold pOf at this
      show ((_ + 1 : Nat) : Int) = _
      omega
theorem wOf_one {rk : List Row} (h : ∀ r ∈ rk, 1 ≤ r.2.2) (x : Str) : 1 ≤ wOf rk x := by
  unfold wOf
  cases e : rk.find? fun r => r.1 == x with
  | none => exact Int.le_refl _
  | some r => exact h r (List.mem_of_find?_eq_some e)
theorem pOf_inj {rk : List Row} (nd : (rk.map (·.1)).Nodup) {r q : Row} (hr : r ∈ rk) (hq : q ∈ rk) (e : pOf rk r.1 = pOf rk q.1) : r = q := by
  obtain ⟨i, hi, rfl⟩ := List.mem_iff_getElem.mp hr
  obtain ⟨j, hj, rfl⟩ := List.mem_iff_getElem.mp hq
  rw [pOf_at nd (List.getElem?_eq_getElem hi), pOf_at nd (List.getElem?_eq_getElem hj)] at e
  have : i = j := by omega
  subst this
  rfl
section
variable {rk : List Row} (nd : (rk.map (·.1)).Nodup)
include nd
mutual
theorem ab_total : ∀ (s t : T), Wf rk s → Wf rk t → s.vars = [] → t.vars = [] → s = t ∨ ab (wOf rk) (pOf rk) s t ∨ ab (wOf rk) (pOf rk) t s
  | .v _, _, _, _, g, _ => by cases g
  | .f _ _, .v _, _, _, _, g => by cases g
  | .f x ss, .f y ts, hs, ht, g1, g2 => by
    have o1 : Occ (T.f y ts).vars (T.varsL ss) := fun i => by rw [g2]; exact Nat.zero_le _
    have o2 : Occ (T.f x ss).vars (T.varsL ts) := fun i => by rw [g1]; exact Nat.zero_le _
    have e1 : W (wOf rk) (.f x ss) = wOf rk x + WL (wOf rk) ss := rfl
    have e2 : W (wOf rk) (.f y ts) = wOf rk y + WL (wOf rk) ts := rfl
    rcases Int.lt_trichotomy (W (wOf rk) (.f x ss)) (W (wOf rk) (.f y ts)) with h | h | h
    · exact .inr (.inr ⟨o2, .inl (by omega)⟩)
    · obtain ⟨⟨r, hr, rfl, ar⟩, hs'⟩ := hs
      obtain ⟨⟨q, hq, rfl, aq⟩, ht'⟩ := ht
      rcases Int.lt_trichotomy (pOf rk r.1) (pOf rk q.1) with k | k | k
      · exact .inr (.inr ⟨o2, .inr ⟨by omega, .inl k⟩⟩)
      · have e := pOf_inj nd hr hq k
        subst e
        have l : ss.length = ts.length := by omega
        rcases abL_total ss ts hs' ht' g1 g2 l with z | z | z
        · rw [z]
          exact .inl rfl
        · exact .inr (.inl ⟨o1, .inr ⟨by omega, .inr ⟨rfl, z⟩⟩⟩)
        · exact .inr (.inr ⟨o2, .inr ⟨by omega, .inr ⟨rfl, z⟩⟩⟩)
      · exact .inr (.inl ⟨o1, .inr ⟨by omega, .inl k⟩⟩)
    · exact .inr (.inl ⟨o1, .inl (by omega)⟩)
theorem abL_total : ∀ (ss ts : List T), WfL rk ss → WfL rk ts → T.varsL ss = [] → T.varsL ts = [] → ss.length = ts.length → ss = ts ∨ abL (wOf rk) (pOf rk) ss ts ∨ abL (wOf rk) (pOf rk) ts ss
  | [], [], _, _, _, _, _ => .inl rfl
  | [], _ :: _, _, _, _, _, l => by cases l
  | _ :: _, [], _, _, _, _, l => by cases l
  | a :: as, b :: bs, hs, ht, g1, g2, l => by
    obtain ⟨g1a, g1b⟩ := List.append_eq_nil_iff.mp (show a.vars ++ T.varsL as = [] from g1)
    obtain ⟨g2a, g2b⟩ := List.append_eq_nil_iff.mp (show b.vars ++ T.varsL bs = [] from g2)
    rcases ab_total a b hs.1 ht.1 g1a g2a with z | z | z
    · subst z
      rcases abL_total as bs hs.2 ht.2 g1b g2b (Nat.succ.inj l) with y | y | y
      · rw [y]
        exact .inl rfl
      · exact .inr (.inl (.inr ⟨rfl, y⟩))
      · exact .inr (.inr (.inr ⟨rfl, y⟩))
    · exact .inr (.inl (.inl z))
    · exact .inr (.inr (.inl z))
end
end
section
open Classical
variable (w p : Str → Int)
/-- what is told -/
noncomputable def word (s t : T) : V := if s = t then .str "alike" else if ab w p s t then .str "above" else if ab w p t s then .str "below" else .non
/-- the way by names, for unlike terms of one weight -/
noncomputable def bnL : List T → List T → V
  | [], _ => .non
  | _ :: _, [] => .non
  | a :: as, b :: bs => if a = b then bnL as bs else word w p a b
noncomputable def bn : T → T → V
  | .v _, _ => .non
  | .f _ _, .v _ => .non
  | .f x ss, .f y ts => if x = y then bnL w p ss ts else if p y < p x then .str "above" else .str "below"
end
section
open Classical
variable {w p : Str → Int}
theorem word_above {s t : T} (h : ab w p s t) : word w p s t = .str "above" := by
  unfold word
  rw [if_neg (ab_ne h), if_pos h]
theorem word_below {s t : T} (h : ab w p t s) : word w p s t = .str "below" := by
  unfold word
  rw [if_neg (Ne.symm (ab_ne h)), if_neg (ab_not h), if_pos h]
theorem word_none {s t : T} (n : s ≠ t) (h1 : ¬ ab w p s t) (h2 : ¬ ab w p t s) : word w p s t = .non := by
  unfold word
  rw [if_neg n, if_neg h1, if_neg h2]
theorem word_refl (s : T) : word w p s s = .str "alike" := if_pos rfl
theorem nAB : ¬ ((V.str "above") = V.str "below") := fun z => absurd (V.str.inj z) (by decide +kernel)
theorem nAL : ¬ ((V.str "alike") = V.str "above") := fun z => absurd (V.str.inj z) (by decide +kernel)
theorem nBL : ¬ ((V.str "alike") = V.str "below") := fun z => absurd (V.str.inj z) (by decide +kernel)
theorem word_is_above {s t : T} (h : word w p s t = .str "above") : ab w p s t := by
  unfold word at h
  split at h
  · exact absurd h nAL
  · split at h
    · assumption
    · split at h
      · exact absurd h.symm nAB
      · cases h
theorem word_is_below {s t : T} (h : word w p s t = .str "below") : ab w p t s := by
  unfold word at h
  split at h
  · exact absurd h nBL
  · split at h
    · exact absurd h nAB
    · split at h
      · assumption
      · cases h
theorem bnL_above : ∀ {ss ts : List T}, bnL w p ss ts = .str "above" ↔ abL w p ss ts
  | [], ts => ⟨fun h => (by cases ts <;> cases h), fun h => False.elim h⟩
  | _ :: _, [] => ⟨fun h => (by cases h), fun h => False.elim h⟩
  | a :: as, b :: bs => by
    show (if a = b then bnL w p as bs else word w p a b) = _ ↔ (ab w p a b ∨ (a = b ∧ abL w p as bs))
    by_cases e : a = b
    · rw [if_pos e, bnL_above]
      refine ⟨fun h => .inr ⟨e, h⟩, fun h => ?_⟩
      rcases h with h | h
      · exact absurd e (ab_ne h)
      · exact h.2
    · rw [if_neg e]
      refine ⟨fun h => .inl (word_is_above h), fun h => ?_⟩
      rcases h with h | h
      · exact word_above h
      · exact absurd h.1 e
theorem bnL_below : ∀ {ss ts : List T}, bnL w p ss ts = .str "below" ↔ abL w p ts ss
  | [], ts => ⟨fun h => (by cases ts <;> cases h), fun h => (by cases ts <;> exact False.elim h)⟩
  | _ :: _, [] => ⟨fun h => (by cases h), fun h => False.elim h⟩
  | a :: as, b :: bs => by
    show (if a = b then bnL w p as bs else word w p a b) = _ ↔ (ab w p b a ∨ (b = a ∧ abL w p bs as))
    by_cases e : a = b
    · rw [if_pos e, bnL_below]
      refine ⟨fun h => .inr ⟨e.symm, h⟩, fun h => ?_⟩
      rcases h with h | h
      · exact absurd e.symm (ab_ne h)
      · exact h.2
    · rw [if_neg e]
      refine ⟨fun h => .inl (word_is_below h), fun h => ?_⟩
      rcases h with h | h
      · exact word_below h
      · exact absurd h.1.symm e
/-- unlike terms of one weight -/
theorem bn_above {s t : T} (e : W w s = W w t) (inj : ∀ x y ss ts, s = .f x ss → t = .f y ts → x ≠ y → p x ≠ p y) : (bn w p s t = .str "above" ∧ Occ t.vars s.vars) ↔ ab w p s t := by
  cases s with
  | v i => exact ⟨fun h => (by cases h.1), fun h => False.elim h⟩
  | f x ss =>
    cases t with
    | v i =>
      refine ⟨fun h => (by cases h.1), fun h => ?_⟩
      rcases h.2 with z | ⟨_, z⟩
      · have : W w (.v i) < W w (.f x ss) := z
        omega
      · exact False.elim z
    | f y ts =>
      show ((if x = y then bnL w p ss ts else if p y < p x then V.str "above" else V.str "below") = _ ∧ _) ↔ (Occ (T.f y ts).vars (T.varsL ss) ∧ (W w (.f y ts) < W w (.f x ss) ∨ (W w (.f y ts) = W w (.f x ss) ∧ (p y < p x ∨ (x = y ∧ abL w p ss ts)))))
      by_cases xy : x = y
      · subst xy
        rw [if_pos rfl, bnL_above]
        refine ⟨fun h => ⟨h.2, .inr ⟨e.symm, .inr ⟨rfl, h.1⟩⟩⟩, fun h => ⟨?_, h.1⟩⟩
        rcases h.2 with z | ⟨_, z⟩
        · omega
        · rcases z with z | z
          · omega
          · exact z.2
      · rw [if_neg xy]
        by_cases k : p y < p x
        · rw [if_pos k]
          exact ⟨fun h => ⟨h.2, .inr ⟨e.symm, .inl k⟩⟩, fun h => ⟨rfl, h.1⟩⟩
        · rw [if_neg k]
          refine ⟨fun h => absurd h.1.symm nAB, fun h => ?_⟩
          rcases h.2 with z | ⟨_, z⟩
          · omega
          · rcases z with z | z
            · exact absurd z k
            · exact absurd z.1 xy
theorem bn_below {s t : T} (e : W w s = W w t) (inj : ∀ x y ss ts, s = .f x ss → t = .f y ts → x ≠ y → p x ≠ p y) : (bn w p s t = .str "below" ∧ Occ s.vars t.vars) ↔ ab w p t s := by
  cases t with
  | v i => exact ⟨fun h => (by cases s <;> cases h.1), fun h => False.elim h⟩
  | f y ts =>
    cases s with
    | v i =>
      refine ⟨fun h => (by cases h.1), fun h => ?_⟩
      rcases h.2 with z | ⟨_, z⟩
      · have : W w (.v i) < W w (.f y ts) := z
        omega
      · exact False.elim z
    | f x ss =>
      show ((if x = y then bnL w p ss ts else if p y < p x then V.str "above" else V.str "below") = _ ∧ _) ↔ (Occ (T.f x ss).vars (T.varsL ts) ∧ (W w (.f x ss) < W w (.f y ts) ∨ (W w (.f x ss) = W w (.f y ts) ∧ (p x < p y ∨ (y = x ∧ abL w p ts ss)))))
      by_cases xy : x = y
      · subst xy
        rw [if_pos rfl, bnL_below]
        refine ⟨fun h => ⟨h.2, .inr ⟨e, .inr ⟨rfl, h.1⟩⟩⟩, fun h => ⟨?_, h.1⟩⟩
        rcases h.2 with z | ⟨_, z⟩
        · omega
        · rcases z with z | z
          · omega
          · exact z.2
      · rw [if_neg xy]
        have := inj x y ss ts rfl rfl xy
        by_cases k : p y < p x
        · rw [if_pos k]
          refine ⟨fun h => absurd h.1 nAB, fun h => ?_⟩
          rcases h.2 with z | ⟨_, z⟩
          · omega
          · rcases z with z | z
            · omega
            · exact absurd z.1.symm xy
        · rw [if_neg k]
          exact ⟨fun h => ⟨h.2, .inr ⟨e, .inl (by omega)⟩⟩, fun h => ⟨rfl, h.1⟩⟩
end
end Kb
end Ad

/-! weights summed over the parts; how often variables stand, as a dict -/
namespace Ad
open PySem PySem.Spec PySem.Calls PyProof.Rows L2
namespace Kb
section
variable (w : Str → Int)
def pw : T → Int
  | .v _ => 1
  | .f x _ => w x
mutual
theorem tot_parts : ∀ t : T, tot (pw w) t.parts = W w t
  | .v _ => rfl
  | .f x ts => by
    show w x + tot (pw w) (T.partsL ts) = w x + WL w ts
    rw [tot_partsL ts]
theorem tot_partsL : ∀ ts : List T, tot (pw w) (T.partsL ts) = WL w ts
  | [] => rfl
  | t :: ts => by
    show tot (pw w) (t.parts ++ T.partsL ts) = W w t + WL w ts
    rw [tot_app, tot_parts t, tot_partsL ts]
end
end
mutual
theorem wf_part {rk : List Row} : ∀ (t : T), Wf rk t → ∀ u ∈ t.parts, Wf rk u
  | .v _, _, u, m => by
    cases List.mem_singleton.mp m
    exact True.intro
  | .f x ts, h, u, m => by
    rcases List.mem_cons.mp m with e | e
    · rw [e]
      exact h
    · exact wfL_part ts h.2 u e
theorem wfL_part {rk : List Row} : ∀ (ts : List T), WfL rk ts → ∀ u ∈ T.partsL ts, Wf rk u
  | [], _, u, m => by cases m
  | t :: ts, h, u, m => by
    rcases List.mem_append.mp m with e | e
    · exact wf_part t h.1 u e
    · exact wfL_part ts h.2 u e
end
/-- how often each variable of a list stands there -/
structure CntD (kvs : List (L2.Key × V)) (l : List Int) : Prop where
  val : ∀ i, valV kvs (.inl i) = if l.count i = 0 then none else some (.int (l.count i : Nat))
  key : ∀ k v, (k, v) ∈ kvs → ∃ i, k = .inl i ∧ i ∈ l
  len : kvs.length ≤ l.length
theorem CntD.nil : CntD [] [] := ⟨fun _ => rfl, fun _ _ m => (by cases m), Nat.le_refl _⟩
theorem CntD.got {kvs : List (L2.Key × V)} {l : List Int} (h : CntD kvs l) (i : Int) : (valV kvs (.inl i)).getD (.int 0) = .int (l.count i : Nat) := by
  rw [h.val i]
  by_cases z : l.count i = 0
  · rw [if_pos z, z]
    rfl
  · rw [if_neg z]
    rfl
theorem put_mem {kvs : List (L2.Key × V)} {k : L2.Key} {v : V} : ∀ q ∈ putK kvs k v, q.1 = k ∨ q ∈ kvs := by
  intro q hq
  unfold putK at hq
  split at hq
  · obtain ⟨r, hr, e⟩ := List.mem_map.mp hq
    by_cases z : r.1 = k
    · rw [if_pos z] at e
      left
      rw [← e]
      exact z
    · rw [if_neg z] at e
      right
      rw [← e]
      exact hr
  · rcases List.mem_append.mp hq with e | e
    · exact .inr e
    · left
      rw [List.mem_singleton.mp e]
theorem CntD.put {kvs : List (L2.Key × V)} {l : List Int} (h : CntD kvs l) (i : Int) : CntD (putK kvs (.inl i) (.int ((l.count i : Nat) + 1))) (l ++ [i]) := by
  refine ⟨fun j => ?_, fun k v m => ?_, ?_⟩
  · rw [valV_put, List.count_append, List.count_singleton]
    by_cases z : j = i
    · subst z
      rw [if_pos rfl, if_neg (by simp)]
      simp
    · have z' : (i == j) = false := beq_eq_false_iff_ne.mpr (Ne.symm z)
      rw [if_neg (fun e => z (Sum.inl.inj e)), h.val j]
      simp [z']
  · rcases put_mem _ m with e | e
    · exact ⟨i, e, List.mem_append_right _ (List.mem_singleton_self _)⟩
    · obtain ⟨j, e1, e2⟩ := h.key k v e
      exact ⟨j, e1, List.mem_append_left _ e2⟩
  · have := length_putK kvs (.inl i) (.int ((l.count i : Nat) + 1))
    have := h.len
    rw [List.length_append, List.length_singleton]
    omega
end Kb
end Ad

/-! what compare needs of the relations -/
namespace Ad
open PySem PySem.Spec PySem.Calls PyProof.Rows L2
namespace Kb
theorem wfL_mem {rk : List Row} {t : T} : ∀ {ts : List T}, WfL rk ts → t ∈ ts → Wf rk t
  | [], _, m => by cases m
  | u :: us, h, m => by
    rcases List.mem_cons.mp m with e | e
    · rw [e]
      exact h.1
    · exact wfL_mem h.2 e
section
open Classical
variable {w p : Str → Int}
theorem ab_gt (one : ∀ x, 1 ≤ w x) {s t : T} (h : W w t < W w s) : Occ t.vars s.vars ↔ ab w p s t := by
  refine ⟨fun o => ?_, ab_occ⟩
  cases s with
  | v i =>
    have := W_pos one t
    have e : W w (.v i) = 1 := rfl
    omega
  | f x ss => exact ⟨o, .inl h⟩
theorem ab_lt {s t : T} (h : W w s < W w t) : ¬ ab w p s t := fun k => by
  have := ab_le k
  omega
theorem bnL_at : ∀ {ss ts : List T} {i : Nat} {a b : T}, ss.take i = ts.take i → ss[i]? = some a → ts[i]? = some b → a ≠ b → bnL w p ss ts = word w p a b
  | [], _, i, a, b, _, h, _, _ => by cases h
  | _ :: _, [], i, a, b, _, _, h, _ => by cases h
  | x :: ss, y :: ts, 0, a, b, _, ha, hb, n => by
    cases ha
    cases hb
    exact if_neg n
  | x :: ss, y :: ts, i + 1, a, b, e, ha, hb, n => by
    obtain ⟨e1, e2⟩ := List.cons.inj (show x :: ss.take i = y :: ts.take i from e)
    exact (if_pos e1).trans (bnL_at e2 ha hb n)
theorem word_kind (s t : T) : word w p s t = .non ∨ ∃ z, word w p s t = .str z := by
  unfold word
  split
  · exact .inr ⟨_, rfl⟩
  · split
    · exact .inr ⟨_, rfl⟩
    · split
      · exact .inr ⟨_, rfl⟩
      · exact .inl rfl
theorem bnL_kind : ∀ ss ts : List T, bnL w p ss ts = .non ∨ ∃ z, bnL w p ss ts = .str z
  | [], _ => .inl rfl
  | _ :: _, [] => .inl rfl
  | a :: as, b :: bs => by
    show (if a = b then bnL w p as bs else word w p a b) = _ ∨ ∃ z, (if a = b then bnL w p as bs else word w p a b) = _
    split
    · exact bnL_kind as bs
    · exact word_kind a b
theorem bn_kind : ∀ s t : T, bn w p s t = .non ∨ ∃ z, bn w p s t = .str z
  | .v _, _ => .inl rfl
  | .f _ _, .v _ => .inl rfl
  | .f x ss, .f y ts => by
    show (if x = y then bnL w p ss ts else if p y < p x then V.str "above" else V.str "below") = _ ∨ ∃ z, (if x = y then bnL w p ss ts else if p y < p x then V.str "above" else V.str "below") = _
    split
    · exact bnL_kind ss ts
    · split
      · exact .inr ⟨_, rfl⟩
      · exact .inr ⟨_, rfl⟩
theorem abL_pre : ∀ {ss ts : List T} {i : Nat} {a b : T}, ss.take i = ts.take i → ss[i]? = some a → ts[i]? = some b → a ≠ b → (abL w p ss ts ↔ ab w p a b)
  | [], _, i, a, b, _, h, _, _ => by cases h
  | _ :: _, [], i, a, b, _, _, h, _ => by cases h
  | x :: ss, y :: ts, 0, a, b, _, ha, hb, n => by
    cases ha
    cases hb
    exact ⟨fun h => h.elim id fun z => absurd z.1 n, .inl⟩
  | x :: ss, y :: ts, i + 1, a, b, e, ha, hb, n => by
    obtain ⟨e1, e2⟩ := List.cons.inj (show x :: ss.take i = y :: ts.take i from e)
    have ih := abL_pre e2 ha hb n
    refine ⟨fun h => ?_, fun h => .inr ⟨e1, ih.mpr h⟩⟩
    rcases h with h | h
    · exact absurd e1 (ab_ne h)
    · exact ih.mp h.2
theorem ab_eq {x y : Str} {ss ts : List T} (e : W w (.f x ss) = W w (.f y ts)) (o : Occ (T.f y ts).vars (T.f x ss).vars) : ab w p (.f x ss) (.f y ts) ↔ (p y < p x ∨ (x = y ∧ abL w p ss ts)) := by
  have e' : W w (.f y ts) = w x + WL w ss := e.symm
  refine ⟨fun h => ?_, fun h => ⟨o, .inr ⟨e', h⟩⟩⟩
  rcases h.2 with z | z
  · omega
  · exact z.2
theorem bnL_same : ∀ ss : List T, bnL w p ss ss = .non
  | [] => rfl
  | x :: ss => (if_pos rfl).trans (bnL_same ss)
end
theorem inj_of {rk : List Row} (nd : (rk.map (·.1)).Nodup) {s t : T} (hs : Wf rk s) (ht : Wf rk t) : ∀ x y ss ts, s = .f x ss → t = .f y ts → x ≠ y → pOf rk x ≠ pOf rk y := by
  rintro x y ss ts rfl rfl n e
  obtain ⟨⟨r, hr, rfl, _⟩, _⟩ := hs
  obtain ⟨⟨q, hq, rfl, _⟩, _⟩ := ht
  exact n (congrArg (·.1) (pOf_inj nd hr hq e))
theorem same_len {rk : List Row} (nd : (rk.map (·.1)).Nodup) {x : Str} {ss ts : List T} (hs : Wf rk (.f x ss)) (ht : Wf rk (.f x ts)) : ss.length = ts.length := by
  obtain ⟨⟨r, hr, e, a⟩, _⟩ := hs
  obtain ⟨⟨q, hq, e', b⟩, _⟩ := ht
  have h1 := find_of nd hr
  have h2 := find_of nd hq
  rw [e] at h1
  rw [e', h1] at h2
  cases h2
  omega
end Kb
end Ad

/-! The way by weights and names, and the first unlike arguments. -/
namespace Ad
open PySem PySem.Spec PySem.Calls PyProof.Rows L2
namespace Kb
section
open Classical
variable (w p : Str → Int)
noncomputable def hd (s t : T) : V := if W w s ≠ W w t then (if W w t < W w s then .str "above" else .str "below") else match s, t with
  | .f x _, .f y _ => if x = y then .non else if p y < p x then .str "above" else .str "below"
  | _, _ => .non
variable {w p}
theorem hd_ne {s t : T} (h : W w s ≠ W w t) : hd w p s t = if W w t < W w s then .str "above" else .str "below" := if_pos h
theorem hd_v1 {i : Int} {t : T} (h : W w (.v i) = W w t) : hd w p (.v i) t = .non := if_neg (not_not_intro h)
theorem hd_v2 {i : Int} {s : T} (h : W w s = W w (.v i)) : hd w p s (.v i) = .non := (if_neg (not_not_intro h)).trans (by cases s <;> rfl)
theorem hd_same {x : Str} {ss ts : List T} (h : W w (.f x ss) = W w (.f x ts)) : hd w p (.f x ss) (.f x ts) = .non := (if_neg (not_not_intro h)).trans (if_pos rfl)
theorem hd_names {x y : Str} {ss ts : List T} (h : W w (.f x ss) = W w (.f y ts)) (n : x ≠ y) : hd w p (.f x ss) (.f y ts) = if p y < p x then .str "above" else .str "below" := (if_neg (not_not_intro h)).trans (if_neg n)
theorem hd_bn {s t : T} (h : W w s = W w t) (n : hd w p s t ≠ .non) : hd w p s t = bn w p s t := by
  cases s with
  | v i => exact absurd (hd_v1 h) n
  | f x ss =>
    cases t with
    | v i => exact absurd (hd_v2 h) n
    | f y ts =>
      by_cases e : x = y
      · subst e
        exact absurd (hd_same h) n
      · rw [hd_names h e]
        exact (if_neg e).symm
theorem hd_kind (s t : T) : hd w p s t = .str "above" ∨ hd w p s t = .str "below" ∨ hd w p s t = .non := by
  have two : ∀ (c : Prop) [Decidable c], (if c then V.str "above" else V.str "below") = .str "above" ∨ (if c then V.str "above" else V.str "below") = .str "below" := fun c _ => by
    by_cases h : c
    · exact .inl (if_pos h)
    · exact .inr (if_neg h)
  by_cases h : W w s = W w t
  · cases s with
    | v i => exact .inr (.inr (hd_v1 h))
    | f x ss =>
      cases t with
      | v i => exact .inr (.inr (hd_v2 h))
      | f y ts =>
        by_cases e : x = y
        · subst e
          exact .inr (.inr (hd_same h))
        · rw [hd_names h e]
          rcases two (p y < p x) with z | z
          · exact .inl z
          · exact .inr (.inl z)
  · rw [hd_ne h]
    rcases two (W w t < W w s) with z | z
    · exact .inl z
    · exact .inr (.inl z)
theorem nAN : (V.str "above") ≠ .non := fun z => by cases z
theorem nBN : (V.str "below") ≠ .non := fun z => by cases z
theorem hd_above (one : ∀ x, 1 ≤ w x) {s t : T} (inj : ∀ x y ss ts, s = .f x ss → t = .f y ts → x ≠ y → p x ≠ p y) (h : hd w p s t = .str "above") : (ab w p s t ↔ Occ t.vars s.vars) ∧ ¬ ab w p t s := by
  by_cases e : W w s = W w t
  · have b : bn w p s t = .str "above" := by rw [← hd_bn e (by rw [h]; exact nAN), h]
    refine ⟨?_, fun k => ?_⟩
    · rw [← bn_above e inj]
      exact ⟨fun z => z.2, fun z => ⟨b, z⟩⟩
    · have := (bn_below e inj).mpr k
      rw [b] at this
      exact nAB this.1
  · rw [hd_ne e] at h
    by_cases lt : W w t < W w s
    · exact ⟨(ab_gt one lt).symm, ab_lt lt⟩
    · rw [if_neg lt] at h
      exact absurd h.symm nAB
theorem hd_below (one : ∀ x, 1 ≤ w x) {s t : T} (inj : ∀ x y ss ts, s = .f x ss → t = .f y ts → x ≠ y → p x ≠ p y) (h : hd w p s t = .str "below") : (ab w p t s ↔ Occ s.vars t.vars) ∧ ¬ ab w p s t := by
  by_cases e : W w s = W w t
  · have b : bn w p s t = .str "below" := by rw [← hd_bn e (by rw [h]; exact nBN), h]
    refine ⟨?_, fun k => ?_⟩
    · rw [← bn_below e inj]
      exact ⟨fun z => z.2, fun z => ⟨b, z⟩⟩
    · have := (bn_above e inj).mpr k
      rw [b] at this
      exact nAB this.1.symm
  · rw [hd_ne e] at h
    by_cases lt : W w t < W w s
    · rw [if_pos lt] at h
      exact absurd h nAB
    · have lt' : W w s < W w t := by omega
      exact ⟨(ab_gt one lt').symm, ab_lt lt'⟩
theorem hd_non {s t : T} (h : hd w p s t = .non) : W w s = W w t := by
  by_cases e : W w s = W w t
  · exact e
  · rw [hd_ne e] at h
    by_cases lt : W w t < W w s
    · rw [if_pos lt] at h
      exact absurd h nAN
    · rw [if_neg lt] at h
      exact absurd h nBN
theorem hd_non_name {x y : Str} {ss ts : List T} (h : hd w p (.f x ss) (.f y ts) = .non) : x = y := by
  by_cases e : x = y
  · exact e
  · rw [hd_names (hd_non h) e] at h
    by_cases lt : p y < p x
    · rw [if_pos lt] at h
      exact absurd h nAN
    · rw [if_neg lt] at h
      exact absurd h nBN
/-- a variable of the same weight -/
theorem ab_v2 {i : Int} {s : T} (h : W w s = W w (.v i)) : ¬ ab w p s (.v i) := by
  cases s with
  | v j => exact fun z => z
  | f x ss =>
    intro k
    rcases k.2 with z | z
    · have h' : w x + WL w ss = W w (.v i) := h
      omega
    · exact z.2
theorem ab_v1 {i : Int} {t : T} : ¬ ab w p (.v i) t := fun z => z
theorem ab_down {x : Str} {ss ts : List T} {i : Nat} {a b : T} (h : W w (.f x ss) = W w (.f x ts)) (pre : ss.take i = ts.take i) (ha : ss[i]? = some a) (hb : ts[i]? = some b) (n : a ≠ b) : ab w p (.f x ss) (.f x ts) ↔ Occ (T.f x ts).vars (T.f x ss).vars ∧ ab w p a b := by
  refine ⟨fun k => ?_, fun k => ?_⟩
  · have o : Occ (T.f x ts).vars (T.f x ss).vars := ab_occ k
    rcases (ab_eq h o).mp k with z | z
    · omega
    · exact ⟨o, (abL_pre pre ha hb n).mp z.2⟩
  · exact (ab_eq h k.1).mpr (.inr ⟨rfl, (abL_pre pre ha hb n).mpr k.2⟩)
theorem unlike_lt : ∀ {ss ts : List T} {i : Nat}, ss.length = ts.length → ss ≠ ts → ss.take i = ts.take i → i < ss.length := by
  intro ss ts i l n pre
  by_cases h : i < ss.length
  · exact h
  · rw [List.take_of_length_le (by omega), List.take_of_length_le (by omega)] at pre
    exact absurd pre n
end
end Kb
end Ad

/-! A loop with a measure of one's own. -/
namespace Ad
open PySem PySem.Spec PySem.Calls PyProof.Rows L2
theorem while_g {c : TT} {tb : TS} {D : Ends} {σ : L2.St} {H : Hp} (W : Nat → L2.St → Hp → Prop) (start : ∃ m, W m σ H)
    (turn : ∀ m σ H, W m σ H → c σ H fun b G => if b = true then tb { D with nx := fun σ' H' => ∃ m', m' < m ∧ W m' σ' H', ct := fun σ' H' => ∃ m', m' < m ∧ W m' σ' H', bk := D.nx } σ G else D.nx σ G) (mono : ∀ σ H Q Q', (∀ b G, Q b G → Q' b G) → c σ H Q → c σ H Q') : tWhile c tb D σ H := by
  refine ⟨W, start, fun m σ H h => mono σ H _ _ (fun b G q => ?_) (turn m σ H h)⟩
  cases b with
  | true => exact ⟨_, fun σ' H' z => z, q⟩
  | false => exact q
/-- a if t else b, as a test -/
def tIfT (t ta tb : TT) : TT := fun σ H Q => t σ H fun c H1 => if c = true then ta σ H1 Q else tb σ H1 Q
theorem pt_ifExp {X : Cx} {c a b : Expr} {pos : Pos} {tc ta tb : TT} (hc : PT X c tc) (ha : PT X a ta) (hb : PT X b tb) : PT X (.IfExp c a b pos) (tIfT tc ta tb) := by
  refine ⟨fun pins s σ H Q I h => ?_⟩
  refine isTrue_IfExp (wpAny_mono (hc.run pins s σ H _ I h) (fun d s1 r => ?_) fun _ _ x => x)
  obtain ⟨H1, I1, q1⟩ := r
  cases d with
  | true => exact ha.run pins s1 σ H1 Q I1 q1
  | false => exact hb.run pins s1 σ H1 Q I1 q1
end Ad

namespace Ad
open PySem PySem.Spec PySem.Calls PyProof.Rows L2
abbrev sWeighed : Stmt := topS 10
theorem scWeighed : FnScope ["order", "term", "weight", "often", "waiting", "part"] ["order", "term"] (defScope sWeighed) := ⟨rfl, rfl, rfl, by decide +kernel, rfl, by decide +kernel, by decide +kernel⟩
theorem Kb.CntD.perm {kvs : List (L2.Key × V)} {l l' : List Int} (h : Kb.CntD kvs l) (p : l.Perm l') : Kb.CntD kvs l' :=
  ⟨fun i => by rw [← p.count_eq i]; exact h.val i, fun k v m => by
    obtain ⟨i, e, hi⟩ := h.key k v m
    exact ⟨i, e, p.mem_iff.mp hi⟩, by rw [← p.length_eq]; exact h.len⟩
theorem none_of {H H' : Hp} {p : Addr} (s : Same H H') (n : H' p = none) : H p = none := by
  cases e : H p with
  | none => rfl
  | some o =>
    rw [s _ _ e] at n
    cases n
section
variable {P : Program} {w : World} {K : PySem.W.Frag} {mg : Str → Option Value} {base : Heap}
def spWeighed (K : PySem.W.Frag) (C : Addr) : Sp := fun vs H Q _ => ∃ (o : Addr) (R S : List Row) (t : T) (x : V), vs = [.ref o, x] ∧ OrdI K C H o R S ∧ OOk R S ∧ Tm K H t x ∧ Kb.Wf (ranked R S) t ∧ t.size ≤ 10000 ∧
  ∀ H' pr od kvs, Same H H' → H od = none → SqT K H' pr [.int (Kb.W (Kb.wOf (ranked R S)) t), .ref od] → H' od = some (.dK kvs) → Kb.CntD kvs t.vars → Q (.ref pr) H'
theorem ok_weighed {C f : Addr} {fd : FuncData} {k : Nat} (F : Fun K "_weighed" "_weighed" sWeighed f fd)
    (m_isinstance : mg "isinstance" = none) (m_int : mg "int" = none) (cls : Cls K C) (na : NoAttr K C "_weights") : FnOk P w K mg base CX0 (k + 1) f fd ["order", "term"] (spWeighed K C) := by
  refine F.ok scWeighed (fun vs H Q E h => ?_) (fun cdv A outer s H vs Q E hr h => ?_)
  · obtain ⟨o, R, S, t, x, rfl, _⟩ := h
    rfl
  · obtain ⟨o, R, S, t, x, rfl, hO, ok, ht, wf, small, q⟩ := h
    refine ⟨_, (pss_cons (ps_set (i := 2) scWeighed.nd rfl (.inl rfl) pe_int)
    (pss_cons (ps_set (i := 3) scWeighed.nd rfl (.inl rfl) pe_dnewK)
    (pss_cons (ps_set (i := 4) scWeighed.nd rfl (.inl rfl) (pe_lst (pa_cons (pv 1) pa_nil)))
    (pss_cons (ps_while PassesOwn.never (pt_true (pv 4)) (pss_cons (ps_set (i := 5) scWeighed.nd rfl (.inl rfl) (pe_bm0 PySem.F.plainAttrs_list PySem.F.slot_list_pop PySem.F.type_list_pop mt_pop (pv 4)))
      (pss_one (ps_if (pt_val (pe_callB call_isi (by rfl) m_isinstance (by decide +kernel) (pa_cons (pv 5) (pa_cons (pe_bltn (v := .ty "int") (by rfl) m_int (by decide +kernel) rfl) pa_nil))))
        (pss_cons (ps_aug (i := 2) scWeighed.nd rfl (.inl rfl) pe_int ip_add)
        (pss_one (ps_dput (hu1 hr) (pv 3) (pv 5) (pe_op op_add (pe_dget2 (hu1 hr) (pv 3) (pv 5) pe_int ⟨rfl, rfl, rfl, rfl⟩) pe_int) rfl))) (pss_cons (ps_aug (i := 2) scWeighed.nd rfl (.inl rfl) (pe_dget (hu1 hr) (pe_fld (pv 0) rfl) (pe_ix ix_tup (pv 5) pe_int (fun _ _ => rfl)) (fun _ _ => rfl)) ip_add)
        (pss_one (ps_expr (pe_bm PySem.F.plainAttrs_list PySem.F.slot_list_extend PySem.F.type_list_extend mt_extT (pv 4) (pa_cons (pe_slice sl_tup (pv 5) (po_some pe_int) po_none) pa_nil)))))))))
    (pss_one (ps_ret (pe_tup (pa_cons (pv 2) (pa_cons (pv 3) pa_nil))))))))), ?_⟩
    intro d nd0
    have sm0 : Same H (upd H d (.dK [])) := same_new (fun b o e => e) nd0 _
    have m0 : (upd H d (.dK [])) d = some (.dK []) := upd_same
    generalize upd H d (.dK []) = H0 at sm0 m0
    refine ⟨x, rfl, (by show 1 ≤ sizeLine; decide), fun p2 n2 => ?_⟩
    have sm1 : Same H (upd H0 p2 (.lst [x])) := same_new sm0 n2 _
    have m1 : (upd H0 p2 (.lst [x])) d = some (.dK []) := by rw [upd_ne (ne_of_none m0 n2)]; exact m0
    have e1 : (upd H0 p2 (.lst [x])) p2 = some (.lst [x]) := upd_same
    have ht1 := Tm.mono (TK.same sm1) _ _ ht
    have n2' : H p2 = none := none_of sm0 n2
    have dl : d ≠ p2 := ne_of_none m0 n2
    generalize upd H0 p2 (.lst [x]) = H1 at sm1 m1 e1 ht1
    clear sm0 m0 n2
    have nd : ((ranked R S).map (·.1)).Nodup := ok.nd
    generalize erk : ranked R S = rk at wf nd q
    refine while_g (fun m σ G => ∃ (v5 : Option V) (acc : Int) (todo : List T) (ws : List V) (l : List Int) (kvs : List (L2.Key × V)), σ = [some (.ref o), some x, some (.int acc), some (.ref d), some (.ref p2), v5] ∧ G p2 = some (.lst ws) ∧ G d = some (.dK kvs) ∧ Same H G ∧ Tms K G todo ws ∧
      acc + Kb.WL (Kb.wOf rk) todo = Kb.W (Kb.wOf rk) t ∧ (l ++ T.varsL todo).Perm t.vars ∧ Kb.CntD kvs l ∧ (∀ u ∈ todo, Kb.Wf rk u) ∧ T.sizeL todo = m ∧ m ≤ t.size ∧ l.length ≤ t.size) ⟨t.size, none, 0, [t], [x], [], [], rfl, e1, m1, sm1, Tms.one ht1, ?_, ?_, Kb.CntD.nil, fun u hu => by cases List.mem_singleton.mp hu; exact wf, ?_, Nat.le_refl _, Nat.zero_le _⟩ ?_ ?_
    · show 0 + (Kb.W _ t + 0) = _
      omega
    · show ([] ++ (t.vars ++ [])).Perm t.vars
      rw [List.append_nil]
      exact List.Perm.refl _
    · show t.size + 0 = _
      omega
    · rintro m σ G ⟨v5, acc, todo, ws, l, kvs, rfl, g2, gd, sm, a2, sum, pm, cn, wfs, sz, mt, lt⟩
      refine ⟨_, rfl, !ws.isEmpty, .inl ⟨ws, .inl (.inl g2), rfl⟩, ?_⟩
      by_cases em : todo = []
      · subst em
        cases (show ws = [] from a2)
        refine iteF ?_
        have e : acc = Kb.W (Kb.wOf rk) t := by
          have : acc + 0 = Kb.W (Kb.wOf rk) t := sum
          omega
        subst e
        have pm' : l.Perm t.vars := by
          have z : (l ++ []).Perm t.vars := pm
          rw [List.append_nil] at z
          exact z
        refine ⟨_, rfl, .ref d, rfl, (by show 2 ≤ sizeLine; decide), fun pr np => ?_⟩
        have s5 : Same G (upd G pr (.tup [.int (Kb.W (Kb.wOf rk) t), .ref d])) := same_new (fun b o e => e) np _
        exact q _ pr d kvs (fun b o e => s5 _ _ (sm _ _ e)) nd0 (.inl (.inl upd_same)) (s5 _ _ gd) (cn.perm pm')
      · obtain ⟨us, u, ys, y, rfl, rfl, b1, b2⟩ := a2.last em
        have isT : (!(ys ++ [y]).isEmpty) = true := by cases ys <;> rfl
        rw [isT]
        refine iteT ?_
        rw [T.sizeL_append] at sz
        have sz' : T.sizeL us + (u.size + 0) = m := sz
        have up := u.size_pos
        have dl' : (ys ++ [y]).dropLast = ys := List.dropLast_concat
        rw [Kb.WL_app] at sum
        have sum' : acc + (Kb.WL (Kb.wOf rk) us + (Kb.W (Kb.wOf rk) u + 0)) = Kb.W (Kb.wOf rk) t := sum
        rw [T.varsL_append] at pm
        have pm' : (l ++ (T.varsL us ++ (u.vars ++ []))).Perm t.vars := pm
        rw [List.append_nil] at pm'
        have ly := b1.len
        have lus := T.len_sizeL us
        refine ⟨_, rfl, .inl ⟨rfl, _, .inl (.inl g2)⟩, p2, ys ++ [y], y, rfl, rfl, g2, (by rw [List.length_append, List.length_singleton, Nat.add_sub_cancel, List.getElem?_append_right (Nat.le_refl _), Nat.sub_self]; rfl), ?_⟩
        rw [dl']
        have k2 : TK G (upd G p2 (.lst ys)) := TK.lst g2 _
        have h1 : (upd G p2 (.lst ys)) d = some (.dK kvs) := by rw [upd_ne dl]; exact gd
        have h2 : (upd G p2 (.lst ys)) p2 = some (.lst ys) := upd_same
        have sm2 : Same H (upd G p2 (.lst ys)) := same_on sm n2' _
        have c2 := Tms.mono k2 _ _ b1
        have c3 := Tm.mono k2 _ _ b2
        generalize upd G p2 (.lst ys) = G2 at h1 h2 sm2 c2 c3
        have wfu := wfs u (List.mem_append_right _ (List.mem_singleton_self _))
        have wfus : ∀ u' ∈ us, Kb.Wf rk u' := fun u' h => wfs u' (List.mem_append_left _ h)
        cases u with
        | v j =>
          cases (show y = .int j from c3)
          refine ⟨.int j, rfl, _, .ty "int", .type "int", .type "int", true, rfl, .ty "int", .base (.int j), kitII, true, rfl, ?_⟩
          refine iteT ?_
          refine ⟨_, rfl, _, _, rfl, rfl, ?_⟩
          have lk := cn.len
          refine ⟨.ref d, rfl, d, rfl, .inl ⟨kvs, .inl h1⟩, .int j, rfl, _, DGet.k (k := Sum.inl j) h1, ?_⟩
          rw [cn.got j]
          refine ⟨_, _, rfl, rfl, .ref d, rfl, .int j, rfl, d, _, rfl, DPut.k (k := Sum.inl j) h1 (by rw [sizeLine_eq]; omega), ?_⟩
          have k3 := dk_tk h1 (.dK (putK kvs (.inl j) (.int ((l.count j : Nat) + 1))))
          have pj : ((l ++ [j]) ++ T.varsL us).Perm t.vars := by
            refine List.Perm.trans ?_ pm'
            rw [List.append_assoc]
            refine List.Perm.append_left l ?_
            exact List.perm_append_comm
          have ll := pj.length_eq
          have lv := T.vars_len t
          rw [List.length_append] at ll
          refine ⟨_, by show T.sizeL us < m; have z : T.size (.v j) = 1 := rfl; omega, some (.int j), acc + 1, us, ys, l ++ [j], _, rfl, by rw [upd_ne dl.symm]; exact h2, upd_same, same_on sm2 nd0 _, Tms.mono k3 _ _ c2, ?_, pj, cn.put j, wfus, rfl, by omega, by omega⟩
          have z : Kb.W (Kb.wOf rk) (.v j) = 1 := rfl
          omega
        | f nm ts =>
          have ty := tm_tuple c3
          obtain ⟨a, zs, rfl, sq, all⟩ := c3
          refine ⟨.ref a, rfl, _, .ty "int", .type "tuple", .type "int", false, rfl, .ty "int", ty, kitTI, false, rfl, ?_⟩
          refine iteF ?_
          obtain ⟨dx, bt, br, bw, bp, vs1, vs2, eO, _, _, _, _, eW, _⟩ := (hO.same sm2).ex
          have wfu' := wfu
          obtain ⟨⟨r, hr', rn, _⟩, wts⟩ := wfu'
          rw [erk] at eW
          have gw := valV_wK nd hr'
          refine ⟨_, rfl, .ref o, rfl, o, C, dx, _, _, rfl, eO, cls, na, ordF_weights bt br bw bp, .ref a, rfl, a, _, 0, .str nm, rfl, rfl, sq, atI_nat (j := 0) rfl, bw, .int r.2.2, rfl, ?_, ?_⟩
          · have := DGet.k (k := Sum.inr nm) eW
            rw [← rn, gw] at this
            rw [← rn]
            exact this
          have lz := all.len
          have lts := T.len_sizeL ts
          have z : T.size (.f nm ts) = 1 + T.sizeL ts := rfl
          refine ⟨_, _, rfl, rfl, .ref p2, rfl, .inl ⟨rfl, _, .inl (.inl h2)⟩, .ref a, rfl, 1, rfl, a, _, rfl, sq, cut_args.1, fun p3 n3 => ?_⟩
          rw [cut_args.2]
          have s3 : Same G2 (upd G2 p3 (.tup zs)) := same_new (fun b o e => e) n3 _
          have i2 := s3 _ _ h2
          have i1 := s3 _ _ h1
          have i3 : (upd G2 p3 (.tup zs)) p3 = some (.tup zs) := upd_same
          have sm3 : Same H (upd G2 p3 (.tup zs)) := fun b o e => s3 _ _ (sm2 _ _ e)
          have d2 := Tms.mono (TK.same s3) _ _ c2
          have d3 := Tms.mono (TK.same s3) _ _ all
          generalize upd G2 p3 (.tup zs) = G3 at i1 i2 i3 sm3 d2 d3
          refine ⟨p2, p3, ys, zs, rfl, rfl, i2, .inl (.inl i3), by rw [sizeLine_eq]; omega, ?_⟩
          have k4 : TK G3 (upd G3 p2 (.lst (ys ++ zs))) := TK.lst i2 _
          refine ⟨_, by show T.sizeL (us ++ ts) < m; rw [T.sizeL_append]; omega, some (.ref a), acc + Kb.wOf rk nm, us ++ ts, ys ++ zs, l, kvs, ?_, upd_same, by rw [upd_ne dl]; exact i1, same_on sm3 n2' _, Tms.app (Tms.mono k4 _ _ d2) (Tms.mono k4 _ _ d3), ?_, ?_, cn, ?_, rfl, by rw [T.sizeL_append]; omega, lt⟩
          · rw [← rn, Kb.wOf_mem nd hr']
            rfl
          · rw [Kb.WL_app]
            have z2 : Kb.W (Kb.wOf rk) (.f nm ts) = Kb.wOf rk nm + Kb.WL (Kb.wOf rk) ts := rfl
            omega
          · rw [T.varsL_append]
            exact pm'
          · intro u' hu'
            rcases List.mem_append.mp hu' with h | h
            · exact wfus u' h
            · exact Kb.wfL_mem wts h
    · exact mono_true mono_var
end
end Ad

namespace Ad
open PySem PySem.Spec PySem.Calls PyProof.Rows L2
abbrev sWay : Stmt := topS 14
theorem scWay : FnScope ["one", "other"] ["one", "other"] (defScope sWay) := ⟨rfl, rfl, rfl, by decide +kernel, rfl, by decide +kernel, by decide +kernel⟩
abbrev sOften : Stmt := topS 15
theorem scOften : FnScope ["often", "least", "variable"] ["often", "least"] (defScope sOften) := ⟨rfl, rfl, rfl, by decide +kernel, rfl, by decide +kernel, by decide +kernel⟩
section
variable {P : Program} {w : World} {K : PySem.W.Frag} {mg : Str → Option Value} {base : Heap}
def spWay : Sp := fun vs H Q _ => ∃ i j : Int, vs = [.int i, .int j] ∧ Q (if j < i then .str "above" else .str "below") H
theorem ok_way {f : Addr} {fd : FuncData} {k : Nat} (F : Fun K "_way" "_way" sWay f fd) : FnOk P w K mg base CX0 (k + 1) f fd ["one", "other"] spWay := by
  refine F.ok scWay (fun vs H Q E h => ?_) (fun cdv A outer s H vs Q E hr h => ?_)
  · obtain ⟨i, j, rfl, _⟩ := h
    rfl
  · obtain ⟨i, j, rfl, q⟩ := h
    refine ⟨_, (pss_one (ps_ret (pe_ifExp (pt_cmpR op_gt (pv 0) (pv 1) (nomark _)) pe_str pe_str))), ?_⟩
    refine ⟨.int i, rfl, .int j, rfl, _, _, rfl, rfl, _, rfl, ?_⟩
    by_cases z : j < i
    · rw [if_pos z] at q
      rw [decide_eq_true (show i > j from z)]
      exact iteT q
    · rw [if_neg z] at q
      rw [decide_eq_false (show ¬ i > j from z)]
      exact iteF q
/-- whether each variable of the second dict stands in the first one at least as often -/
noncomputable def occB (l2 l1 : List Int) : Bool := @decide (Kb.Occ l2 l1) (Classical.propDecidable _)
theorem occB_true {l2 l1 : List Int} (h : Kb.Occ l2 l1) : occB l2 l1 = true := by
  unfold occB
  exact @decide_eq_true _ (Classical.propDecidable _) h
theorem occB_false {l2 l1 : List Int} (h : ¬ Kb.Occ l2 l1) : occB l2 l1 = false := by
  unfold occB
  exact @decide_eq_false _ (Classical.propDecidable _) h
def spOften : Sp := fun vs H Q _ => ∃ (a b : Addr) (ks ls : List (L2.Key × V)) (l1 l2 : List Int), vs = [.ref a, .ref b] ∧ a ≠ b ∧ H a = some (.dK ks) ∧ H b = some (.dK ls) ∧ Kb.CntD ks l1 ∧ Kb.CntD ls l2 ∧ ∀ H', Same H H' → Q (.bl (occB l2 l1)) H'
theorem unlock_same {H : Hp} {b : Addr} {u o : HO} (h : H b = some u) : Same H (upd (upd H b o) b u) := fun c x e => by
  by_cases z : c = b
  · rw [z, upd_same]
    rw [z, h] at e
    exact e
  · rw [upd_ne z, upd_ne z]
    exact e
theorem ok_often {f : Addr} {fd : FuncData} {k : Nat} (F : Fun K "_has_as_often" "_has_as_often" sOften f fd) : FnOk P w K mg base CX0 (k + 1) f fd ["often", "least"] spOften := by
  refine F.ok scOften (fun vs H Q E h => ?_) (fun cdv A outer s H vs Q E hr h => ?_)
  · obtain ⟨a, b, ks, ls, l1, l2, rfl, _⟩ := h
    rfl
  · obtain ⟨a, b, ks, ls, l1, l2, rfl, ab, ha, hb, c1, c2, q⟩ := h
    refine ⟨_, (pss_cons (ps_lock (ps_for PassesOwn.never rfl (pi_keys (pv 1)) (pg_name (i := 2) scOften.nd rfl (.inl rfl))
      (pss_one (ps_if (pt_cmpR op_lt (pe_dget2 (hu1 hr) (pv 0) (pv 2) pe_int ⟨rfl, rfl, rfl, rfl⟩) (pe_dget (hu1 hr) (pv 1) (pv 2) (fun _ _ => rfl)) (nomark _))
        (pss_one (ps_ret pe_bl)) pss_nil))))
    (pss_one (ps_ret pe_bl))), ?_⟩
    refine ⟨b, .dK ls, hb, True.intro, fun od => ?_⟩
    have us := unlock_same (o := .frz od (.dK ls)) hb
    refine ⟨.ref b, rfl, b, od, rfl, .inl ⟨ls, upd_same, for_it walk_keys (fun i σ G => ∃ (v2 : Option V), σ = [some (.ref a), some (.ref b), v2] ∧ G = upd H b (.frz od (.dK ls)) ∧ ∀ (j : Nat) (x : Int) (v : V), j < i → ls[j]? = some (.inl x, v) → l2.count x ≤ l1.count x) ⟨none, rfl, rfl, fun j x v hj => absurd hj (Nat.not_lt_zero _)⟩ (fun i σ G _ ⟨_, _, e, _⟩ => by rw [e]; exact upd_same) ?_ ?_⟩⟩
    · rintro i y σ G G' hi ⟨v2, rfl, rfl, so⟩ ⟨rfl, kx, v, hk, rfl⟩
      obtain ⟨x, rfl, hx⟩ := c2.key kx v (List.mem_of_getElem? hk)
      have ga : (upd H b (.frz od (.dK ls))) a = some (.dK ks) := by rw [upd_ne ab]; exact ha
      have gb : (upd H b (.frz od (.dK ls))) b = some (.frz od (.dK ls)) := upd_same
      have pos : ¬ l2.count x = 0 := by
        have := List.count_pos_iff.mpr hx
        omega
      have v2' := c2.val x
      rw [if_neg pos] at v2'
      refine ⟨.ref a, rfl, a, rfl, .inl ⟨ks, .inl ga⟩, .int x, rfl, _, DGet.k (k := Sum.inl x) ga, .ref b, rfl, .int x, rfl, b, .int (l2.count x : Nat), rfl, .inl ⟨ls, .inl x, .inr ⟨od, gb⟩, rfl, v2'.symm⟩, ?_⟩
      rw [c1.got x]
      refine ⟨_, _, rfl, rfl, _, rfl, ?_⟩
      by_cases z : l1.count x < l2.count x
      · rw [decide_eq_true (by omega)]
        refine iteT ⟨gb, ?_⟩
        rw [occB_false (fun o => absurd (o x) (by omega))] at q
        exact q _ us
      · rw [decide_eq_false (by omega)]
        refine iteF ⟨_, rfl, rfl, fun j x' v' hj e => ?_⟩
        by_cases ji : j = i
        · rw [ji, hk] at e
          cases e
          omega
        · exact so j x' v' (by omega) e
    · rintro σ G ⟨v2, rfl, rfl, so⟩
      refine ⟨upd_same, ?_⟩
      have o : Kb.Occ l2 l1 := fun x => by
        by_cases z : l2.count x = 0
        · omega
        · have v2' := c2.val x
          rw [if_neg z] at v2'
          obtain ⟨p, hp, e⟩ := List.mem_map.mp (valV_in v2')
          obtain ⟨j, hj, ej⟩ := List.mem_iff_getElem.mp hp
          refine so j x p.2 hj ?_
          rw [List.getElem?_eq_getElem hj, ej, ← e]
      rw [occB_true o] at q
      exact q _ us
end
end Ad

namespace Ad
open PySem PySem.Spec PySem.Calls PyProof.Rows L2 RZ
abbrev sCompare : Stmt := topS 11
theorem scCompare : FnScope ["order", "one", "other", "may_be_above", "may_be_below", "one_weight", "one_often", "other_weight", "other_often", "way"] ["order", "one", "other"] (defScope sCompare) := ⟨rfl, rfl, rfl, by decide +kernel, rfl, by decide +kernel, by decide +kernel⟩
abbrev sFirstUn : Stmt := topS 12
theorem scFirstUn : FnScope ["one", "other", "index"] ["one", "other"] (defScope sFirstUn) := ⟨rfl, rfl, rfl, by decide +kernel, rfl, by decide +kernel, by decide +kernel⟩
abbrev sHeads : Stmt := topS 13
theorem scHeads : FnScope ["order", "one", "other"] ["order", "one", "other"] (defScope sHeads) := ⟨rfl, rfl, rfl, by decide +kernel, rfl, by decide +kernel, by decide +kernel⟩
theorem eqv_ne {s t : T} (e : s ≠ t) : PyData.eqv s.d t.d = false := by
  cases h : PyData.eqv s.d t.d with
  | false => rfl
  | true => exact absurd (T.eqv_eq _ _ h) e
theorem tAndV_var {i : Nat} {A b : Bool} {tb : TE} {σ : L2.St} {H : Hp} {Q : VK} (e : σ[i]? = some (some (.bl A))) (hb : ∀ Q' : VK, (∀ G, Same H G → Q' (.bl b) G) → tb σ H Q') (q : ∀ G, Same H G → Q (.bl (A && b)) G) : tAndV (tVar i) tb σ H Q := by
  refine ⟨.bl A, e, A, rfl, ?_⟩
  cases A with
  | true => exact iteT (hb _ q)
  | false => exact iteF (q H fun b o e => e)
section
variable {P : Program} {w : World} {K : PySem.W.Frag} {mg : Str → Option Value} {base : Heap}
/-- two terms of an order -/
structure Two (K : PySem.W.Frag) (C : Addr) (H : Hp) (o : Addr) (R S : List Row) (s t : T) (x y : V) : Prop where
  ord : OrdI K C H o R S
  ok : OOk R S
  hs : Tm K H s x
  ht : Tm K H t y
  ws : Kb.Wf (ranked R S) s
  wt : Kb.Wf (ranked R S) t
  ns : s.named = true
  nt : t.named = true
  ds : s.dep ≤ 60
  dt : t.dep ≤ 60
  zs : s.size ≤ 10000
  zt : t.size ≤ 10000
theorem Two.same {C : Addr} {H H' : Hp} (sm : Same H H') {o : Addr} {R S : List Row} {s t : T} {x y : V} (h : Two K C H o R S s t x y) : Two K C H' o R S s t x y :=
  ⟨h.ord.same sm, h.ok, Tm.mono (TK.same sm) _ _ h.hs, Tm.mono (TK.same sm) _ _ h.ht, h.ws, h.wt, h.ns, h.nt, h.ds, h.dt, h.zs, h.zt⟩
def spCmp (K : PySem.W.Frag) (C : Addr) (n : Nat) : Sp := fun vs H Q _ => ∃ (o : Addr) (R S : List Row) (s t : T) (x y : V), vs = [.ref o, x, y] ∧ Two K C H o R S s t x y ∧ s.dep < n ∧
  ∀ H', Same H H' → Q (Kb.word (Kb.wOf (ranked R S)) (Kb.pOf (ranked R S)) s t) H'
/-! ### the first unlike arguments -/
def spFirstUn (K : PySem.W.Frag) : Sp := fun vs H Q _ => ∃ (n m : Str) (ss ts : List T) (x y : V), vs = [x, y] ∧ Tm K H (.f n ss) x ∧ Tm K H (.f m ts) y ∧ ss.length = ts.length ∧ ss ≠ ts ∧ T.namedL ss = true ∧ T.namedL ts = true ∧ T.depL ss ≤ 60 ∧ T.depL ts ≤ 60 ∧
  ∀ H' pr i a b va vb, Same H H' → ss.take i = ts.take i → ss[i]? = some a → ts[i]? = some b → a ≠ b → SqT K H' pr [va, vb] → Tm K H' a va → Tm K H' b vb → Q (.ref pr) H'
theorem ok_firstun {f : Addr} {fd : FuncData} {k : Nat} (F : Fun K "_first_unlike" "_first_unlike" sFirstUn f fd) : FnOk P w K mg base CX0 (k + 1) f fd ["one", "other"] (spFirstUn K) := by
  refine F.ok scFirstUn (fun vs H Q E h => ?_) (fun cdv A outer s H vs Q E hr h => ?_)
  · obtain ⟨n, m, ss, ts, x, y, rfl, _⟩ := h
    rfl
  · obtain ⟨n, m, ss, ts, x, y, rfl, hx, hy, len, ne, n1, n2, d1, d2, q⟩ := h
    have hu := hu64 hr
    refine ⟨_, (pss_cons (ps_set (i := 2) scFirstUn.nd rfl (.inl rfl) pe_int)
    (pss_cons (ps_while PassesOwn.never (pt_cmpR (op_eqD hu) (pe_ix ix_tup (pv 0) (pv 2) (fun _ _ => rfl)) (pe_ix ix_tup (pv 1) (pv 2) (fun _ _ => rfl)) (nomark _)) (pss_one (ps_aug (i := 2) scFirstUn.nd rfl (.inl rfl) pe_int ip_add)))
    (pss_one (ps_ret (pe_tup (pa_cons (pe_ix ix_tup (pv 0) (pv 2) (fun _ _ => rfl)) (pa_cons (pe_ix ix_tup (pv 1) (pv 2) (fun _ _ => rfl)) pa_nil))))))), ?_⟩
    obtain ⟨a, zs, rfl, sqa, alla⟩ := hx
    obtain ⟨b, us, rfl, sqb, allb⟩ := hy
    refine while_g (fun m σ G => ∃ i : Nat, m = ss.length - i ∧ σ = [some (.ref a), some (.ref b), some (.int ((i + 1 : Nat) : Int))] ∧ G = H ∧ ss.take i = ts.take i) ⟨_, 0, rfl, rfl, rfl, rfl⟩ ?_ ?_
    · rintro m σ G ⟨i, rfl, rfl, rfl, pre⟩
      have lt := Kb.unlike_lt len ne pre
      obtain ⟨va, hva⟩ : ∃ va, zs[i]? = some va := ⟨_, List.getElem?_eq_getElem (by rw [alla.len]; exact lt)⟩
      obtain ⟨vb, hvb⟩ : ∃ vb, us[i]? = some vb := ⟨_, List.getElem?_eq_getElem (by rw [allb.len, ← len]; exact lt)⟩
      obtain ⟨a1, ha1, ta1⟩ := alla.get hva
      obtain ⟨b1, hb1, tb1⟩ := allb.get hvb
      have ma := List.mem_of_getElem? ha1
      have mb := List.mem_of_getElem? hb1
      have g1 : (V.str n :: zs)[i + 1]? = some va := hva
      have g2 : (V.str m :: us)[i + 1]? = some vb := hvb
      have da := T.dep_mem ma
      have db := T.dep_mem mb
      have sa := T.shaped (T.named_mem ma n1) (by omega)
      have sb := T.shaped (T.named_mem mb n2) (by omega)
      refine ⟨.ref a, rfl, _, rfl, a, _, _, va, rfl, rfl, sqa, atI_nat g1, .ref b, rfl, _, rfl, b, _, _, vb, rfl, rfl, sqb, atI_nat g2, a1.d, b1.d, Tm.dp _ _ ta1, Tm.dp _ _ tb1, sa, sb, _, rfl, ?_⟩
      by_cases e : a1 = b1
      · rw [e, eqv_one sb]
        refine iteT ⟨_, rfl, _, _, rfl, rfl, _, ?_, i + 1, rfl, rfl, rfl, ?_⟩
        · show ss.length - (i + 1) < ss.length - i
          omega
        · rw [take_next ha1, take_next hb1, pre, e]
      · rw [eqv_ne e]
        refine iteF ?_
        refine ⟨.ref a, rfl, _, rfl, a, _, _, va, rfl, rfl, sqa, atI_nat g1, .ref b, rfl, _, rfl, b, _, _, vb, rfl, rfl, sqb, atI_nat g2, (by show 2 ≤ sizeLine; decide), fun pr np => ?_⟩
        have k := TK.new np (.tup [va, vb])
        exact q _ pr i a1 b1 va vb (same_new (fun b o e => e) np _) pre ha1 hb1 e (.inl (.inl upd_same)) (Tm.mono k _ _ ta1) (Tm.mono k _ _ tb1)
    · rintro σ H Q Q' imp ⟨v, e, v2, e2, p1, xs1, i1, z1, r1, r2, s1, t1, v3, e3, v4, e4, p2, xs2, i2, z2, r3, r4, s2, t2, d, d', h1, h2, h3, h4, b, hb, hq⟩
      exact ⟨v, e, v2, e2, p1, xs1, i1, z1, r1, r2, s1, t1, v3, e3, v4, e4, p2, xs2, i2, z2, r3, r4, s2, t2, d, d', h1, h2, h3, h4, b, hb, imp _ _ hq⟩
/-! ### the way by weights and names -/
def spHeads (K : PySem.W.Frag) (C : Addr) : Sp := fun vs H Q _ => ∃ (o p1 p2 : Addr) (R S : List Row) (s t : T) (x y : V), vs = [.ref o, .ref p1, .ref p2] ∧ Two K C H o R S s t x y ∧ SqT K H p1 [.int (Kb.W (Kb.wOf (ranked R S)) s), x] ∧ SqT K H p2 [.int (Kb.W (Kb.wOf (ranked R S)) t), y] ∧
  Q (Kb.hd (Kb.wOf (ranked R S)) (Kb.pOf (ranked R S)) s t) H
theorem ok_heads {C f fY : Addr} {fd fdY : FuncData} {k : Nat} (F : Fun K "_way_by_heads" "_way_by_heads" sHeads f fd) (GY : FnOk P w K mg base CX0 k fY fdY ["one", "other"] spWay) (gY : mg "_way" = some (.ref fY)) (kY : PySem.W.keepIn K (.ref fY) = true) (bY : Binds K fdY ["one", "other"] [])
    (m_isinstance : mg "isinstance" = none) (m_int : mg "int" = none) (cls : Cls K C) (na : NoAttr K C "_places") : FnOk P w K mg base CX0 (k + 1) f fd ["order", "one", "other"] (spHeads K C) := by
  refine F.ok scHeads (fun vs H Q E h => ?_) (fun cdv A outer s H vs Q E hr h => ?_)
  · obtain ⟨o, p1, p2, R, S, s, t, x, y, rfl, _⟩ := h
    rfl
  · obtain ⟨o, p1, p2, R, S, t, u, x, y, rfl, two, sq1, sq2, q⟩ := h
    refine ⟨_, (pss_cons (ps_if (pt_cmpR op_ne (pe_ix ix_tup (pv 1) pe_int (fun _ _ => rfl)) (pe_ix ix_tup (pv 2) pe_int (fun _ _ => rfl)) (nomark _))
      (pss_one (ps_ret (pe_call GY hr (by rfl) gY kY bY .nil pass0 (pa_cons (pe_ix ix_tup (pv 1) pe_int (fun _ _ => rfl)) (pa_cons (pe_ix ix_tup (pv 2) pe_int (fun _ _ => rfl)) pa_nil))))) pss_nil)
    (pss_cons (ps_if (PW.pt (pw_or (pt_val (pe_callB call_isi (by rfl) m_isinstance (by decide +kernel) (pa_cons (pe_ix ix_tup (pv 1) pe_int (fun _ _ => rfl)) (pa_cons (pe_bltn (v := .ty "int") (by rfl) m_int (by decide +kernel) rfl) pa_nil)))) (pw_or (pt_val (pe_callB call_isi (by rfl) m_isinstance (by decide +kernel) (pa_cons (pe_ix ix_tup (pv 2) pe_int (fun _ _ => rfl)) (pa_cons (pe_bltn (v := .ty "int") (by rfl) m_int (by decide +kernel) rfl) pa_nil)))) (pw_or1 (pt_cmpR op_eq (pe_ix ix_tup (pe_ix ix_tup (pv 1) pe_int (fun _ _ => rfl)) pe_int (fun _ _ => rfl)) (pe_ix ix_tup (pe_ix ix_tup (pv 2) pe_int (fun _ _ => rfl)) pe_int (fun _ _ => rfl)) (nomark _))))))
      (pss_one (ps_ret pe_non)) pss_nil)
    (pss_one (ps_ret (pe_call GY hr (by rfl) gY kY bY .nil pass0 (pa_cons (pe_dget (hu1 hr) (pe_fld (pv 0) rfl) (pe_ix ix_tup (pe_ix ix_tup (pv 1) pe_int (fun _ _ => rfl)) pe_int (fun _ _ => rfl)) (fun _ _ => rfl)) (pa_cons (pe_dget (hu1 hr) (pe_fld (pv 0) rfl) (pe_ix ix_tup (pe_ix ix_tup (pv 2) pe_int (fun _ _ => rfl)) pe_int (fun _ _ => rfl)) (fun _ _ => rfl)) pa_nil))))))), ?_⟩
    have nd : ((ranked R S).map (·.1)).Nodup := two.ok.nd
    refine ⟨.ref p1, rfl, p1, _, 0, _, rfl, rfl, sq1, atI_nat (j := 0) rfl, .ref p2, rfl, p2, _, 0, _, rfl, rfl, sq2, atI_nat (j := 0) rfl, rfl, _, rfl, ?_⟩
    by_cases we : Kb.W (Kb.wOf (ranked R S)) t = Kb.W (Kb.wOf (ranked R S)) u
    · have z : (!decide (V.int (Kb.W (Kb.wOf (ranked R S)) t) = V.int (Kb.W (Kb.wOf (ranked R S)) u))) = false := by rw [decide_eq_true (congrArg V.int we)]; rfl
      rw [z]
      refine iteF ?_
      refine ⟨.ref p1, rfl, p1, _, 1, x, rfl, rfl, sq1, atI_nat (j := 1) rfl, ?_⟩
      cases t with
      | v i =>
        rw [Kb.hd_v1 we] at q
        cases (show x = .int i from two.hs)
        refine ⟨_, .ty "int", .type "int", .type "int", true, rfl, .ty "int", .base (.int i), kitII, true, rfl, ?_⟩
        exact iteT (iteT q)
      | f nm ss =>
      refine ⟨_, .ty "int", .type "tuple", .type "int", false, rfl, .ty "int", tm_tuple two.hs, kitTI, false, rfl, ?_⟩
      refine iteF ?_
      refine ⟨.ref p2, rfl, p2, _, 1, y, rfl, rfl, sq2, atI_nat (j := 1) rfl, ?_⟩
      cases u with
      | v i =>
        rw [Kb.hd_v2 we] at q
        cases (show y = .int i from two.ht)
        refine ⟨_, .ty "int", .type "int", .type "int", true, rfl, .ty "int", .base (.int i), kitII, true, rfl, ?_⟩
        exact iteT (iteT q)
      | f mm ts =>
      refine ⟨_, .ty "int", .type "tuple", .type "int", false, rfl, .ty "int", tm_tuple two.ht, kitTI, false, rfl, ?_⟩
      refine iteF ?_
      obtain ⟨a, zs, rfl, sqa, alla⟩ := two.hs
      obtain ⟨b, us, rfl, sqb, allb⟩ := two.ht
      refine ⟨.ref p1, rfl, p1, _, 1, _, rfl, rfl, sq1, atI_nat (j := 1) rfl, a, _, 0, .str nm, rfl, rfl, sqa, atI_nat (j := 0) rfl, .ref p2, rfl, p2, _, 1, _, rfl, rfl, sq2, atI_nat (j := 1) rfl, b, _, 0, .str mm, rfl, rfl, sqb, atI_nat (j := 0) rfl, rfl, _, rfl, ?_⟩
      by_cases xy : nm = mm
      · subst xy
        rw [Kb.hd_same we] at q
        rw [decide_eq_true rfl]
        exact iteT q
      · rw [decide_eq_false (fun z => xy (V.str.inj z))]
        refine iteF ?_
        rw [Kb.hd_names we xy] at q
        obtain ⟨dx, bt, br, bw, bp, vs1, vs2, eO, _, _, _, _, _, eP⟩ := two.ord.ex
        obtain ⟨⟨r, hr', rn, _⟩, _⟩ := two.ws
        obtain ⟨⟨r2, hr2, rn2, _⟩, _⟩ := two.wt
        obtain ⟨i, hi, ei⟩ := List.mem_iff_getElem.mp hr'
        obtain ⟨i2, hi2, ei2⟩ := List.mem_iff_getElem.mp hr2
        have g1 : (ranked R S)[i]? = some r := by rw [List.getElem?_eq_getElem hi, ei]
        have g2 : (ranked R S)[i2]? = some r2 := by rw [List.getElem?_eq_getElem hi2, ei2]
        have p1' := valV_pK nd 0 i r g1
        have p2' := valV_pK nd 0 i2 r2 g2
        have q1 := Kb.pOf_at nd g1
        have q2 := Kb.pOf_at nd g2
        rw [rn, Nat.zero_add] at p1'
        rw [rn2, Nat.zero_add] at p2'
        rw [rn] at q1
        rw [rn2] at q2
        have f1 := DGet.k (k := Sum.inr nm) eP
        rw [p1'] at f1
        have f2 := DGet.k (k := Sum.inr mm) eP
        rw [p2'] at f2
        refine ⟨.ref o, rfl, o, C, dx, _, _, rfl, eO, cls, na, ordF_places bt br bw bp, .ref p1, rfl, p1, _, 1, _, rfl, rfl, sq1, atI_nat (j := 1) rfl, a, _, 0, .str nm, rfl, rfl, sqa, atI_nat (j := 0) rfl, bp, _, rfl, f1, ?_⟩
        refine ⟨.ref o, rfl, o, C, dx, _, _, rfl, eO, cls, na, ordF_places bt br bw bp, .ref p2, rfl, p2, _, 1, _, rfl, rfl, sq2, atI_nat (j := 1) rfl, b, _, 0, .str mm, rfl, rfl, sqb, atI_nat (j := 0) rfl, bp, _, rfl, f2, ?_⟩
        refine ⟨_, _, rfl, ?_⟩
        rw [q1, q2] at q
        exact q
    · have z : (!decide (V.int (Kb.W (Kb.wOf (ranked R S)) t) = V.int (Kb.W (Kb.wOf (ranked R S)) u))) = true := by rw [decide_eq_false (fun z => we (V.int.inj z))]; rfl
      rw [z]
      refine iteT ?_
      rw [Kb.hd_ne we] at q
      refine ⟨.ref p1, rfl, p1, _, 0, _, rfl, rfl, sq1, atI_nat (j := 0) rfl, .ref p2, rfl, p2, _, 0, _, rfl, rfl, sq2, atI_nat (j := 0) rfl, _, _, rfl, ?_⟩
      exact q
end
end Ad

namespace Ad
open PySem PySem.Spec PySem.Calls PyProof.Rows L2 RZ
section
variable {P : Program} {w : World} {K : PySem.W.Frag} {mg : Str → Option Value} {base : Heap}
theorem wOf1 {R S : List Row} (ok : OOk R S) (x : Str) : 1 ≤ Kb.wOf (ranked R S) x := Kb.wOf_one (fun r hr => by
  rcases List.mem_cons.mp hr with e | e
  · rw [e]
    exact Int.le_refl _
  · exact ok.wt r e) x
theorem and_occ {A : Bool} {l1 l2 : List Int} {X Y Z : Prop} (h : Z ↔ (A = true ∧ X)) (e : X ↔ (Kb.Occ l2 l1 ∧ Y)) : Z ↔ ((A && occB l2 l1) = true ∧ Y) := by
  rw [h, e, Bool.and_eq_true]
  by_cases o : Kb.Occ l2 l1
  · rw [occB_true o]
    exact ⟨fun z => ⟨⟨z.1, rfl⟩, z.2.2⟩, fun z => ⟨z.1.1, o, z.2⟩⟩
  · rw [occB_false o]
    exact ⟨fun z => absurd z.2.1 o, fun z => absurd z.1.2 (by decide)⟩
theorem ok_compare {C f fW fN fU fO : Addr} {fd fdW fdN fdU fdO : FuncData} {k : Nat} (F : Fun K "compare" "compare" sCompare f fd) (GW : FnOk P w K mg base CX0 k fW fdW ["order", "term"] (spWeighed K C)) (gW : mg "_weighed" = some (.ref fW)) (kW : PySem.W.keepIn K (.ref fW) = true) (bW : Binds K fdW ["order", "term"] [])
    (GN : FnOk P w K mg base CX0 k fN fdN ["order", "one", "other"] (spHeads K C)) (gN : mg "_way_by_heads" = some (.ref fN)) (kN : PySem.W.keepIn K (.ref fN) = true) (bN : Binds K fdN ["order", "one", "other"] [])
    (GU : FnOk P w K mg base CX0 k fU fdU ["one", "other"] (spFirstUn K)) (gU : mg "_first_unlike" = some (.ref fU)) (kU : PySem.W.keepIn K (.ref fU) = true) (bU : Binds K fdU ["one", "other"] [])
    (GO : FnOk P w K mg base CX0 k fO fdO ["often", "least"] spOften) (gO : mg "_has_as_often" = some (.ref fO)) (kO : PySem.W.keepIn K (.ref fO) = true) (bO : Binds K fdO ["often", "least"] []) (m_isinstance : mg "isinstance" = none) (m_int : mg "int" = none) (n : Nat) : FnOk P w K mg base CX0 (k + 1) f fd ["order", "one", "other"] (spCmp K C n) := by
  refine F.ok scCompare (fun vs H Q E h => ?_) (fun cdv A outer s H vs Q E hr h => ?_)
  · obtain ⟨o, R, S, s, t, x, y, rfl, _⟩ := h
    rfl
  · obtain ⟨o, R, S, t, u, x, y, rfl, two, _, q⟩ := h
    have hu := hu64 hr
    refine ⟨_, (pss_cons (ps_set (i := 3) scCompare.nd rfl (.inl rfl) pe_bl)
    (pss_cons (ps_set (i := 4) scCompare.nd rfl (.inl rfl) pe_bl)
    (pss_cons (ps_while PassesOwn.never (pt_cmpR (op_neD hu) (pv 1) (pv 2) (nomark _)) (pss_cons (ps_asg (pe_call GW hr (by rfl) gW kW bW .nil pass0 (pa_cons (pv 0) (pa_cons (pv 1) pa_nil))) (pg_tup rfl (pgs_cons (pg_name (i := 5) scCompare.nd rfl (.inl rfl)) (pgs_cons (pg_name (i := 6) scCompare.nd rfl (.inl rfl)) pgs_nil))))
      (pss_cons (ps_asg (pe_call GW hr (by rfl) gW kW bW .nil pass0 (pa_cons (pv 0) (pa_cons (pv 2) pa_nil))) (pg_tup rfl (pgs_cons (pg_name (i := 7) scCompare.nd rfl (.inl rfl)) (pgs_cons (pg_name (i := 8) scCompare.nd rfl (.inl rfl)) pgs_nil))))
      (pss_cons (ps_set (i := 3) scCompare.nd rfl (.inl rfl) (pe_and (pv 3) (pe_one (pe_call GO hr (by rfl) gO kO bO .nil pass0 (pa_cons (pv 6) (pa_cons (pv 8) pa_nil))))))
      (pss_cons (ps_set (i := 4) scCompare.nd rfl (.inl rfl) (pe_and (pv 4) (pe_one (pe_call GO hr (by rfl) gO kO bO .nil pass0 (pa_cons (pv 8) (pa_cons (pv 6) pa_nil))))))
      (pss_cons (ps_set (i := 9) scCompare.nd rfl (.inl rfl) (pe_call GN hr (by rfl) gN kN bN .nil pass0 (pa_cons (pv 0) (pa_cons (pe_tup (pa_cons (pv 5) (pa_cons (pv 1) pa_nil))) (pa_cons (pe_tup (pa_cons (pv 7) (pa_cons (pv 2) pa_nil))) pa_nil)))))
      (pss_cons (ps_if (pt_cmpR op_notN (pv 9) pe_non (nomark _))
        (pss_one (ps_ret (pe_ifExp (pt_ifExp (pt_cmpR op_eq (pv 9) pe_str (nomark _)) (pt_val (pv 3)) (pt_val (pv 4))) (pv 9) pe_non))) pss_nil)
      (pss_cons (ps_if (PW.pt (pw_or (pt_val (pe_callB call_isi (by rfl) m_isinstance (by decide +kernel) (pa_cons (pv 1) (pa_cons (pe_bltn (v := .ty "int") (by rfl) m_int (by decide +kernel) rfl) pa_nil)))) (pw_or1 (pt_val (pe_callB call_isi (by rfl) m_isinstance (by decide +kernel) (pa_cons (pv 2) (pa_cons (pe_bltn (v := .ty "int") (by rfl) m_int (by decide +kernel) rfl) pa_nil)))))))
        (pss_one (ps_ret pe_non)) pss_nil)
      (pss_one (ps_asg (pe_call GU hr (by rfl) gU kU bU .nil pass0 (pa_cons (pv 1) (pa_cons (pv 2) pa_nil))) (pg_tup rfl (pgs_cons (pg_name (i := 1) scCompare.nd rfl (.inl rfl)) (pgs_cons (pg_name (i := 2) scCompare.nd rfl (.inl rfl)) pgs_nil)))))))))))))
    (pss_one (ps_ret pe_str))))), ?_⟩
    have nd : ((ranked R S).map (·.1)).Nodup := two.ok.nd
    have one := wOf1 two.ok
    have sl := @Kb.same_len _ nd
    have injA := @Kb.inj_of _ nd
    generalize ew : Kb.wOf (ranked R S) = ww at q one
    generalize ep : Kb.pOf (ranked R S) = pp at q
    refine while_g (fun m σ G => ∃ (A B : Bool) (t' u' : T) (x' y' : V) (v5 v6 v7 v8 v9 : Option V), σ = [some (.ref o), some x', some y', some (.bl A), some (.bl B), v5, v6, v7, v8, v9] ∧ Same H G ∧ Two K C G o R S t' u' x' y' ∧
      (Kb.ab ww pp t u ↔ (A = true ∧ Kb.ab ww pp t' u')) ∧ (Kb.ab ww pp u t ↔ (B = true ∧ Kb.ab ww pp u' t')) ∧ (t' = u' ↔ t = u) ∧ t'.size = m) ⟨_, true, true, t, u, x, y, none, none, none, none, none, rfl, fun b o e => e, two, ⟨fun z => ⟨rfl, z⟩, fun z => z.2⟩, ⟨fun z => ⟨rfl, z⟩, fun z => z.2⟩, Iff.rfl, rfl⟩ ?_ ?_
    · rintro m σ G ⟨A0, B0, t', u', x', y', v5, v6, v7, v8, v9, rfl, sm, two', hA, hB, hE, rfl⟩
      have sht := T.shaped two'.ns (by have := two'.ds; omega)
      have shu := T.shaped two'.nt (by have := two'.dt; omega)
      refine ⟨x', rfl, y', rfl, t'.d, u'.d, Tm.dp _ _ two'.hs, Tm.dp _ _ two'.ht, sht, shu, _, rfl, ?_⟩
      by_cases tu : t' = u'
      · have ev : (!PyData.eqv t'.d u'.d) = false := by
          rw [← tu, eqv_one sht]
          rfl
        rw [ev]
        refine iteF ?_
        have e := hE.mp tu
        subst e
        rw [Kb.word_refl] at q
        exact q G sm
      have ev : (!PyData.eqv t'.d u'.d) = true := by
        rw [eqv_ne tu]
        rfl
      rw [ev]
      refine iteT ?_
      have inj := injA two'.ws two'.wt
      rw [ep] at inj
      refine ⟨.ref o, rfl, x', rfl, o, R, S, t', x', rfl, two'.ord, two'.ok, two'.hs, two'.ws, two'.zs, fun H1 pr1 od1 ks sm1 nod1 sq1 e1 c1 => ⟨pr1, _, rfl, sq1, rfl, _, _, rfl, _, _, rfl, rfl, ?_⟩⟩
      have two1 := two'.same sm1
      refine ⟨.ref o, rfl, y', rfl, o, R, S, u', y', rfl, two1.ord, two1.ok, two1.ht, two1.wt, two1.zt, fun H2 pr2 od2 ls sm2 nod2 sq2 e2 c2 => ⟨pr2, _, rfl, sq2, rfl, _, _, rfl, _, _, rfl, rfl, ?_⟩⟩
      have two2 := two1.same sm2
      have ne : od1 ≠ od2 := ne_of_none e1 nod2
      replace e1 := sm2 _ _ e1
      have s02 : Same H H2 := fun b o e => sm2 _ _ (sm1 _ _ (sm _ _ e))
      clear nod1 nod2 sq1 sq2 sm1 sm2 two1 two' sm
      refine tAndV_var (b := occB u'.vars t'.vars) rfl (fun Q' h => ⟨.ref od1, rfl, .ref od2, rfl, od1, od2, ks, ls, t'.vars, u'.vars, rfl, ne, e1, e2, c1, c2, fun G2 sg => h G2 sg⟩) fun H3 s3 => ?_
      have e1' := s3 _ _ e1
      have e2' := s3 _ _ e2
      refine tAndV_var (b := occB t'.vars u'.vars) rfl (fun Q' h => ⟨.ref od2, rfl, .ref od1, rfl, od2, od1, ls, ks, u'.vars, t'.vars, rfl, ne.symm, e2', e1', c2, c1, fun G2 sg => h G2 sg⟩) fun H4 s4 => ?_
      have s24 : Same H2 H4 := fun b o e => s4 _ _ (s3 _ _ e)
      have s04 : Same H H4 := fun b o e => s24 _ _ (s02 _ _ e)
      replace two2 := two2.same s24
      clear e1 e2 e1' e2' c1 c2 s3 s4 s24 s02
      refine ⟨.ref o, rfl, _, rfl, x', rfl, (by show 2 ≤ sizeLine; decide), fun p1 n1 => ?_⟩
      have s5 : Same H4 (upd H4 p1 (.tup [.int (Kb.W (Kb.wOf (ranked R S)) t'), x'])) := same_new (fun b o e => e) n1 _
      have m1 : (upd H4 p1 (.tup [.int (Kb.W (Kb.wOf (ranked R S)) t'), x'])) p1 = some (.tup [.int (Kb.W (Kb.wOf (ranked R S)) t'), x']) := upd_same
      generalize upd H4 p1 (.tup [.int (Kb.W (Kb.wOf (ranked R S)) t'), x']) = H5 at s5 m1
      refine ⟨_, rfl, y', rfl, (by show 2 ≤ sizeLine; decide), fun p2 n2 => ?_⟩
      have s6 : Same H5 (upd H5 p2 (.tup [.int (Kb.W (Kb.wOf (ranked R S)) u'), y'])) := same_new (fun b o e => e) n2 _
      have m2 : (upd H5 p2 (.tup [.int (Kb.W (Kb.wOf (ranked R S)) u'), y'])) p2 = some (.tup [.int (Kb.W (Kb.wOf (ranked R S)) u'), y']) := upd_same
      replace m1 := s6 _ _ m1
      generalize upd H5 p2 (.tup [.int (Kb.W (Kb.wOf (ranked R S)) u'), y']) = H6 at s6 m1 m2
      have s46 : Same H4 H6 := fun b o e => s6 _ _ (s5 _ _ e)
      have s06 : Same H H6 := fun b o e => s46 _ _ (s04 _ _ e)
      replace two2 := two2.same s46
      refine ⟨o, p1, p2, R, S, t', u', x', y', rfl, two2, .inl (.inl m1), .inl (.inl m2), ?_⟩
      clear s5 s6 s46 m1 m2 n1 n2 s04
      rw [ew, ep]
      have oA : Kb.ab ww pp t' u' → Kb.Occ u'.vars t'.vars := Kb.ab_occ
      have oB : Kb.ab ww pp u' t' → Kb.Occ t'.vars u'.vars := Kb.ab_occ
      have hA' := and_occ (l1 := t'.vars) (l2 := u'.vars) (Y := Kb.ab ww pp t' u') hA ⟨fun z => ⟨oA z, z⟩, fun z => z.2⟩
      have hB' := and_occ (l1 := u'.vars) (l2 := t'.vars) (Y := Kb.ab ww pp u' t') hB ⟨fun z => ⟨oB z, z⟩, fun z => z.2⟩
      have tne : t ≠ u := fun z => tu (hE.mpr z)
      rcases Kb.hd_kind (w := ww) (p := pp) t' u' with hk | hk | hk
      · obtain ⟨k1, k2⟩ := Kb.hd_above one inj hk
        rw [hk]
        refine ⟨_, rfl, rfl, true, rfl, iteT ?_⟩
        refine ⟨_, rfl, rfl, _, rfl, ?_⟩
        rw [decide_eq_true rfl]
        refine iteT ⟨_, rfl, _, rfl, ?_⟩
        have nB : ¬ Kb.ab ww pp u t := fun z => k2 (hB.mp z).2
        cases e : (A0 && occB u'.vars t'.vars) with
        | true =>
          refine iteT ⟨_, rfl, ?_⟩
          have a0 := Bool.and_eq_true_iff.mp e
          have oc : Kb.Occ u'.vars t'.vars := by
            by_cases z : Kb.Occ u'.vars t'.vars
            · exact z
            · rw [occB_false z] at a0
              exact absurd a0.2 (by decide)
          rw [Kb.word_above (hA.mpr ⟨a0.1, k1.mpr oc⟩)] at q
          exact q H6 s06
        | false =>
          refine iteF ?_
          rw [Kb.word_none tne (fun z => by
            have := (hA'.mp z).1
            rw [e] at this
            cases this) nB] at q
          exact q H6 s06
      · obtain ⟨k1, k2⟩ := Kb.hd_below one inj hk
        rw [hk]
        refine ⟨_, rfl, rfl, true, rfl, iteT ?_⟩
        refine ⟨_, rfl, rfl, _, rfl, ?_⟩
        rw [decide_eq_false (fun z => Kb.nAB z.symm)]
        refine iteF ⟨_, rfl, _, rfl, ?_⟩
        have nA : ¬ Kb.ab ww pp t u := fun z => k2 (hA.mp z).2
        cases e : (B0 && occB t'.vars u'.vars) with
        | true =>
          refine iteT ⟨_, rfl, ?_⟩
          have a0 := Bool.and_eq_true_iff.mp e
          have oc : Kb.Occ t'.vars u'.vars := by
            by_cases z : Kb.Occ t'.vars u'.vars
            · exact z
            · rw [occB_false z] at a0
              exact absurd a0.2 (by decide)
          rw [Kb.word_below (hB.mpr ⟨a0.1, k1.mpr oc⟩)] at q
          exact q H6 s06
        | false =>
          refine iteF ?_
          rw [Kb.word_none tne nA (fun z => by
            have := (hB'.mp z).1
            rw [e] at this
            cases this)] at q
          exact q H6 s06
      · rw [hk]
        have we := Kb.hd_non hk
        refine ⟨_, rfl, rfl, false, rfl, iteF ?_⟩
        refine ⟨x', rfl, ?_⟩
        cases t' with
        | v i =>
          cases (show x' = .int i from two2.hs)
          refine ⟨_, .ty "int", .type "int", .type "int", true, rfl, .ty "int", .base (.int i), kitII, true, rfl, ?_⟩
          refine iteT (iteT ?_)
          rw [Kb.word_none tne (fun z => (hA.mp z).2) (fun z => Kb.ab_v2 we.symm (hB.mp z).2)] at q
          exact q H6 s06
        | f nm ss =>
        refine ⟨_, .ty "int", .type "tuple", .type "int", false, rfl, .ty "int", tm_tuple two2.hs, kitTI, false, rfl, ?_⟩
        refine iteF ⟨y', rfl, ?_⟩
        cases u' with
        | v i =>
          cases (show y' = .int i from two2.ht)
          refine ⟨_, .ty "int", .type "int", .type "int", true, rfl, .ty "int", .base (.int i), kitII, true, rfl, ?_⟩
          refine iteT ?_
          rw [Kb.word_none tne (fun z => Kb.ab_v2 we (hA.mp z).2) (fun z => (hB.mp z).2)] at q
          exact q H6 s06
        | f mm ts =>
        refine ⟨_, .ty "int", .type "tuple", .type "int", false, rfl, .ty "int", tm_tuple two2.ht, kitTI, false, rfl, ?_⟩
        refine iteF ?_
        have xy := Kb.hd_non_name hk
        subst xy
        have len : ss.length = ts.length := sl two2.ws two2.wt
        have nS : (nameOk nm && T.namedL ss) = true := two2.ns
        have nT : (nameOk nm && T.namedL ts) = true := two2.nt
        have dS : 1 + T.depL ss ≤ 60 := two2.ds
        have dT : 1 + T.depL ts ≤ 60 := two2.dt
        have zS : 1 + T.sizeL ss ≤ 10000 := two2.zs
        have zT : 1 + T.sizeL ts ≤ 10000 := two2.zt
        refine ⟨x', rfl, y', rfl, nm, nm, ss, ts, x', y', rfl, two2.hs, two2.ht, len, fun z => tu (by rw [z]), (Bool.and_eq_true_iff.mp nS).2, (Bool.and_eq_true_iff.mp nT).2, by omega, by omega, fun H7 pr i a b va vb s7 pre ha hb nab sq ta tb => ⟨pr, _, rfl, sq, rfl, _, _, rfl, _, _, rfl, rfl, ?_⟩⟩
        have ma := List.mem_of_getElem? ha
        have mb := List.mem_of_getElem? hb
        have z1 := T.size_mem ma
        have z2 := T.size_mem mb
        have d1 := T.dep_mem ma
        have d2 := T.dep_mem mb
        refine ⟨_, by show a.size < 1 + T.sizeL ss; omega, _, _, a, b, va, vb, _, _, _, _, _, rfl, fun b o e => s7 _ _ (s06 _ _ e), ⟨two2.ord.same s7, two2.ok, ta, tb, Kb.wfL_mem two2.ws.2 ma, Kb.wfL_mem two2.wt.2 mb, T.named_mem ma (Bool.and_eq_true_iff.mp nS).2, T.named_mem mb (Bool.and_eq_true_iff.mp nT).2, by omega, by omega, by omega, by omega⟩, and_occ hA (Kb.ab_down we pre ha hb nab), and_occ hB (Kb.ab_down we.symm pre.symm hb ha (Ne.symm nab)), ?_, rfl⟩
        exact ⟨fun z => absurd z nab, fun z => absurd z tne⟩
    · rintro σ H Q Q' imp ⟨v, e, v2, e2, d, d', h1, h2, h3, h4, b, hb, hq⟩
      exact ⟨v, e, v2, e2, d, d', h1, h2, h3, h4, b, hb, imp _ _ hq⟩
end
end Ad

/-! The end of a law of such a def where some defs grow tables of code objects. -/
namespace Ad
open PySem PySem.Spec PySem.Calls PyProof.Rows L2 GxR
abbrev oList (us : List Value) : Obj := { cls := .type "list", data := .seq us.toArray }
abbrev oTab : Obj := { cls := .none, data := .fields #[] }
/-- an abstract heap over h: the list of us at a, locked (or not told), and empty tables -/
structure First (h : Heap) (K : PySem.W.Frag) (a : Addr) (us : List Value) (ns : List Int) (Ts : List Addr) (H : Hp) : Prop where
  told : ∀ b u, H b = some u → (b = a ∧ u = .frz (oList us) (.lst (ns.map V.int))) ∨ (b ∈ Ts ∧ u = .tbl #[])
  tabs : ∀ b ∈ Ts, H b = some (.tbl #[])
  offK : ∀ b u, H b = some u → K.lookup b = none
section
variable {h : Heap} {K : PySem.W.Frag} {a : Addr} {us : List Value} {ns : List Int} {Ts : List Addr} {H : Hp}
/-- an object that is neither is not tracked -/
theorem First.off (F : First h K a us ns Ts H) (ha : h.get? a = some (oList us)) (ht : ∀ b ∈ Ts, h.get? b = some oTab) {b : Addr} {o : Obj} (e : h.get? b = some o) (n1 : o ≠ oList us) (n2 : o ≠ oTab) : H b = none := by
  cases q : H b with
  | none => rfl
  | some u =>
    rcases F.told b u q with ⟨z, _⟩ | ⟨z, _⟩
    · rw [z, ha] at e
      exact absurd (Option.some.inj e).symm n1
    · rw [ht b z] at e
      exact absurd (Option.some.inj e).symm n2
theorem First.offC (F : First h K a us ns Ts H) (ha : h.get? a = some (oList us)) (ht : ∀ b ∈ Ts, h.get? b = some oTab) {b : Addr} {o : Obj} (e : h.get? b = some o) (n1 : o.cls ≠ .type "list") (n2 : o.cls ≠ .none) : H b = none :=
  F.off ha ht e (fun z => n1 (by rw [z])) fun z => n2 (by rw [z])
theorem First.dict (F : First h K a us ns Ts H) (ha : h.get? a = some (oList us)) (ht : ∀ b ∈ Ts, h.get? b = some oTab) {b : Addr} {m : Str → Option Value} (e : h.Ns b m) : (hidT h H).Ns b m := by
  obtain ⟨o, es, ep, e, d, r⟩ := e
  refine ⟨o, es, ep, hidT_get e (F.off ha ht e (fun z => ?_) fun z => ?_), d, r⟩
  · rw [z] at d
    cases d
  · rw [z] at d
    cases d
end
theorem lawGT {P : Program} {w : World} {K : PySem.W.Frag} {mg mb : Str → Option Value} {CX : CXT} {k : Nat} {fa a : Addr} {cs : List (Addr × Addr)} {fd : FuncData} {x : Str} {sp : Sp} {s : Shared} {us : List Value} {ns : List Int}
    (inK : K.In s.heap) (gl : s.heap.Ns mainGlobals mg) (bl : s.heap.Ns builtinsNs mb) (boot : ∀ x : Str, x ≠ "__name__" → mb x = bootBuiltins x) (lim : s.heap.NoLimit) (quiet : s.gens = #[])
    (tabs : ∀ p ∈ cs, s.heap.get? p.2 = some oTab) (off : ∀ p ∈ cs, K.lookup p.2 = none) (codes : ∀ p ∈ cs, PySem.W.CodeHd s.heap p.1 p.2)
    (top : ∃ (bm : Addr) (ob : Obj), mg "__builtins__" = some (.ref bm) ∧ bm ≠ builtinsNs ∧ s.heap.get? bm = some ob ∧ ob.cls = .type "module" ∧ ob.dict = some builtinsNs ∧ ob.data = .plain)
    (script : s.heap.get? a = some (oList us)) (nums : IntsAre us ns) (few : ns.length ≤ sizeLine) (room : Room k callerA)
    (F : ∀ base : Heap, K.In base → base.Ns mainGlobals mg → (∀ p ∈ cs, TabB base mg p.1 p.2) → FnG P w K mg base CX k fa fd [x] sp) (binds : ∀ (s : Shared) (u : Value), BindsTo s fd ⟨[u], []⟩ [(x, u)])
    (ask : ∀ H : Hp, (∀ p ∈ cs, H p.2 = some (.tbl #[])) → SqL K H a (ns.map V.int) → sp [.ref a] H (fun v _ => v = .bl true) fun _ _ _ => False) (noX : ∀ H e s', CX [] H s (fun _ _ _ => False) e s' → False) :
    codeAny (model P w) callerA (.call (.ref fa) ⟨[.ref a], []⟩) (fun r s' => r = .ok (.ret (.bool true)) ∧ OldK s.heap s'.heap ∧ s'.os = s.os ∧ AllBare s'.gens) s := by
  have rel := vals_ints nums
  have len := nums.length
  have ht : ∀ b ∈ cs.map (·.2), s.heap.get? b = some oTab := by
    intro b hb
    obtain ⟨p, hp, rfl⟩ := List.mem_map.mp hb
    exact tabs p hp
  have aOut : a ∉ cs.map (·.2) := fun z => by
    have e := ht a z
    rw [script] at e
    cases e
  have gone : ∀ {q : Prop} (b : Addr), b ∈ ([] : List Addr) → q := fun {q} b hb => absurd hb (by simp)
  have main : ∀ H : Hp, First s.heap K a us ns (cs.map (·.2)) H → SqL K H a (ns.map V.int) →
      codeAny (model P w) callerA (.call (.ref fa) ⟨[.ref a], []⟩) (fun r s' => r = .ok (.ret (.bool true)) ∧ OldK s.heap s'.heap ∧ s'.os = s.os ∧ AllBare s'.gens) s := by
    intro H D seq
    have ok : HOk P w H s.heap := by
      intro b u e
      rcases D.told b u e with ⟨rfl, rfl⟩ | ⟨z, rfl⟩
      · exact ⟨script, by rw [List.length_map]; exact few, us, _, rel, script⟩
      · exact ht b z
    have kin : K.In (hidT s.heap H) := by
      intro b o e
      refine hidT_get (inK b o e) ?_
      cases q : H b with
      | none => rfl
      | some u =>
        rw [D.offK b u q] at e
        cases e
    have tb : ∀ p ∈ cs, TabB (hidT s.heap H) mg p.1 p.2 := by
      intro p hp
      constructor
      · obtain ⟨o, vs, file, tf, flags, tg, inF, text, tt, e, c, r⟩ := codes p hp
        exact ⟨o, vs, file, tf, flags, tg, inF, text, tt, hidT_get e (D.offC script ht e (by rw [c]; decide) (by rw [c]; intro z; cases z)), c, r⟩
      · obtain ⟨bm, ob, b1, b2, b3, b4, b5, b6⟩ := top
        refine ⟨bm, ob, b1, b2, fun z => ?_, fun z => ?_, hidT_get b3 (D.offC script ht b3 (by rw [b4]; decide) (by rw [b4]; intro z; cases z)), b4, b5, b6⟩
        · obtain ⟨o, es, ep, e, d, _⟩ := gl
          rw [z, e] at b3
          cases b3
          rw [d] at b6
          cases b6
        · rw [z, tabs p hp] at b3
          cases b3
          cases b4
      · intro z
        obtain ⟨o, es, ep, e, d, _⟩ := gl
        rw [z, tabs p hp] at e
        cases e
        cases d
    have mod : L2.Mod K mg (hidT s.heap H) := by
      obtain ⟨mc, l1, l2⟩ := lim
      exact ⟨kin, D.dict script ht gl, ⟨mb, D.dict script ht bl, boot⟩, mc, D.dict script ht l1, l2⟩
    have env : Env0 P w K mg (hidT s.heap H) callerA [] s H := ⟨rfl, mod, fun b o e => of_hidT e, Nat.le_of_eq (hidT_size _ _), trivial, fun b hb => gone b hb, ok, .of_eq quiet⟩
    have run := (F _ kin (D.dict script ht gl) tb).run callerA [] s H ⟨[.ref a], []⟩ [.ref a] [.ref a] _ _ rfl room env (binds s (.ref a)) (.cons rfl .nil) (ask H (fun p hp => D.tabs _ (List.mem_map.mpr ⟨p, hp, rfl⟩)) seq)
    refine codeAny_mono run fun r s' back => ?_
    match r, back with
    | .error e, back => exact (noX H e s' back).elim
    | .ok .next, back => exact False.elim back
    | .ok .brk, back => exact False.elim back
    | .ok .cont, back => exact False.elim back
    | .ok (.ret u), ⟨v, H', os, bare, un, ok', rv, (q : v = .bl true)⟩ =>
      subst q
      obtain rfl : u = Value.bool true := rv
      have stays : ∀ b o, b ∉ cs.map (·.2) → s.heap.get? b = some o → s'.heap.get? b = some o := by
        intro b o nb e
        cases q : H b with
        | none => exact un.keep b o e q (fun z => gone b z) (by simp)
        | some u =>
          rcases D.told b u q with ⟨rfl, rfl⟩ | ⟨z, _⟩
          · have e2 := (ok' b _ (un.frzs b _ _ q)).1
            rw [script] at e
            cases e
            exact e2
          · exact absurd z nb
      have grew : ∀ b ∈ cs.map (·.2), ∃ more : Array Value, s'.heap.get? b = some { cls := .none, data := .fields more } := by
        intro b hb
        obtain ⟨more, z⟩ := un.tbls b #[] (D.tabs b hb)
        exact ⟨_, ok' b _ z⟩
      refine ⟨rfl, ⟨fun b o e => ?_, fun b o e => ?_⟩, os, bare⟩
      · by_cases hb : b ∈ cs.map (·.2)
        · obtain ⟨more, z⟩ := grew b hb
          obtain ⟨p, hp, rfl⟩ := List.mem_map.mp hb
          rw [tabs p hp] at e
          cases e
          refine .inr (.inl ⟨((codes p hp).tab (tabs p hp)).isCodeTable, rfl, #[], more, rfl, ?_⟩)
          rw [Array.empty_append]
          exact z
        · exact .inl (stays b o hb e)
      · by_cases hb : b ∈ cs.map (·.2)
        · obtain ⟨more, z⟩ := grew b hb
          exact ⟨_, z⟩
        · exact ⟨o, stays b o hb e⟩
  have offT : ∀ b ∈ cs.map (·.2), K.lookup b = none := by
    intro b hb
    obtain ⟨p, hp, rfl⟩ := List.mem_map.mp hb
    exact off p hp
  by_cases look : K.lookup a = none
  · refine main (fun b => if b ∈ cs.map (·.2) then some (.tbl #[]) else if b = a then some (.frz (oList us) (.lst (ns.map V.int))) else none) ⟨fun b u e => ?_, fun b hb => if_pos hb, fun b u e => ?_⟩ (.inl (.inr ⟨oList us, (if_neg aOut).trans (if_pos rfl)⟩))
    all_goals
      by_cases hb : b ∈ cs.map (·.2)
      · have e' := (if_pos hb).symm.trans e
        first
          | exact .inr ⟨hb, (Option.some.inj e').symm⟩
          | exact offT b hb
      · have e1 := (if_neg hb).symm.trans e
        by_cases hc : b = a
        · have e' := (if_pos hc).symm.trans e1
          first
            | exact .inl ⟨hc, (Option.some.inj e').symm⟩
            | exact hc ▸ look
        · exact nomatch (if_neg hc).symm.trans e1
  · obtain ⟨o, e⟩ := Option.ne_none_iff_exists'.mp look
    have e2 := inK a o e
    rw [script] at e2
    cases e2
    refine main (fun b => if b ∈ cs.map (·.2) then some (.tbl #[]) else none) ⟨fun b u e => ?_, fun b hb => if_pos hb, fun b u e => ?_⟩ (.inr ⟨_, us.toArray, _, e, rfl, rfl, rfl, ?_, by simpa using rel⟩)
    · by_cases hb : b ∈ cs.map (·.2)
      · exact .inr ⟨hb, (Option.some.inj ((if_pos hb).symm.trans e)).symm⟩
      · exact nomatch (if_neg hb).symm.trans e
    · by_cases hb : b ∈ cs.map (·.2)
      · exact offT b hb
      · exact nomatch (if_neg hb).symm.trans e
    · rw [List.size_toArray, len]
      exact few
/-- what is known of the law at the head's heap -/
def LawGAt (l : PySem.W.OpenLaw) (w : World) (K : PySem.W.Frag) (CX : CXT) (k n : Nat) (x : Str) (mg : Str → Option Value) (fa : Addr) (h : Heap) : Prop :=
  ∃ (fd : FuncData) (cs : List (Addr × Addr)) (sp : Sp), (∀ p ∈ cs, h.get? p.2 = some oTab) ∧ (∀ p ∈ cs, K.lookup p.2 = none) ∧ (∀ p ∈ cs, PySem.W.CodeHd h p.1 p.2) ∧ (∀ (s : Shared) (u : Value), BindsTo s fd ⟨[u], []⟩ [(x, u)]) ∧
    (∀ (H : Hp) (a : Addr) (ns : List Int), ns.length ≤ n → (∀ p ∈ cs, H p.2 = some (.tbl #[])) → SqL K H a (ns.map V.int) → sp [.ref a] H (fun v _ => v = .bl true) fun _ _ _ => False) ∧
    ∀ base : Heap, K.In base → base.Ns mainGlobals mg → (∀ p ∈ cs, TabB base mg p.1 p.2) → FnG l.prog w K mg base CX k fa fd [x] sp
theorem walkGT {l : PySem.W.OpenLaw} {n k : Nat} {q : Program} {loose : List Str} {XP : (Str → Option Value) → Heap → Prop} {YP : World → Heap → Prop} {d : DefRec} {CX : World → CXT} {x : Str}
    (most : l.most = some n) (short : n ≤ sizeLine) (plain : d.params.defaults = []) (room : Room k callerA)
    (F : ∀ (w : World) (mg : Str → Option Value) (fa : Addr) (h : Heap), YP w h → h.Ns mainGlobals mg → mg d.name = some (.ref fa) → ∃ K : PySem.W.Frag, K.In h ∧ LawGAt l w K (CX w) k n x mg fa h)
    (noX : ∀ (w : World) (H : Hp) (s : Shared) (e : Value) (s' : Shared), CX w [] H s (fun _ _ _ => False) e s' → False) : PySem.W.WalkO q loose XP YP l.row.toRowW d [] (fun f vs => PySem.call f vs) := by
  refine Att.attach_callB most plain fun w s0 s mg mb fa o pm cd doc a us ns G Y ho hd hcd hmg list nums few bits quiet => ?_
  obtain ⟨K, inK, fd, cs, sp, t1, t2, t3, b, ask, prom⟩ := F w mg fa _ Y G.T.g hmg
  exact lawGT inK G.T.g G.T.b G.T.builtins G.T.nolimit quiet t1 t2 t3 G.T.bmain list nums (Nat.le_trans few short) room prom b (fun H => ask H a ns few) fun H e s' => noX w H s e s'
end Ad

/-! The law keeps its word. -/
namespace Ad
open PySem PySem.Spec PySem.Calls PyProof.Rows L2
abbrev sLaw : Stmt := topS 21
theorem scLaw : FnScope ["_law_script", "_law_pen_here", "_law_some", "_law_more", "_law_given", "_law_truths", "_law_order", "_law_odd", "_law_bad", "_law_good", "_law_wrong"] ["_law_script"] (defScope sLaw) := ⟨rfl, rfl, rfl, by decide +kernel, rfl, by decide +kernel, by decide +kernel⟩
abbrev lamQ : Str := (envOfC "law" (defScope sLaw) 0 0 .none).qual ++ "<lambda>"
theorem lst_ordI {K : PySem.W.Frag} {C : Addr} {H : Hp} {g o : Addr} {ys zs : List V} {R S : List Row} (h : H g = some (.lst ys)) (hI : OrdI K C H o R S) : OrdI K C (upd H g (.lst zs)) o R S := by
  obtain ⟨dx, bt, br, bw, bp, vs1, vs2, e1, e2, e3, e4, e5, e6, e7⟩ := hI.ex
  have k : TK H (upd H g (.lst zs)) := TK.lst h _
  have n : ∀ {q : Addr} {ob : HO}, H q = some ob → (∀ l, ob ≠ .lst l) → (upd H g (.lst zs)) q = some ob := fun {q ob} e hn => by
    rw [upd_ne (fun z => by rw [z, h] at e; exact hn _ (Option.some.inj e).symm)]
    exact e
  exact ⟨⟨dx, bt, br, bw, bp, vs1, vs2, n e1 (fun l z => nomatch z), k.sq e2, e3.mono (RowV.mono k), k.sq e4, e5.mono (RowV.mono k), n e6 (fun l z => nomatch z), n e7 (fun l z => nomatch z)⟩⟩
def truthsR : List Row := [("p", 1, 1)]
def oddR : List Row := [("0", 0, 1), ("", 0, 1), ("A b", 0, 1)]
theorem given_ok : OOk goodR truthsR := ⟨by decide +kernel, by decide +kernel, ⟨_, List.mem_cons_self, rfl⟩, by decide⟩
theorem odd_ok : OOk oddR [] := ⟨by decide +kernel, by decide +kernel, ⟨_, List.mem_cons_self, rfl⟩, by decide⟩
theorem odd_above : Kb.word (Kb.wOf (ranked oddR [])) (Kb.pOf (ranked oddR [])) (.f "A b" []) (.f "" []) = .str "above" := by
  have w1 : Kb.wOf (ranked oddR []) "A b" = 1 := Kb.wOf_mem (r := (("A b" : Str), 0, 1)) odd_ok.nd (by unfold ranked oddR; simp)
  have w2 : Kb.wOf (ranked oddR []) "" = 1 := Kb.wOf_mem (r := (("" : Str), 0, 1)) odd_ok.nd (by unfold ranked oddR; simp)
  have p1 : Kb.pOf (ranked oddR []) "A b" = (3 : Nat) := Kb.pOf_at (r := (("A b" : Str), 0, 1)) odd_ok.nd rfl
  have p2 : Kb.pOf (ranked oddR []) "" = (2 : Nat) := Kb.pOf_at (r := (("" : Str), 0, 1)) odd_ok.nd rfl
  refine Kb.word_above ⟨fun i => Nat.zero_le _, .inr ⟨?_, .inl ?_⟩⟩
  · show Kb.wOf (ranked oddR []) "" + 0 = Kb.wOf (ranked oddR []) "A b" + 0
    rw [w1, w2]
  · rw [p1, p2]
    decide
def rowP (r : Row) : PyData := .tuple [.str r.1, .int (r.2.1 : Int), .int r.2.2]
theorem rowV_dp {K : PySem.W.Frag} {H : Hp} {r : Row} {v : V} (h : RowV K H r v) : Dp K H v (rowP r) := by
  obtain ⟨b, rfl, hb⟩ := h
  exact .tup hb (.cons (.str _) (.cons (.int _) (.cons (.int _) .nil)))
theorem rowsV_dp {K : PySem.W.Frag} {H : Hp} : ∀ {R : List Row} {vs : List V}, F2 (RowV K H) R vs → DpAll K H vs (R.map rowP)
  | [], _, h => by
    cases (show _ = [] from h)
    exact .nil
  | _ :: _, _, ⟨_, _, rfl, h, t⟩ => .cons (rowV_dp h) (rowsV_dp t)
def rightD : PyData := .tuple [.tuple (goodR.map rowP), .tuple (truthsR.map rowP)]
theorem right_shaped : SeqAt.shaped rightD = true := by decide +kernel
theorem right_eqv : PyData.eqv rightD rightD = true := by decide +kernel
section
variable {P : Program} {w : World} {K : PySem.W.Frag} {mg : Str → Option Value} {base : Heap}
def spLaw (K : PySem.W.Frag) (Pt : Addr) : Sp := fun vs H Q _ => ∃ (a : Addr) (ns : List Int), vs = [.ref a] ∧ SqL K H a (ns.map V.int) ∧ ns.length ≤ 63 ∧ H Pt = some (.tbl #[]) ∧ ∀ H', Q (.bl true) H'
theorem ok_law {f c Pt C CR CN fE fO fW : Addr} {fd dO dW : FuncData} {j : Nat} (F : FunC K "law" "law" sLaw f (.ref c) fd) (TB : LamX.TabB base mg c Pt) {f1 f2 f3 : Addr} {d1 d2 d3 : FuncData}
    (hPen : Has P w K mg base (j + 3) "_law_pen" ["_law_script"] (Pn.spPen K) f1 d1) (hPick : Has P w K mg base (j + 3) "_law_pick" ["_law_pen_here", "_law_some"] (Pn.spPick K) f2 d2) (hCmp : Has P w K mg base (j + 3) "compare" ["order", "one", "other"] (spCmp K C 3) f3 d3)
    (FW : Fun K "_law_why" "_law_why" sWhy fW dW) (gW : mg "_law_why" = some (.ref fW)) (bW : Binds K dW ["_law_call"] [])
    (M : Mk K C fO) (GO : FnOk P w K mg base CX0 (j + 2) fO dO ["self", "things", "truths"] (spOInit K C)) (GX : FnOk P w K mg base (L2.CX P w) j fO dO ["self", "things", "truths"] (spOInitX K C CR)) (gO : mg "Order" = some (.ref C)) (bO : Binds K dO ["self", "things", "truths"] [])
    (T : Er K CR fE "row") (mR : mg "BadRow" = some (.ref CR)) (mN : mg "BadNumber" = some (.ref CN)) (xN : PySem.W.exmOne K (.ref CR) (.ref CN) = some false) (xR : PySem.W.exmOne K (.ref CR) (.ref CR) = some true)
    (cls : Cls K C) (na1 : NoAttr K C "things") (na2 : NoAttr K C "truths") (m_repr : mg "repr" = none) : FnG P w K mg base CX0 (j + 4) f fd ["_law_script"] (spLaw K Pt) := by
  obtain ⟨⟨oc, od, kV, doc, pm, an, cdW, ct, osl, rfl, lkW, hcW⟩, kW⟩ := FW
  refine fng_ofC F scLaw (fun vs H Q E h => ?_) (fun A outer s H vs Q E gd hr h => ?_)
  · obtain ⟨a, ns, rfl, _⟩ := h
    rfl
  · obtain ⟨a, ns, rfl, hS, few, tab, q⟩ := h
    have gd' : (A.deeper (envOfC "law" (defScope sLaw) s.heap.objs.size f (.ref c))).guards = some [] := deeper_guards gd
    have hu100 : (A.deeper (envOfC "law" (defScope sLaw) s.heap.objs.size f (.ref c))).units + 100 < cLine := by
      have := hr.un
      omega
    refine ⟨_, (pss_cons (ps_set (i := 1) scLaw.nd rfl (.inl rfl) (pe_call hPen.G hr (by rfl) hPen.g hPen.kp hPen.b .nil pass0 (pa_cons (pv 0) pa_nil)))
    (pss_cons (ps_set (i := 2) scLaw.nd rfl (.inl rfl) (pe_lst (pa_cons pe_non (pa_cons pe_int (pa_cons pe_str (pa_cons (pe_lst pa_nil) (pa_cons (pe_lst (pa_cons (pe_tup (pa_cons pe_str (pa_cons pe_int (pa_cons pe_int pa_nil)))) pa_nil)) (pa_cons (pe_lst (pa_cons (pe_tup (pa_cons pe_str (pa_cons pe_int (pa_cons pe_int pa_nil)))) pa_nil)) (pa_cons (pe_lst (pa_cons (pe_tup (pa_cons pe_str (pa_cons pe_int (pa_cons (pe_un un_neg pe_int) pa_nil)))) pa_nil)) (pa_cons (pe_lst (pa_cons (pe_tup (pa_cons pe_str (pa_cons (pe_un un_neg pe_int) (pa_cons pe_int pa_nil)))) (pa_cons (pe_tup (pa_cons pe_str (pa_cons pe_int (pa_cons pe_int pa_nil)))) pa_nil))) (pa_cons (pe_lst (pa_cons (pe_tup (pa_cons pe_str (pa_cons pe_int pa_nil))) pa_nil)) pa_nil)))))))))))
    (pss_cons (ps_set (i := 2) scLaw.nd rfl (.inl rfl) (pe_op op_cat (pv 2) (pe_lst (pa_cons (pe_lst (pa_cons (pe_tup (pa_cons pe_str (pa_cons pe_int (pa_cons pe_int pa_nil)))) (pa_cons (pe_tup (pa_cons pe_str (pa_cons pe_int (pa_cons pe_int pa_nil)))) pa_nil))) (pa_cons (pe_lst (pa_cons (pe_tup (pa_cons pe_str (pa_cons pe_int (pa_cons pe_int pa_nil)))) pa_nil)) (pa_cons (pe_lst (pa_cons (pe_tup (pa_cons pe_int (pa_cons pe_int (pa_cons pe_int pa_nil)))) pa_nil)) (pa_cons (pe_lst (pa_cons (pe_tup (pa_cons pe_str (pa_cons pe_bl (pa_cons pe_int pa_nil)))) pa_nil)) (pa_cons (pe_lst (pa_cons (pe_tup (pa_cons pe_str (pa_cons pe_int (pa_cons pe_non pa_nil)))) pa_nil)) pa_nil))))))))
    (pss_cons (ps_set (i := 2) scLaw.nd rfl (.inl rfl) (pe_op op_cat (pv 2) (pe_lst (pa_cons (pe_lst (pa_cons (pe_tup (pa_cons pe_str (pa_cons pe_int (pa_cons pe_int pa_nil)))) (pa_cons pe_non pa_nil))) (pa_cons (pe_disp (pps_cons pe_str pe_int pps_nil) rfl rfl (by simp) (by decide)) (pa_cons (pe_lst (pa_cons (pe_tup (pa_cons pe_str (pa_cons pe_int (pa_cons pe_int pa_nil)))) (pa_cons (pe_tup (pa_cons pe_str (pa_cons pe_int (pa_cons pe_bl pa_nil)))) pa_nil))) pa_nil))))))
    (C8.pss_cut (ps_set (i := 8) scLaw.nd rfl (.inr rfl) (pe_call hPick.G hr (by rfl) hPick.g hPick.kp hPick.b .nil pass0 (pa_cons (pv 1) (pa_cons (pv 2) pa_nil))))
    (pss_cons (ps_set (i := 3) scLaw.nd rfl (.inl rfl) (pe_lst (pa_cons pe_non (pa_cons pe_int (pa_cons pe_str (pa_cons (pe_lst (pa_cons (pe_tup (pa_cons pe_str (pa_cons pe_int (pa_cons pe_int pa_nil)))) pa_nil)) (pa_cons (pe_lst (pa_cons (pe_tup (pa_cons pe_str (pa_cons pe_int (pa_cons pe_int pa_nil)))) pa_nil)) (pa_cons (pe_lst (pa_cons (pe_tup (pa_cons pe_str (pa_cons pe_int (pa_cons pe_int pa_nil)))) (pa_cons (pe_tup (pa_cons pe_str (pa_cons pe_int (pa_cons pe_int pa_nil)))) pa_nil))) (pa_cons (pe_lst (pa_cons (pe_tup (pa_cons pe_str (pa_cons pe_int (pa_cons pe_int pa_nil)))) pa_nil)) (pa_cons (pe_lst (pa_cons (pe_tup pa_nil) pa_nil)) pa_nil))))))))))
    (pss_cons (ps_expr (pe_bm PySem.F.plainAttrs_list PySem.F.slot_list_append PySem.F.type_list_append mt_append (pv 3) (pa_cons (pe_lst (pa_cons (pe_tup (pa_cons pe_str (pa_cons pe_str (pa_cons pe_int pa_nil)))) pa_nil)) pa_nil)))
    (C8.pss_cut (ps_asg (pe_tup (pa_cons (pe_call hPick.G hr (by rfl) hPick.g hPick.kp hPick.b .nil pass0 (pa_cons (pv 1) (pa_cons (pv 3) pa_nil))) (pa_cons (pe_lst (pa_cons (pe_tup (pa_cons pe_str (pa_cons pe_int (pa_cons pe_int pa_nil)))) (pa_cons (pe_lst (pa_cons pe_str (pa_cons pe_int (pa_cons pe_int pa_nil)))) pa_nil))) pa_nil))) (pg_tup rfl (pgs_cons (pg_name (i := 10) scLaw.nd rfl (.inr rfl)) (pgs_cons (pg_name (i := 9) scLaw.nd rfl (.inr rfl)) pgs_nil))))
    (pss_cons (ps_if (pt_cmpR (op_neD (hu64 hr)) (LamX.pe_lamcall (T := [(Pt, lamQ)]) (TT := TWhy K CR) (k := j + 1) (Ng := ["_law_call", "e"]) (t := fun E => tMake C (spOInitX K C CR) [] E (tCons (tVar 8) (tCons (tVar 10) tNil))) (by rfl) gW kW lkW hcW bW scWhy rfl (.inl rfl) (why_gives gd' hu100 T mR mN m_repr xN xR) TB rfl (List.mem_singleton.mpr rfl) (fun p hp _ => by cases List.mem_singleton.mp hp; rfl) hr (LamX.lamS_by (sc := defScope sLaw) (by decide +kernel)) rfl (fun _ _ _ _ _ => rfl) (fun A outer s H E f c' hr2 => pe_make M GX hr2 (by rfl) gO bO .nil (passes_call (takes_of rfl rfl rfl rfl) (fun _ _ _ _ h => h)) (pa_cons (pv 8) (pa_cons (pv 10) pa_nil)))) (pe_tup (pa_cons pe_str (pa_cons (pe_callB (r := rReprS K) (call_reprS gd' (hu64 hr)) (by rfl) m_repr (by decide +kernel) (pa_cons (pv 8) pa_nil)) pa_nil))) (nomark _))
      (pss_one (ps_ret pe_bl)) pss_nil)
    (C8.pss_cut (ps_if (pt_cmpR (op_neD (hu64 hr)) (LamX.pe_lamcall (T := [(Pt, lamQ)]) (TT := TWhy K CR) (k := j + 1) (Ng := ["_law_call", "e"]) (t := fun E => tMake C (spOInitX K C CR) [] E (tCons (tVar 9) (tCons (tVar 10) tNil))) (by rfl) gW kW lkW hcW bW scWhy rfl (.inl rfl) (why_gives gd' hu100 T mR mN m_repr xN xR) TB rfl (List.mem_singleton.mpr rfl) (fun p hp _ => by cases List.mem_singleton.mp hp; rfl) hr (LamX.lamS_by (sc := defScope sLaw) (by decide +kernel)) rfl (fun _ _ _ _ _ => rfl) (fun A outer s H E f c' hr2 => pe_make M GX hr2 (by rfl) gO bO .nil (passes_call (takes_of rfl rfl rfl rfl) (fun _ _ _ _ h => h)) (pa_cons (pv 9) (pa_cons (pv 10) pa_nil)))) (pe_tup (pa_cons pe_str (pa_cons (pe_callB (r := rReprS K) (call_reprS gd' (hu64 hr)) (by rfl) m_repr (by decide +kernel) (pa_cons (pv 10) pa_nil)) pa_nil))) (nomark _))
      (pss_one (ps_ret pe_bl)) pss_nil)
    (pss_cons (ps_par (i := 4) (j := 5) (by rfl) scLaw.nd rfl rfl (by decide) rfl rfl (pa_cons (pe_lst (pa_cons (pe_lst (pa_cons pe_str (pa_cons pe_int (pa_cons pe_int pa_nil)))) (pa_cons (pe_tup (pa_cons pe_str (pa_cons pe_int (pa_cons pe_int pa_nil)))) pa_nil))) (pa_cons (pe_lst (pa_cons (pe_lst (pa_cons pe_str (pa_cons pe_int (pa_cons pe_int pa_nil)))) pa_nil)) pa_nil)) (by rfl))
    (C8.pss_cut (ps_set (i := 6) scLaw.nd rfl (.inl rfl) (pe_make M GO (hr.mono (by omega)) (by rfl) gO bO .nil pass0 (pa_cons (pv 4) (pa_cons (pv 5) pa_nil))))
    (pss_cons (ps_asg (pe_tup (pa_cons pe_int (pa_cons pe_str pa_nil))) (pg_tup rfl (pgs_cons (pg_sub (pe_ix ix_list (pv 4) pe_int (fun _ _ => rfl)) pe_int set_list) (pgs_cons (pg_sub (pe_ix ix_list (pv 5) pe_int (fun _ _ => rfl)) pe_int set_list) pgs_nil))))
    (pss_cons (ps_if (pt_cmpR (op_neD (hu64 hr)) (pe_tup (pa_cons (pe_fld (pv 6) rfl) (pa_cons (pe_fld (pv 6) rfl) pa_nil))) (pe_tup (pa_cons (pe_tup (pa_cons (pe_tup (pa_cons pe_str (pa_cons pe_int (pa_cons pe_int pa_nil)))) (pa_cons (pe_tup (pa_cons pe_str (pa_cons pe_int (pa_cons pe_int pa_nil)))) pa_nil))) (pa_cons (pe_tup (pa_cons (pe_tup (pa_cons pe_str (pa_cons pe_int (pa_cons pe_int pa_nil)))) pa_nil)) pa_nil))) (nomark _))
      (pss_one (ps_ret pe_bl)) pss_nil)
    (C8.pss_cut (ps_set (i := 7) scLaw.nd rfl (.inl rfl) (pe_make M GO (hr.mono (by omega)) (by rfl) gO bO .nil pass0 (pa_cons (pe_lst (pa_cons (pe_tup (pa_cons pe_str (pa_cons pe_int (pa_cons pe_int pa_nil)))) (pa_cons (pe_tup (pa_cons pe_str (pa_cons pe_int (pa_cons pe_int pa_nil)))) (pa_cons (pe_tup (pa_cons pe_str (pa_cons pe_int (pa_cons pe_int pa_nil)))) pa_nil)))) (pa_cons (pe_lst pa_nil) pa_nil))))
    (pss_one (ps_ret (pe_and (pe_cmpR op_eq (pe_call hCmp.G hr (by rfl) hCmp.g hCmp.kp hCmp.b .nil pass0 (pa_cons (pv 7) (pa_cons (pe_tup (pa_cons pe_str pa_nil)) (pa_cons (pe_tup (pa_cons pe_str pa_nil)) pa_nil)))) pe_str (nomark _)) (pe_one (pe_cmpR op_notN (pe_fld (pv 6) rfl) pe_non (nomark _))))))))))))))))))))), ?_⟩
    refine ⟨.ref a, rfl, a, ns, rfl, hS, few, fun H1 p l sm1 np nl hP => ?_⟩
    have tab1 := sm1 _ _ tab
    refine to_set (((eql_lst (eqs_cons (ED.q ed_non) (eqs_cons (ED.q ed_int) (eqs_cons (ED.q ed_str) (eqs_cons (ED.q (ed_lst eds_nil (by decide))) (eqs_cons (ED.q (ed_lst (eds_cons (ed_tup (eds_cons ed_str (eds_cons ed_int (eds_cons ed_int eds_nil))) (by decide)) eds_nil) (by decide))) (eqs_cons (ED.q (ed_lst (eds_cons (ed_tup (eds_cons ed_str (eds_cons ed_int (eds_cons ed_int eds_nil))) (by decide)) eds_nil) (by decide))) (eqs_cons (ED.q (ed_lst (eds_cons (ed_tup (eds_cons ed_str (eds_cons ed_int (eds_cons (ed_neg ed_int) eds_nil))) (by decide)) eds_nil) (by decide))) (eqs_cons (ED.q (ed_lst (eds_cons (ed_tup (eds_cons ed_str (eds_cons (ed_neg ed_int) (eds_cons ed_int eds_nil))) (by decide)) (eds_cons (ed_tup (eds_cons ed_str (eds_cons ed_int (eds_cons ed_int eds_nil))) (by decide)) eds_nil)) (by decide))) (eqs_cons (ED.q (ed_lst (eds_cons (ed_tup (eds_cons ed_str (eds_cons ed_int eds_nil)) (by decide)) eds_nil) (by decide))) eqs_nil))))))))) (by decide)) : EQL K _ _ H1 badL1) H1 (Same.refl _) _ fun l1 xs1 H2 s2 nl1 el1 hq1 => ?_)
    refine to_set ((eql_cat_var (i := 2) rfl el1 hq1 ((eql_lst (eqs_cons (ED.q (ed_lst (eds_cons (ed_tup (eds_cons ed_str (eds_cons ed_int (eds_cons ed_int eds_nil))) (by decide)) (eds_cons (ed_tup (eds_cons ed_str (eds_cons ed_int (eds_cons ed_int eds_nil))) (by decide)) eds_nil)) (by decide))) (eqs_cons (ED.q (ed_lst (eds_cons (ed_tup (eds_cons ed_str (eds_cons ed_int (eds_cons ed_int eds_nil))) (by decide)) eds_nil) (by decide))) (eqs_cons (ED.q (ed_lst (eds_cons (ed_tup (eds_cons ed_int (eds_cons ed_int (eds_cons ed_int eds_nil))) (by decide)) eds_nil) (by decide))) (eqs_cons (ED.q (ed_lst (eds_cons (ed_tup (eds_cons ed_str (eds_cons ed_bl (eds_cons ed_int eds_nil))) (by decide)) eds_nil) (by decide))) (eqs_cons (ED.q (ed_lst (eds_cons (ed_tup (eds_cons ed_str (eds_cons ed_int (eds_cons ed_non eds_nil))) (by decide)) eds_nil) (by decide))) eqs_nil))))) (by decide)) : EQL K _ _ H2 badL2) (by decide)) H2 (Same.refl _) _ fun l2 xs2 H3 s3 nl2 el2 hq2 => ?_)
    refine to_set ((eql_cat_var (i := 2) rfl el2 hq2 ((eql_lst (eqs_cons (ED.q (ed_lst (eds_cons (ed_tup (eds_cons ed_str (eds_cons ed_int (eds_cons ed_int eds_nil))) (by decide)) (eds_cons ed_non eds_nil)) (by decide))) (eqs_cons eq_dict (eqs_cons (ED.q (ed_lst (eds_cons (ed_tup (eds_cons ed_str (eds_cons ed_int (eds_cons ed_int eds_nil))) (by decide)) (eds_cons (ed_tup (eds_cons ed_str (eds_cons ed_int (eds_cons ed_bl eds_nil))) (by decide)) eds_nil)) (by decide))) eqs_nil))) (by decide)) : EQL K _ _ H3 badL3) (by decide)) H3 (Same.refl _) _ fun l3 xs3 H4 s4 nl3 el3 hq3 => ?_)
    have s14 : Same H1 H4 := (s2.trans s3).trans s4
    replace hP := pen_same hP s14
    replace tab1 := s14 _ _ tab1
    clear nl1 el1 hq1 nl2 el2 hq2 s2 s3 s4 nl3 np nl sm1
    have l3p : l3 ≠ p := fun z => by
      obtain ⟨⟨_, _, _, e, _⟩, _⟩ := hP
      rw [z, e] at el3
      cases el3
    have len3 := hq3.len
    refine ⟨fun σ G => ∃ (v8 : V) (d8 : PyData), σ = [some (.ref a), some (.ref p), some (.ref l3), none, none, none, none, none, some v8, none, none] ∧ Pn.Pen G p l ns 1 ∧ G Pt = some (.tbl #[]) ∧ d8 ∈ (badL1 ++ badL2) ++ badL3 ∧ Dq K G d8 v8, ?_, ?_⟩
    · refine ⟨.ref p, rfl, .ref l3, rfl, p, l, l3, ns, 0, xs3, rfl, hP, by omega, by omega, .inl (.inl (.inl el3)), (fun z => by rw [z] at len3; cases len3), by rw [len3]; decide, l3p, fun x G hx P1 b1 => ?_⟩
      obtain ⟨d, hd, hdx⟩ := hq3.mem hx
      refine ⟨x, d, rfl, P1, b1 _ _ (fun z => ?_) tab1, hd, hdx.pen hP b1⟩
      obtain ⟨⟨_, _, _, e, _⟩, _⟩ := hP
      rw [z, e] at tab1
      cases tab1
    clear tab1 hP hq3 el3 len3 s14
    rintro σ G ⟨v8, d8, rfl, hP, tab1, m8, q8⟩
    refine to_set (((eqs_cons (ED.q ed_non) (eqs_cons (ED.q ed_int) (eqs_cons (ED.q ed_str) (eqs_cons (ED.q (ed_lst (eds_cons (ed_tup (eds_cons ed_str (eds_cons ed_int (eds_cons ed_int eds_nil))) (by decide)) eds_nil) (by decide))) (eqs_cons (ED.q (ed_lst (eds_cons (ed_tup (eds_cons ed_str (eds_cons ed_int (eds_cons ed_int eds_nil))) (by decide)) eds_nil) (by decide))) (eqs_cons (ED.q (ed_lst (eds_cons (ed_tup (eds_cons ed_str (eds_cons ed_int (eds_cons ed_int eds_nil))) (by decide)) (eds_cons (ed_tup (eds_cons ed_str (eds_cons ed_int (eds_cons ed_int eds_nil))) (by decide)) eds_nil)) (by decide))) (eqs_cons (ED.q (ed_lst (eds_cons (ed_tup (eds_cons ed_str (eds_cons ed_int (eds_cons ed_int eds_nil))) (by decide)) eds_nil) (by decide))) (eqs_cons (ED.q (ed_lst (eds_cons (ed_tup eds_nil (by decide)) eds_nil) (by decide))) eqs_nil)))))))) : EQs K _ _ G moreL) G (Same.refl _) _ fun xs4 G2 s2 hq4 => ⟨by rw [hq4.len, sizeLine_eq]; decide, fun l4 n4 => ?_⟩)
    replace hP := pen_same hP s2
    replace tab1 := s2 _ _ tab1
    replace q8 := q8.same s2
    clear s2
    have s3 : Same G2 (upd G2 l4 (.lst xs4)) := same_new (fun b o e => e) n4 _
    have e4 : (upd G2 l4 (.lst xs4)) l4 = some (.lst xs4) := upd_same
    have o4 : ∀ b, b ≠ l4 → (upd G2 l4 (.lst xs4)) b = G2 b := fun b h => upd_ne h
    generalize upd G2 l4 (.lst xs4) = G3 at s3 e4 o4
    have len4 := hq4.len
    refine ⟨.ref l4, rfl, .inl ⟨rfl, xs4, .inl (.inl e4)⟩, by show 3 ≤ sizeLine; rw [sizeLine_eq]; decide, fun t5 n5 => ⟨by show 1 ≤ sizeLine; decide, fun l5 n6 => ?_⟩⟩
    have t54 : t5 ≠ l4 := fun z => by rw [z, e4] at n5; cases n5
    have l5t : l5 ≠ t5 := fun z => by rw [z, upd_same] at n6; cases n6
    have l54 : l5 ≠ l4 := fun z => by rw [z, upd_ne t54.symm, e4] at n6; cases n6
    refine ⟨l4, xs4, .ref l5, rfl, rfl, by rw [upd_ne l54.symm, upd_ne t54.symm]; exact e4, by rw [len4, sizeLine_eq]; decide, ?_⟩
    have s5 : Same G2 (upd (upd (upd G3 t5 (.tup [.str "p", .str "1", .int 1])) l5 (.lst [.ref t5])) l4 (.lst (xs4 ++ [.ref l5]))) := by
      refine same_on (same_new (same_new s3 n5 _) n6 _) n4 _
    have m5 : DqA K (upd (upd (upd G3 t5 (.tup [.str "p", .str "1", .int 1])) l5 (.lst [.ref t5])) l4 (.lst (xs4 ++ [.ref l5]))) (moreL ++ [moreL2]) (xs4 ++ [.ref l5]) := by
      refine F2.app (hq4.mono (Dq.same s5)) (F2.one (.inl (L2.Dp.lst (a := l5) (xs := [.ref t5]) (.inl (.inl ?_)) (.cons (L2.Dp.tup (a := t5) (xs := [.str "p", .str "1", .int 1]) (.inl (.inl ?_)) (.cons (.str _) (.cons (.str _) (.cons (.int _) .nil)))) .nil))))
      · rw [upd_ne l54, upd_same]
      · rw [upd_ne t54, upd_ne l5t.symm, upd_same]
    have e5 : (upd (upd (upd G3 t5 (.tup [.str "p", .str "1", .int 1])) l5 (.lst [.ref t5])) l4 (.lst (xs4 ++ [.ref l5]))) l4 = some (.lst (xs4 ++ [.ref l5])) := upd_same
    generalize upd (upd (upd G3 t5 (.tup [.str "p", .str "1", .int 1])) l5 (.lst [.ref t5])) l4 (.lst (xs4 ++ [.ref l5])) = G5 at s5 m5 e5
    generalize xs4 ++ [V.ref l5] = xs5 at m5 e5
    clear s3 e4 o4 n4 n5 n6 t54 l5t l54 hq4 len4
    replace hP := pen_same hP s5
    replace tab1 := s5 _ _ tab1
    replace q8 := q8.same s5
    clear s5
    have l4p : l4 ≠ p := fun z => by
      obtain ⟨⟨_, _, _, e, _⟩, _⟩ := hP
      rw [z, e] at e5
      cases e5
    have len5 := m5.len
    refine ⟨fun σ G => ∃ (v8 v9 v10 : V) (d8 d10 : PyData), σ = [some (.ref a), some (.ref p), some (.ref l3), some (.ref l4), none, none, none, none, some v8, some v9, some v10] ∧ G Pt = some (.tbl #[]) ∧ d8 ∈ (badL1 ++ badL2) ++ badL3 ∧ Dq K G d8 v8 ∧ d10 ∈ moreL ++ [moreL2] ∧ Dq K G d10 v10 ∧ Dp K G v9 goodD, ?_, ?_⟩
    · refine ⟨.ref p, rfl, .ref l4, rfl, p, l, l4, ns, 1, xs5, rfl, hP, by omega, by omega, .inl (.inl (.inl e5)), (fun z => by rw [z] at len5; cases len5), by rw [len5]; decide, l4p, fun x G6 hx P1 b1 => ?_⟩
      obtain ⟨d, hd, hdx⟩ := m5.mem hx
      have hdx' := hdx.pen hP b1
      replace q8 := q8.pen hP b1
      have tab6 : G6 Pt = some (.tbl #[]) := b1 _ _ (fun z => by
        obtain ⟨⟨_, _, _, e, _⟩, _⟩ := hP
        rw [z, e] at tab1
        cases tab1) tab1
      refine ((ed_lst (eds_cons (ed_tup (eds_cons ed_str (eds_cons ed_int (eds_cons ed_int eds_nil))) (by decide)) (eds_cons (ed_lst (eds_cons ed_str (eds_cons ed_int (eds_cons ed_int eds_nil))) (by decide)) eds_nil)) (by decide)) : ED K _ _ G6 goodD) G6 (Same.refl _) _ fun v9 G7 s7 h9 => ⟨by show 2 ≤ sizeLine; rw [sizeLine_eq]; decide, fun t nt => ?_⟩
      have s8 : Same G7 (upd G7 t (.tup [x, v9])) := same_new (fun b o e => e) nt _
      refine ⟨t, _, rfl, .inl (.inl upd_same), rfl, _, _, rfl, _, _, rfl, rfl, v8, v9, x, d8, d, rfl, s8 _ _ (s7 _ _ tab6), m8, (q8.same s7).same s8, hd, (hdx'.same s7).same s8, dp_same s8 h9⟩
    clear m5 len5 e5 q8 tab1 hP
    rintro σ G ⟨v8, v9, v10, d8, d10, rfl, tab1, m8, q8, m10, q10, q9⟩
    obtain ⟨b8, c8, r8⟩ := bad_all' m8
    obtain ⟨b10, c10, r10⟩ := more_all' m10
    rw [rowB, Bool.and_eq_true] at r8 r10
    have T0 : LamX.Tabs [(Pt, lamQ)] G := fun p hp => by
      cases List.mem_singleton.mp hp
      exact LamX.TabS.nil tab1
    clear tab1 m8 m10
    refine lam_eval (v1 := v8) (v2 := v10) (v := v8) (y := d8.shown) rfl rfl T0 (fun G' x => .inl ⟨badO_ok (q8.ext x) b8, rfl⟩) (fun G' x => showB_ok (q8.ext x) c8) fun t1 G1 x1 T1 e1 => ?_
    refine ⟨v8, rfl, v8, d8.shown, rfl, showB_ok (q8.ext x1) c8, by show 2 ≤ sizeLine; rw [sizeLine_eq]; decide, fun t2 n2 => ?_⟩
    have s2 : Same G1 (upd G1 t2 (.tup [.str "row", .str d8.shown])) := same_new (fun b o e => e) n2 _
    refine ⟨rowA d8.shown, rowA d8.shown, .tup (.inl (.inl (s2 _ _ e1))) (.cons (.str _) (.cons (.str _) .nil)), .tup (.inl (.inl upd_same)) (.cons (.str _) (.cons (.str _) .nil)), r8.1, r8.1, _, rfl, ?_⟩
    rw [r8.2]
    refine iteF ?_
    have q10' := (q10.ext x1).same s2
    have q9' := dp_same s2 (ext_dp x1 q9)
    replace T1 := T1.ext s2
    clear q10 q9 q8 e1 x1 T0 b8 c8 r8
    generalize upd G1 t2 (.tup [.str "row", .str d8.shown]) = G2 at q10' q9' T1
    clear s2 n2
    refine ⟨fun σ G => ∃ (u0 u1 u2 u3 u8 u9 u10 : Option V), σ = [u0, u1, u2, u3, none, none, none, none, u8, u9, u10], ?_, ?_⟩
    · refine lam_eval (v1 := v9) (v2 := v10) (v := v10) (y := d10.shown) rfl rfl T1 (fun G' x => .inr ⟨goodR, good_ok (ext_dp x q9'), ⟨("a", 0, 1), List.mem_cons_self, rfl⟩, badB_ok (q10'.ext x) b10, rfl⟩) (fun G' x => showB_ok (q10'.ext x) c10) fun t1 G3 x1 T3 e1 => ?_
      refine ⟨v10, rfl, v10, d10.shown, rfl, showB_ok (q10'.ext x1) c10, by show 2 ≤ sizeLine; rw [sizeLine_eq]; decide, fun t2 n2 => ?_⟩
      have s2 : Same G3 (upd G3 t2 (.tup [.str "row", .str d10.shown])) := same_new (fun b o e => e) n2 _
      refine ⟨rowA d10.shown, rowA d10.shown, .tup (.inl (.inl (s2 _ _ e1))) (.cons (.str _) (.cons (.str _) .nil)), .tup (.inl (.inl upd_same)) (.cons (.str _) (.cons (.str _) .nil)), r10.1, r10.1, _, rfl, ?_⟩
      rw [r10.2]
      exact iteF ⟨_, _, _, _, _, _, _, rfl⟩
    clear q10' q9' T1 b10 c10 r10
    rintro σ G ⟨u0, u1, u2, u3, u8, u9, u10, rfl⟩
    refine ⟨by show 3 ≤ sizeLine; rw [sizeLine_eq]; decide, fun la na => ⟨by show 3 ≤ sizeLine; rw [sizeLine_eq]; decide, fun tf nf => ⟨by show 2 ≤ sizeLine; rw [sizeLine_eq]; decide, fun lg ng => ⟨by show 3 ≤ sizeLine; rw [sizeLine_eq]; decide, fun lp npp => ⟨by show 1 ≤ sizeLine; decide, fun lt nt => ?_⟩⟩⟩⟩⟩
    have s1 : Same G (upd G la (.lst [.str "a", .int 0, .int 1])) := same_new (fun b o e => e) na _
    have e1 : (upd G la (.lst [.str "a", .int 0, .int 1])) la = some (.lst [.str "a", .int 0, .int 1]) := upd_same
    generalize upd G la (.lst [.str "a", .int 0, .int 1]) = G1 at s1 e1 nf ng npp nt
    have s2 : Same G1 (upd G1 tf (.tup [.str "f", .int 1, .int 2])) := same_new (fun b o e => e) nf _
    have e2 : (upd G1 tf (.tup [.str "f", .int 1, .int 2])) tf = some (.tup [.str "f", .int 1, .int 2]) := upd_same
    replace e1 := s2 _ _ e1
    generalize upd G1 tf (.tup [.str "f", .int 1, .int 2]) = G2 at s2 e1 e2 ng npp nt
    have s3 : Same G2 (upd G2 lg (.lst [.ref la, .ref tf])) := same_new (fun b o e => e) ng _
    have e3 : (upd G2 lg (.lst [.ref la, .ref tf])) lg = some (.lst [.ref la, .ref tf]) := upd_same
    replace e1 := s3 _ _ e1
    replace e2 := s3 _ _ e2
    generalize upd G2 lg (.lst [.ref la, .ref tf]) = G3 at s3 e1 e2 e3 npp nt
    have s4 : Same G3 (upd G3 lp (.lst [.str "p", .int 1, .int 1])) := same_new (fun b o e => e) npp _
    have e4 : (upd G3 lp (.lst [.str "p", .int 1, .int 1])) lp = some (.lst [.str "p", .int 1, .int 1]) := upd_same
    replace e1 := s4 _ _ e1
    replace e2 := s4 _ _ e2
    replace e3 := s4 _ _ e3
    generalize upd G3 lp (.lst [.str "p", .int 1, .int 1]) = G4 at s4 e1 e2 e3 e4 nt
    have s5 : Same G4 (upd G4 lt (.lst [.ref lp])) := same_new (fun b o e => e) nt _
    have e5 : (upd G4 lt (.lst [.ref lp])) lt = some (.lst [.ref lp]) := upd_same
    replace e1 := s5 _ _ e1
    replace e2 := s5 _ _ e2
    replace e3 := s5 _ _ e3
    replace e4 := s5 _ _ e4
    generalize upd G4 lt (.lst [.ref lp]) = G5 at s5 e1 e2 e3 e4 e5
    clear s1 s2 s3 s4 s5 na nf ng npp nt
    refine ⟨_, _, rfl, ?_⟩
    refine ⟨fun σ G => ∃ (o : Addr), σ = [u0, u1, u2, u3, some (.ref lg), some (.ref lt), some (.ref o), none, u8, u9, u10] ∧ OrdI K C G o goodR truthsR ∧ G la = some (.lst [.str "a", .int 0, .int 1]) ∧ G lg = some (.lst [.ref la, .ref tf]) ∧ G lp = some (.lst [.str "p", .int 1, .int 1]) ∧ G lt = some (.lst [.ref lp]), ?_, ?_⟩
    · refine ⟨.ref lg, rfl, .ref lt, rfl, fun oo dx no ndx nod => ?_⟩
      have no' : (upd G5 dx (.own oo)) oo = none := by rw [upd_ne nod.symm]; exact no
      have sN : Same G5 (upd (upd G5 dx (.own oo)) oo (.ins C dx [])) := same_new (same_new (fun b o e => e) ndx _) no' _
      have eo : (upd (upd G5 dx (.own oo)) oo (.ins C dx [])) oo = some (.ins C dx []) := upd_same
      generalize upd (upd G5 dx (.own oo)) oo (.ins C dx []) = G6 at sN eo
      refine ⟨oo, lg, lt, dx, goodR, truthsR, [.ref la, .ref tf], [.ref lp], rfl, eo, .inl (.inl (.inl (sN _ _ e3))), ⟨_, _, rfl, ⟨la, rfl, .inl (.inl (.inl (sN _ _ e1)))⟩, F2.one ⟨tf, rfl, .inr (.inl (.inl (sN _ _ e2)))⟩⟩, .inl (.inl (.inl (sN _ _ e5))), F2.one ⟨lp, rfl, .inl (.inl (.inl (sN _ _ e4)))⟩, given_ok, fun G7 b7 hI => ⟨rfl, oo, rfl, hI, ?_, ?_, ?_, ?_⟩⟩
      · exact b7 _ _ (ne_of_none e1 no) (sN _ _ e1)
      · exact b7 _ _ (ne_of_none e3 no) (sN _ _ e3)
      · exact b7 _ _ (ne_of_none e4 no) (sN _ _ e4)
      · exact b7 _ _ (ne_of_none e5 no) (sN _ _ e5)
    clear e1 e2 e3 e4 e5
    rintro σ G ⟨o, rfl, hI, e1, e3, e4, e5⟩
    have lapl : lp ≠ la := fun z => by
      rw [z, e1] at e4
      have e4' := List.cons.inj (HO.lst.inj (Option.some.inj e4))
      exact absurd (V.str.inj e4'.1) (by decide +kernel)
    have lala : lt ≠ la := fun z => by
      rw [z, e1] at e5
      exact nomatch (List.cons.inj (HO.lst.inj (Option.some.inj e5))).1
    refine ⟨by show 2 ≤ sizeLine; rw [sizeLine_eq]; decide, fun t nt => ⟨t, _, rfl, .inl (.inl upd_same), rfl, _, _, rfl, ?_⟩⟩
    have s1 : Same G (upd G t (.tup [.int 9, .str "a"])) := same_new (fun b o e => e) nt _
    replace hI := hI.same s1
    replace e1 := s1 _ _ e1
    replace e3 := s1 _ _ e3
    replace e4 := s1 _ _ e4
    replace e5 := s1 _ _ e5
    generalize upd G t (.tup [.int 9, .str "a"]) = G1 at hI e1 e3 e4 e5
    refine ⟨.ref lg, rfl, lg, _, _, _, rfl, rfl, .inl (.inl e3), rfl, la, _, _, 2, rfl, rfl, e1, rfl, ?_⟩
    refine ⟨_, _, rfl, .ref lt, rfl, lt, [.ref lp], _, .ref lp, rfl, rfl, .inl (.inl ?_), rfl, lp, [.str "p", .int 1, .int 1], _, 0, rfl, rfl, ?_, rfl, rfl, ?_⟩
    · exact (upd_ne lala).trans e5
    · exact (upd_ne lapl).trans e4
    replace hI := lst_ordI (zs := ([.str "a", .int 0, .int 1] : List V).set 2 (.int 9)) e1 hI
    have e4' : (upd G1 la (.lst (([.str "a", .int 0, .int 1] : List V).set 2 (.int 9)))) lp = some (.lst [.str "p", .int 1, .int 1]) := (upd_ne lapl).trans e4
    replace hI := lst_ordI (zs := ([.str "p", .int 1, .int 1] : List V).set 0 (.str "a")) e4' hI
    generalize upd (upd G1 la (.lst (([.str "a", .int 0, .int 1] : List V).set 2 (.int 9)))) lp (.lst (([.str "p", .int 1, .int 1] : List V).set 0 (.str "a"))) = G2 at hI
    clear e1 e3 e4 e5 e4' lapl lala s1 nt
    obtain ⟨dx, bt, br, bw, bp, vs1, vs2, f1, f2, f3, f4, f5, f6, f7⟩ := id hI.ex
    refine ⟨.ref o, rfl, o, C, dx, _, .ref bt, rfl, f1, cls, na1, ordF_things .., .ref o, rfl, o, C, dx, _, .ref br, rfl, f1, cls, na2, ordF_truths .., by show 2 ≤ sizeLine; rw [sizeLine_eq]; decide, fun t nt => ?_⟩
    have s1 : Same G2 (upd G2 t (.tup [.ref bt, .ref br])) := same_new (fun b o e => e) nt _
    have dL : Dp K (upd G2 t (.tup [.ref bt, .ref br])) (.ref t) rightD := .tup (.inl (.inl upd_same)) (.cons (.tup ((TK.same s1).sq f2) (rowsV_dp (f3.mono (RowV.mono (TK.same s1))))) (.cons (.tup ((TK.same s1).sq f4) (rowsV_dp (f5.mono (RowV.mono (TK.same s1))))) .nil))
    replace hI := hI.same s1
    clear f1 f2 f3 f4 f5 f6 f7
    generalize upd G2 t (.tup [.ref bt, .ref br]) = G3 at dL hI
    refine ((ed_tup (eds_cons (ed_tup (eds_cons (ed_tup (eds_cons ed_str (eds_cons ed_int (eds_cons ed_int eds_nil))) (by decide)) (eds_cons (ed_tup (eds_cons ed_str (eds_cons ed_int (eds_cons ed_int eds_nil))) (by decide)) eds_nil)) (by decide)) (eds_cons (ed_tup (eds_cons (ed_tup (eds_cons ed_str (eds_cons ed_int (eds_cons ed_int eds_nil))) (by decide)) eds_nil) (by decide)) eds_nil)) (by decide)) : ED K _ _ G3 rightD) G3 (Same.refl _) _ fun v G4 s4 hv => ⟨rightD, rightD, dp_same s4 dL, hv, right_shaped, right_shaped, _, rfl, ?_⟩
    rw [right_eqv]
    refine iteF ?_
    replace hI := hI.same s4
    clear dL hv s1 nt s4
    refine ⟨fun σ G => ∃ (o2 : Addr), σ = [u0, u1, u2, u3, some (.ref lg), some (.ref lt), some (.ref o), some (.ref o2), u8, u9, u10] ∧ OrdI K C G o goodR truthsR ∧ OrdI K C G o2 oddR [], ?_, ?_⟩
    · refine ⟨by show 3 ≤ sizeLine; rw [sizeLine_eq]; decide, fun p1 n1 => ⟨by show 3 ≤ sizeLine; rw [sizeLine_eq]; decide, fun p2 n2 => ⟨by show 3 ≤ sizeLine; rw [sizeLine_eq]; decide, fun p3 n3 => ⟨by show 3 ≤ sizeLine; rw [sizeLine_eq]; decide, fun l1 n4 => ⟨Nat.zero_le _, fun l2 n5 => ?_⟩⟩⟩⟩⟩
      have s1 : Same G4 (upd G4 p1 (.tup [.str "0", .int 0, .int 1])) := same_new (fun b o e => e) n1 _
      have e1 : (upd G4 p1 (.tup [.str "0", .int 0, .int 1])) p1 = some (.tup [.str "0", .int 0, .int 1]) := upd_same
      generalize upd G4 p1 (.tup [.str "0", .int 0, .int 1]) = G5 at s1 e1 n2 n3 n4 n5
      have s2 : Same G5 (upd G5 p2 (.tup [.str "", .int 0, .int 1])) := same_new (fun b o e => e) n2 _
      have e2 : (upd G5 p2 (.tup [.str "", .int 0, .int 1])) p2 = some (.tup [.str "", .int 0, .int 1]) := upd_same
      replace e1 := s2 _ _ e1
      replace s1 := s1.trans s2
      generalize upd G5 p2 (.tup [.str "", .int 0, .int 1]) = G6 at s1 s2 e1 e2 n3 n4 n5
      have s3 : Same G6 (upd G6 p3 (.tup [.str "A b", .int 0, .int 1])) := same_new (fun b o e => e) n3 _
      have e3 : (upd G6 p3 (.tup [.str "A b", .int 0, .int 1])) p3 = some (.tup [.str "A b", .int 0, .int 1]) := upd_same
      replace e1 := s3 _ _ e1
      replace e2 := s3 _ _ e2
      replace s1 := s1.trans s3
      generalize upd G6 p3 (.tup [.str "A b", .int 0, .int 1]) = G7 at s1 s3 e1 e2 e3 n4 n5
      have s4 : Same G7 (upd G7 l1 (.lst [.ref p1, .ref p2, .ref p3])) := same_new (fun b o e => e) n4 _
      have e4 : (upd G7 l1 (.lst [.ref p1, .ref p2, .ref p3])) l1 = some (.lst [.ref p1, .ref p2, .ref p3]) := upd_same
      replace e1 := s4 _ _ e1
      replace e2 := s4 _ _ e2
      replace e3 := s4 _ _ e3
      replace s1 := s1.trans s4
      generalize upd G7 l1 (.lst [.ref p1, .ref p2, .ref p3]) = G8 at s1 s4 e1 e2 e3 e4 n5
      have s5 : Same G8 (upd G8 l2 (.lst [])) := same_new (fun b o e => e) n5 _
      have e5 : (upd G8 l2 (.lst [])) l2 = some (.lst []) := upd_same
      replace e1 := s5 _ _ e1
      replace e2 := s5 _ _ e2
      replace e3 := s5 _ _ e3
      replace e4 := s5 _ _ e4
      replace s1 := s1.trans s5
      generalize upd G8 l2 (.lst []) = G9 at s1 s5 e1 e2 e3 e4 e5
      intro oo dx no ndx nod
      have no' : (upd G9 dx (.own oo)) oo = none := by rw [upd_ne nod.symm]; exact no
      have sN : Same G9 (upd (upd G9 dx (.own oo)) oo (.ins C dx [])) := same_new (same_new (fun b o e => e) ndx _) no' _
      have eo : (upd (upd G9 dx (.own oo)) oo (.ins C dx [])) oo = some (.ins C dx []) := upd_same
      generalize upd (upd G9 dx (.own oo)) oo (.ins C dx []) = GA at sN eo
      refine ⟨oo, l1, l2, dx, oddR, [], [.ref p1, .ref p2, .ref p3], [], rfl, eo, .inl (.inl (.inl (sN _ _ e4))), ⟨_, _, rfl, ⟨p1, rfl, .inr (.inl (.inl (sN _ _ e1)))⟩, _, _, rfl, ⟨p2, rfl, .inr (.inl (.inl (sN _ _ e2)))⟩, F2.one ⟨p3, rfl, .inr (.inl (.inl (sN _ _ e3)))⟩⟩, .inl (.inl (.inl (sN _ _ e5))), rfl, odd_ok, fun GB b7 hI2 => ⟨rfl, oo, rfl, hI.same (fun b u e => ?_), hI2⟩⟩
      exact b7 _ _ (ne_of_none (s1 _ _ e) no) (sN _ _ (s1 _ _ e))
    clear hI
    rintro σ G ⟨o2, rfl, hI, hI2⟩
    refine ⟨.ref o2, rfl, by show 1 ≤ sizeLine; decide, fun y1 ny1 => ⟨by show 1 ≤ sizeLine; decide, fun y2 ny2 => ?_⟩⟩
    have s6 : Same G (upd G y1 (.tup [.str "A b"])) := same_new (fun b o e => e) ny1 _
    have e6 : (upd G y1 (.tup [.str "A b"])) y1 = some (.tup [.str "A b"]) := upd_same
    generalize upd G y1 (.tup [.str "A b"]) = GC at s6 e6 ny2
    have s7 : Same GC (upd GC y2 (.tup [.str ""])) := same_new (fun b o e => e) ny2 _
    have e7 : (upd GC y2 (.tup [.str ""])) y2 = some (.tup [.str ""]) := upd_same
    replace e6 := s7 _ _ e6
    have s67 := s6.trans s7
    generalize upd GC y2 (.tup [.str ""]) = GD at s7 e7 e6 s67
    have r1 : (("A b" : Str), 0, (1 : Int)) ∈ ranked oddR [] := by unfold ranked oddR; simp
    have r2 : (("" : Str), 0, (1 : Int)) ∈ ranked oddR [] := by unfold ranked oddR; simp
    refine ⟨o2, oddR, [], .f "A b" [], .f "" [], .ref y1, .ref y2, rfl, ⟨hI2.same s67, odd_ok, ⟨y1, [], rfl, .inl (.inl e6), rfl⟩, ⟨y2, [], rfl, .inl (.inl e7), rfl⟩, ⟨⟨_, r1, rfl, rfl⟩, True.intro⟩, ⟨⟨_, r2, rfl, rfl⟩, True.intro⟩, by decide +kernel, by decide +kernel, by decide, by decide, by decide, by decide⟩, by decide, fun GE s8 => ?_⟩
    rw [odd_above]
    refine ⟨rfl, true, congrArg V.bl (decide_eq_true rfl), iteT ?_⟩
    obtain ⟨dx, bt, br, bw, bp, vs1, vs2, f1, f2, f3, f4, f5, f6, f7⟩ := (hI.same (s67.trans s8)).ex
    refine ⟨.ref o, rfl, o, C, dx, _, .ref bt, rfl, f1, cls, na1, ordF_things .., rfl, ?_⟩
    have e : (V.bl (!decide (V.ref bt = V.non))) = .bl true := congrArg (fun z => V.bl (!z)) (decide_eq_false (fun z => nomatch z))
    show Q (V.bl (!decide (V.ref bt = V.non))) GE
    rw [e]
    exact q _
end
end Ad

/-! The head: what the top leaves, by one run. -/
namespace Ad
open PySem PySem.Spec PyProof.Rows L2 GxR
def dd (i : Nat) (x : Str) : He.DefD := ⟨(x, none), x, x, defArgs (topS i), defBody (topS i), defScope (topS i), [], []⟩
def ddO : He.DefD := ⟨("Order", some "__init__"), "__init__", "Order.__init__", defArgs sOInit, defBody sOInit, defScope sOInit, [], []⟩
def ddE : He.DefD := ⟨("BadRow", some "__init__"), "__init__", "BadRow.__init__", defArgs sErRow, defBody sErRow, defScope sErRow, [], []⟩
def fnL : List He.DefD := [dd 5 "is_from", dd 8 "_triples_of", dd 9 "_is_triple", dd 10 "_weighed", dd 11 "compare", dd 12 "_first_unlike", dd 13 "_way_by_heads", dd 14 "_way", dd 15 "_has_as_often", dd 17 "_law_pen", dd 18 "_law_draw", dd 19 "_law_pick", dd 20 "_law_why", dd 21 "law", ddO, ddE]
def faL : List He.Fa := [.glo "is_from", .glo "_triples_of", .glo "_is_triple", .glo "_weighed", .glo "compare", .glo "_first_unlike", .glo "_way_by_heads", .glo "_way", .glo "_has_as_often", .glo "_law_pen", .glo "_law_draw", .glo "_law_pick", .glo "_law_why", .glo "law", .free "isinstance", .free "int", .free "bool", .free "list", .free "tuple", .free "len", .free "str", .free "enumerate", .free "zip", .free "repr", .glo "Order", .glo "BadRow", .glo "BadNumber", .cls "Order", .mkr "Order", .noat "Order" "things", .noat "Order" "truths", .noat "Order" "_weights", .noat "Order" "_places", .exm "BadRow" "BadNumber" false, .exm "BadRow" "BadRow" true]
def tfL : List He.Defn := [("law", none)]
abbrev looseL : List PySem.Str := "SettleError" :: "BadNumber" :: "BadRow" :: "is_from" :: "Order" :: "_triples_of" :: "_is_triple" :: "_weighed" :: "compare" :: "_first_unlike" :: "_way_by_heads" :: "_way" :: "_has_as_often" :: "_law_pen" :: "_law_draw" :: "_law_pick" :: "_law_why" :: []
abbrev exL : PySem.W.Frag → Bool := fun K => erB K (He.ga K "BadRow") (He.fAd K ("BadRow", some "__init__")) "row"
abbrev RL : PySem.W.OpenRow := PySem.W.OpenLaw.row PySem.Challenge.rw_downtoground_k14_orders_refused
abbrev hkL : PySem.W.Hook := He.hookX 5 faL fnL [] tfL exL
def obL (s : PySem.W.SharedT) : He.AlX := He.obsX 5 faL fnL [] tfL exL (HandSHeadRun.getT s)
theorem obL_eq (s : PySem.W.SharedT) : obL s = hkL.obs s.abs := He.obsX_eq (HandSHeadRun.getT_eq s)
theorem runL (w : World) : HandSHeadRun.RunEq RL (PySem.W.view RL.prog [21]) hkL obL 6000 Ad.looseL w := by
  intro os
  kernel_rfl
end Ad

/-! What the head tells, put together. -/
namespace Ad
open PySem PySem.Spec PyProof.Rows L2 GxR
theorem fun_of {K : PySem.W.Frag} {x q : Str} {st : Stmt} {f : Addr} {fd : FuncData} (F : FunD K x q (defArgs st) (defBody st) (defScope st) [] [] f fd) : Fun K x q st f fd := by
  obtain ⟨oc, od, dV, kV, doc, pm, an, cdv, ct, osl, e, lk, code, dfl, _⟩ := F.ex
  rcases dfl with ⟨_, rfl⟩ | ⟨z, _⟩
  · exact ⟨⟨oc, od, kV, doc, pm, an, cdv, ct, osl, e, lk, code⟩, F.kp⟩
  · exact absurd rfl z
theorem funC_of {K : PySem.W.Frag} {x q : Str} {st : Stmt} {p : He.Defn} {fd : FuncData} (F : FunD K x q (defArgs st) (defBody st) (defScope st) [] [] (He.fAd K p) fd) : FunC K x q st (He.fAd K p) (.ref (He.codeOf K p)) fd := by
  obtain ⟨oc, od, dV, kV, doc, pm, an, cdv, ct, osl, e, lk, code, dfl, _⟩ := F.ex
  rcases dfl with ⟨_, rfl⟩ | ⟨z, _⟩
  · obtain ⟨c, rfl⟩ := He.codeIn_ref code
    have e2 : He.codeOf K p = c := He.codeOf_eq lk (by rw [e]; first | done | rfl)
    rw [e2]
    exact ⟨⟨oc, od, kV, doc, pm, an, ct, osl, e, lk, code⟩, F.kp⟩
  · exact absurd rfl z
section
variable {w : World} {K : PySem.W.Frag} {h : Heap} {mg : Str → Option Value} {f : Addr}
theorem facts (X : K.In h) (G : h.Ns mainGlobals mg) (hfa : mg ("law" : Str) = some (.ref f)) (c : He.SaysX faL fnL [] tfL exL w h K) : LawGAt PySem.Challenge.rw_downtoground_k14_orders_refused w K CX0 12 63 "_law_script" mg f h := by
  have cd := c.t.d
  obtain ⟨d5, E5⟩ : ∃ fd, FunD K "is_from" "is_from" (defArgs (topS 5)) (defBody (topS 5)) (defScope (topS 5)) [] [] (He.fAd K ("is_from", none)) fd := cd.def_ 0 (d := dd 5 "is_from") rfl
  have F5 := fun_of E5
  have g5 : mg "is_from" = some (.ref (He.fAd K ("is_from", none))) := He.glo_ok X G (cd.fact 0 (f := .glo "is_from") rfl)
  have b5 : Binds K d5 ["value", "least"] [] := (fun_of E5).binds fun _ _ _ _ _ _ us hl => match us, hl with | [_, _], _ => rfl
  obtain ⟨d8, E8⟩ : ∃ fd, FunD K "_triples_of" "_triples_of" (defArgs (topS 8)) (defBody (topS 8)) (defScope (topS 8)) [] [] (He.fAd K ("_triples_of", none)) fd := cd.def_ 1 (d := dd 8 "_triples_of") rfl
  have F8 := fun_of E8
  have g8 : mg "_triples_of" = some (.ref (He.fAd K ("_triples_of", none))) := He.glo_ok X G (cd.fact 1 (f := .glo "_triples_of") rfl)
  have b8 : Binds K d8 ["row", "taken"] [] := (fun_of E8).binds fun _ _ _ _ _ _ us hl => match us, hl with | [_, _], _ => rfl
  obtain ⟨d9, E9⟩ : ∃ fd, FunD K "_is_triple" "_is_triple" (defArgs (topS 9)) (defBody (topS 9)) (defScope (topS 9)) [] [] (He.fAd K ("_is_triple", none)) fd := cd.def_ 2 (d := dd 9 "_is_triple") rfl
  have F9 := fun_of E9
  have g9 : mg "_is_triple" = some (.ref (He.fAd K ("_is_triple", none))) := He.glo_ok X G (cd.fact 2 (f := .glo "_is_triple") rfl)
  have b9 : Binds K d9 ["item"] [] := (fun_of E9).binds fun _ _ _ _ _ _ us hl => match us, hl with | [_], _ => rfl
  obtain ⟨d10, E10⟩ : ∃ fd, FunD K "_weighed" "_weighed" (defArgs (topS 10)) (defBody (topS 10)) (defScope (topS 10)) [] [] (He.fAd K ("_weighed", none)) fd := cd.def_ 3 (d := dd 10 "_weighed") rfl
  have F10 := fun_of E10
  have g10 : mg "_weighed" = some (.ref (He.fAd K ("_weighed", none))) := He.glo_ok X G (cd.fact 3 (f := .glo "_weighed") rfl)
  have b10 : Binds K d10 ["order", "term"] [] := (fun_of E10).binds fun _ _ _ _ _ _ us hl => match us, hl with | [_, _], _ => rfl
  obtain ⟨d11, E11⟩ : ∃ fd, FunD K "compare" "compare" (defArgs (topS 11)) (defBody (topS 11)) (defScope (topS 11)) [] [] (He.fAd K ("compare", none)) fd := cd.def_ 4 (d := dd 11 "compare") rfl
  have F11 := fun_of E11
  have g11 : mg "compare" = some (.ref (He.fAd K ("compare", none))) := He.glo_ok X G (cd.fact 4 (f := .glo "compare") rfl)
  have b11 : Binds K d11 ["order", "one", "other"] [] := (fun_of E11).binds fun _ _ _ _ _ _ us hl => match us, hl with | [_, _, _], _ => rfl
  obtain ⟨d12, E12⟩ : ∃ fd, FunD K "_first_unlike" "_first_unlike" (defArgs (topS 12)) (defBody (topS 12)) (defScope (topS 12)) [] [] (He.fAd K ("_first_unlike", none)) fd := cd.def_ 5 (d := dd 12 "_first_unlike") rfl
  have F12 := fun_of E12
  have g12 : mg "_first_unlike" = some (.ref (He.fAd K ("_first_unlike", none))) := He.glo_ok X G (cd.fact 5 (f := .glo "_first_unlike") rfl)
  have b12 : Binds K d12 ["one", "other"] [] := (fun_of E12).binds fun _ _ _ _ _ _ us hl => match us, hl with | [_, _], _ => rfl
  obtain ⟨d13, E13⟩ : ∃ fd, FunD K "_way_by_heads" "_way_by_heads" (defArgs (topS 13)) (defBody (topS 13)) (defScope (topS 13)) [] [] (He.fAd K ("_way_by_heads", none)) fd := cd.def_ 6 (d := dd 13 "_way_by_heads") rfl
  have F13 := fun_of E13
  have g13 : mg "_way_by_heads" = some (.ref (He.fAd K ("_way_by_heads", none))) := He.glo_ok X G (cd.fact 6 (f := .glo "_way_by_heads") rfl)
  have b13 : Binds K d13 ["order", "one", "other"] [] := (fun_of E13).binds fun _ _ _ _ _ _ us hl => match us, hl with | [_, _, _], _ => rfl
  obtain ⟨d14, E14⟩ : ∃ fd, FunD K "_way" "_way" (defArgs (topS 14)) (defBody (topS 14)) (defScope (topS 14)) [] [] (He.fAd K ("_way", none)) fd := cd.def_ 7 (d := dd 14 "_way") rfl
  have F14 := fun_of E14
  have g14 : mg "_way" = some (.ref (He.fAd K ("_way", none))) := He.glo_ok X G (cd.fact 7 (f := .glo "_way") rfl)
  have b14 : Binds K d14 ["one", "other"] [] := (fun_of E14).binds fun _ _ _ _ _ _ us hl => match us, hl with | [_, _], _ => rfl
  obtain ⟨d15, E15⟩ : ∃ fd, FunD K "_has_as_often" "_has_as_often" (defArgs (topS 15)) (defBody (topS 15)) (defScope (topS 15)) [] [] (He.fAd K ("_has_as_often", none)) fd := cd.def_ 8 (d := dd 15 "_has_as_often") rfl
  have F15 := fun_of E15
  have g15 : mg "_has_as_often" = some (.ref (He.fAd K ("_has_as_often", none))) := He.glo_ok X G (cd.fact 8 (f := .glo "_has_as_often") rfl)
  have b15 : Binds K d15 ["often", "least"] [] := (fun_of E15).binds fun _ _ _ _ _ _ us hl => match us, hl with | [_, _], _ => rfl
  obtain ⟨d17, E17⟩ : ∃ fd, FunD K "_law_pen" "_law_pen" (defArgs (topS 17)) (defBody (topS 17)) (defScope (topS 17)) [] [] (He.fAd K ("_law_pen", none)) fd := cd.def_ 9 (d := dd 17 "_law_pen") rfl
  have F17 := fun_of E17
  have g17 : mg "_law_pen" = some (.ref (He.fAd K ("_law_pen", none))) := He.glo_ok X G (cd.fact 9 (f := .glo "_law_pen") rfl)
  have b17 : Binds K d17 ["_law_script"] [] := (fun_of E17).binds fun _ _ _ _ _ _ us hl => match us, hl with | [_], _ => rfl
  obtain ⟨d18, E18⟩ : ∃ fd, FunD K "_law_draw" "_law_draw" (defArgs (topS 18)) (defBody (topS 18)) (defScope (topS 18)) [] [] (He.fAd K ("_law_draw", none)) fd := cd.def_ 10 (d := dd 18 "_law_draw") rfl
  have F18 := fun_of E18
  have g18 : mg "_law_draw" = some (.ref (He.fAd K ("_law_draw", none))) := He.glo_ok X G (cd.fact 10 (f := .glo "_law_draw") rfl)
  have b18 : Binds K d18 ["_law_pen_here", "_law_many"] [] := (fun_of E18).binds fun _ _ _ _ _ _ us hl => match us, hl with | [_, _], _ => rfl
  obtain ⟨d19, E19⟩ : ∃ fd, FunD K "_law_pick" "_law_pick" (defArgs (topS 19)) (defBody (topS 19)) (defScope (topS 19)) [] [] (He.fAd K ("_law_pick", none)) fd := cd.def_ 11 (d := dd 19 "_law_pick") rfl
  have F19 := fun_of E19
  have g19 : mg "_law_pick" = some (.ref (He.fAd K ("_law_pick", none))) := He.glo_ok X G (cd.fact 11 (f := .glo "_law_pick") rfl)
  have b19 : Binds K d19 ["_law_pen_here", "_law_some"] [] := (fun_of E19).binds fun _ _ _ _ _ _ us hl => match us, hl with | [_, _], _ => rfl
  obtain ⟨d20, E20⟩ : ∃ fd, FunD K "_law_why" "_law_why" (defArgs (topS 20)) (defBody (topS 20)) (defScope (topS 20)) [] [] (He.fAd K ("_law_why", none)) fd := cd.def_ 12 (d := dd 20 "_law_why") rfl
  have F20 := fun_of E20
  have g20 : mg "_law_why" = some (.ref (He.fAd K ("_law_why", none))) := He.glo_ok X G (cd.fact 12 (f := .glo "_law_why") rfl)
  have b20 : Binds K d20 ["_law_call"] [] := (fun_of E20).binds fun _ _ _ _ _ _ us hl => match us, hl with | [_], _ => rfl
  obtain ⟨d21, E21⟩ : ∃ fd, FunD K "law" "law" (defArgs (topS 21)) (defBody (topS 21)) (defScope (topS 21)) [] [] (He.fAd K ("law", none)) fd := cd.def_ 13 (d := dd 21 "law") rfl
  have F21 := fun_of E21
  have g21 : mg "law" = some (.ref (He.fAd K ("law", none))) := He.glo_ok X G (cd.fact 13 (f := .glo "law") rfl)
  have b21 : Binds K d21 ["_law_script"] [] := (fun_of E21).binds fun _ _ _ _ _ _ us hl => match us, hl with | [_], _ => rfl
  obtain ⟨dO, EO⟩ : ∃ fd, FunD K "__init__" "Order.__init__" (defArgs sOInit) (defBody sOInit) (defScope sOInit) [] [] (He.fAd K ("Order", some "__init__")) fd := cd.def_ 14 (d := ddO) rfl
  have FO := fun_of EO
  have bO : Binds K dO ["self", "things", "truths"] [] := (fun_of EO).binds fun _ _ _ _ _ _ us hl => match us, hl with | [_, _, _], _ => rfl
  obtain ⟨dE, EE⟩ : ∃ fd, FunD K "__init__" "BadRow.__init__" (defArgs sErRow) (defBody sErRow) (defScope sErRow) [] [] (He.fAd K ("BadRow", some "__init__")) fd := cd.def_ 15 (d := ddE) rfl
  have FE := fun_of EE
  have bE : Binds K dE ["self", "row"] [] := (fun_of EE).binds fun _ _ _ _ _ _ us hl => match us, hl with | [_, _], _ => rfl
  have m_isinstance : mg "isinstance" = none := He.free_ok X G (cd.fact 14 (f := .free "isinstance") rfl)
  have m_int : mg "int" = none := He.free_ok X G (cd.fact 15 (f := .free "int") rfl)
  have m_bool : mg "bool" = none := He.free_ok X G (cd.fact 16 (f := .free "bool") rfl)
  have m_list : mg "list" = none := He.free_ok X G (cd.fact 17 (f := .free "list") rfl)
  have m_tuple : mg "tuple" = none := He.free_ok X G (cd.fact 18 (f := .free "tuple") rfl)
  have m_len : mg "len" = none := He.free_ok X G (cd.fact 19 (f := .free "len") rfl)
  have m_str : mg "str" = none := He.free_ok X G (cd.fact 20 (f := .free "str") rfl)
  have m_enumerate : mg "enumerate" = none := He.free_ok X G (cd.fact 21 (f := .free "enumerate") rfl)
  have m_zip : mg "zip" = none := He.free_ok X G (cd.fact 22 (f := .free "zip") rfl)
  have m_repr : mg "repr" = none := He.free_ok X G (cd.fact 23 (f := .free "repr") rfl)
  have gOrder : mg "Order" = some (.ref (He.ga K "Order")) := He.glo_ok X G (cd.fact 24 (f := .glo "Order") rfl)
  have gBadRow : mg "BadRow" = some (.ref (He.ga K "BadRow")) := He.glo_ok X G (cd.fact 25 (f := .glo "BadRow") rfl)
  have gBadNumber : mg "BadNumber" = some (.ref (He.ga K "BadNumber")) := He.glo_ok X G (cd.fact 26 (f := .glo "BadNumber") rfl)
  have cls : Cls K (He.ga K "Order") := He.cls_ok (cd.fact 27 (f := .cls "Order") rfl)
  have MO : L2.Mk K (He.ga K "Order") (He.fAd K ("Order", some "__init__")) := He.mkr_ok (cd.fact 28 (f := .mkr "Order") rfl)
  have na0 : NoAttr K (He.ga K "Order") "things" := He.noat_ok (cd.fact 29 (f := .noat "Order" "things") rfl)
  have na1 : NoAttr K (He.ga K "Order") "truths" := He.noat_ok (cd.fact 30 (f := .noat "Order" "truths") rfl)
  have na2 : NoAttr K (He.ga K "Order") "_weights" := He.noat_ok (cd.fact 31 (f := .noat "Order" "_weights") rfl)
  have na3 : NoAttr K (He.ga K "Order") "_places" := He.noat_ok (cd.fact 32 (f := .noat "Order" "_places") rfl)
  have xN : PySem.W.exmOne K (.ref (He.ga K "BadRow")) (.ref (He.ga K "BadNumber")) = some false := He.exm_ok (cd.fact 33 (f := .exm "BadRow" "BadNumber" false) rfl)
  have xR : PySem.W.exmOne K (.ref (He.ga K "BadRow")) (.ref (He.ga K "BadRow")) = some true := He.exm_ok (cd.fact 34 (f := .exm "BadRow" "BadRow" true) rfl)
  have law0 : f = He.fAd K ("law", none) := by
    have e := hfa.symm.trans g21
    cases e
    rfl
  subst law0
  have codeHd := c.hd ("law", none) List.mem_cons_self
  have TR : Er K (He.ga K "BadRow") (He.fAd K ("BadRow", some "__init__")) "row" := erB_ok c.more
  refine ⟨d21, [He.cT K ("law", none)], spLaw K (He.cT K ("law", none)).2, ?_, ?_, ?_, ?_, ?_, ?_⟩
  · intro p hp
    cases List.mem_singleton.mp hp
    exact c.empty _ List.mem_cons_self
  · intro p hp
    cases List.mem_singleton.mp hp
    exact c.out _ List.mem_cons_self
  · intro p hp
    cases List.mem_singleton.mp hp
    exact PySem.W.codeHd_of_K X codeHd
  · exact fun s v => FunD.bindsA (ps := ["_law_script"]) E21 (fun _ _ _ _ _ _ us hl => match us, hl with | [_], _ => rfl) s [v] rfl
  · intro H a ns few tabs seq
    exact ⟨a, ns, rfl, seq, few, tabs _ List.mem_cons_self, fun _ => rfl⟩
  · intro base inB nsB tb
    have tb0 := tb _ List.mem_cons_self
    have GDr : FnOk PySem.Challenge.rw_downtoground_k14_orders_refused.prog w K mg base CX0 1 _ d18 ["_law_pen_here", "_law_many"] Pn.spDraw := Pn.ok_draw F18 m_int m_len
    have GPi : FnOk PySem.Challenge.rw_downtoground_k14_orders_refused.prog w K mg base CX0 2 _ d19 ["_law_pen_here", "_law_some"] (Pn.spPick K) := Pn.ok_pick F19 GDr g18 F18.kp b18 m_len
    have GPe : FnOk PySem.Challenge.rw_downtoground_k14_orders_refused.prog w K mg base CX0 1 _ d17 ["_law_script"] (Pn.spPen K) := Pn.ok_pen (k := 0) F17 m_int m_list
    have GWe : FnOk PySem.Challenge.rw_downtoground_k14_orders_refused.prog w K mg base CX0 2 _ d10 ["order", "term"] (spWeighed K (He.ga K "Order")) := ok_weighed F10 (k := 1) m_isinstance m_int cls na2
    have GWy : FnOk PySem.Challenge.rw_downtoground_k14_orders_refused.prog w K mg base CX0 1 _ d14 ["one", "other"] spWay := ok_way (k := 0) F14
    have GOf : FnOk PySem.Challenge.rw_downtoground_k14_orders_refused.prog w K mg base CX0 1 _ d15 ["often", "least"] spOften := ok_often (k := 0) F15
    have GHd : FnOk PySem.Challenge.rw_downtoground_k14_orders_refused.prog w K mg base CX0 2 _ d13 ["order", "one", "other"] (spHeads K (He.ga K "Order")) := ok_heads F13 GWy g14 F14.kp b14 m_isinstance m_int cls na3
    have GFu : FnOk PySem.Challenge.rw_downtoground_k14_orders_refused.prog w K mg base CX0 1 _ d12 ["one", "other"] (spFirstUn K) := ok_firstun (k := 0) F12
    have GCm : FnOk PySem.Challenge.rw_downtoground_k14_orders_refused.prog w K mg base CX0 3 _ d11 ["order", "one", "other"] (spCmp K (He.ga K "Order") 3) := ok_compare F11 GWe g10 F10.kp b10 GHd g13 F13.kp b13 (GFu.mono (by decide : 1 ≤ 2)) g12 F12.kp b12 (GOf.mono (by decide : 1 ≤ 2)) g15 F15.kp b15 m_isinstance m_int 3
    have GFr : FnOk PySem.Challenge.rw_downtoground_k14_orders_refused.prog w K mg base CX0 1 _ d5 ["value", "least"] spFrom := ok_from (k := 0) F5 m_isinstance m_int m_bool
    have GTr : FnOk PySem.Challenge.rw_downtoground_k14_orders_refused.prog w K mg base CX0 2 _ d9 ["item"] (spTriple K) := ok_triple F9 GFr g5 F5.kp b5 m_isinstance m_list m_tuple m_len m_str
    have GTs : FnOk PySem.Challenge.rw_downtoground_k14_orders_refused.prog w K mg base CX0 3 _ d8 ["row", "taken"] (spTriples K) := ok_triples F8 GTr g9 F9.kp b9 m_isinstance m_list m_tuple
    have GOI : FnOk PySem.Challenge.rw_downtoground_k14_orders_refused.prog w K mg base CX0 4 _ dO ["self", "things", "truths"] (spOInit K (He.ga K "Order")) := ok_oinit FO GTs g8 F8.kp b8 m_enumerate cls na0 na1 na2 na3
    have GFD : FnOk PySem.Challenge.rw_downtoground_k14_orders_refused.prog w K mg base CX0 1 _ d5 ["value", "least"] (spFromD K) := ok_fromD (k := 0) F5 m_isinstance m_int m_bool
    have GTD : FnOk PySem.Challenge.rw_downtoground_k14_orders_refused.prog w K mg base CX0 2 _ d9 ["item"] (spTripleD K) := ok_tripleD F9 ⟨GFD.mono (by decide), g5, F5.kp, b5⟩ m_isinstance m_list m_tuple m_len m_str
    have GSD : FnOk PySem.Challenge.rw_downtoground_k14_orders_refused.prog w K mg base CX0 3 _ d8 ["row", "taken"] (spTriplesD K) := ok_triplesD F8 ⟨GTD.mono (by decide), g9, F9.kp, b9⟩ m_isinstance m_list m_tuple
    have GE : FnOk PySem.Challenge.rw_downtoground_k14_orders_refused.prog w K mg base CX0 1 _ dE ["self", "row"] (spEr (He.ga K "BadRow") "row") := ok_errow FE TR
    have GX : FnOk PySem.Challenge.rw_downtoground_k14_orders_refused.prog w K mg base (L2.CX PySem.Challenge.rw_downtoground_k14_orders_refused.prog w) 5 _ dO ["self", "things", "truths"] (spOInitX K (He.ga K "Order") (He.ga K "BadRow")) := ok_oinitX FO ⟨GSD.mono (by decide), g8, F8.kp, b8⟩ TR (GE.mono (by decide : 1 ≤ 3)) gBadRow bE
    exact ok_law (j := 8) (funC_of (p := ("law", none)) E21) ⟨tb0.code, tb0.bm, tb0.gP⟩ ⟨GPe.mono (by decide), g17, F17.kp, b17⟩ ⟨GPi.mono (by decide), g19, F19.kp, b19⟩ ⟨GCm.mono (by decide), g11, F11.kp, b11⟩ F20 g20 b20 MO (GOI.mono (by decide)) (GX.mono (by decide)) gOrder bO TR gBadRow gBadNumber xN xR cls na0 na1 m_repr
end
end Ad

open PySem PySem.W PySem.Calls PyProof.Rows
theorem PySem.Challenge.cw_downtoground_k14_orders_refused_holds : PySem.Challenge.rw_downtoground_k14_orders_refused.Holds := by
  w_on
  o_law
  refine HandSHeadRun.head_any (r := OpenLaw.row PySem.Challenge.rw_downtoground_k14_orders_refused) (q := view (OpenLaw.row PySem.Challenge.rw_downtoground_k14_orders_refused).prog [21]) (H := Ad.hkL) (ob := Ad.obL) (M := 6000) (loose := Ad.looseL)
    (d := HandSHeadRun.topDef (OpenLaw.row PySem.Challenge.rw_downtoground_k14_orders_refused).prog 21) (kwd := []) Ad.obL_eq (by kernel_rfl) (fun s => by kernel_rfl) Ad.runL (by kernel_rfl) (by kernel_rfl) (by kernel_rfl) (by rfl) (by first | assumption | decide +kernel) (by decide +kernel) ⟨rfl, rfl, rfl, rfl, rfl, by decide +kernel⟩ ?hw ?hc
  case hw => w_witness2
  case hc =>
    refine Ad.walkGT (l := PySem.Challenge.rw_downtoground_k14_orders_refused) (n := 63) (k := 12) (x := "_law_script") (CX := fun _ => L2.CX0) rfl (by decide) (by kernel_rfl) ⟨rfl, by decide, by decide⟩ ?F (fun _ _ _ _ _ z => z)
    intro w mg fa h ⟨K, KX, c⟩ G named
    have e : (HandSHeadRun.topDef (OpenLaw.row PySem.Challenge.rw_downtoground_k14_orders_refused).prog 21).name = ("law" : PySem.Str) := by kernel_rfl
    rw [e] at named
    exact ⟨K, KX, Ad.facts KX G named c⟩

